import PyProof.Rows.All
import Wide.All
import OpenK.AllK
import Wide.FinOn
import Lean
import PyProof.EqAt
import PyProof.EqKinds
import PyProof.TupleCall
import PySem.Challenge.RW_glowboard_k04_what_makes_no_picture
set_option Elab.async false
set_option linter.all false
set_option maxRecDepth 100000
/-! THE HAND LAYER, for ints, bools, texts, own classes, LISTS and tuples (index, slices, in, append, pop ..), calls, loops. Paste it whole ahead of your own text; what your proof does not reach may be deleted. -/
namespace L2
open PySem PySem.Spec PyProof.Rows

/-- a key: an int or a str -/
abbrev Key := Sum Int Str
def keyIs : Key → Value → Bool
  | .inl k, v => Value.isInt k v
  | .inr x, v => Value.isStrOf x v
def keyH (w : World) : Key → Int
  | .inl k => hashInt k
  | .inr x => hashStr w x
theorem keyIs_shape : ∀ {k : Key} {v : Value}, keyIs k v = true → (∃ i t, k = Sum.inl i ∧ v = Value.int i t) ∨ (∃ x t, k = Sum.inr x ∧ v = Value.str x t)
  | .inl i, v, h => by
    obtain ⟨t, e⟩ := Value.isInt_shape (k := i) (v := v) h
    exact .inl ⟨i, t, rfl, e⟩
  | .inr x, v, h => by
    obtain ⟨t, e⟩ := Value.isStrOf_shape (x := x) (v := v) h
    exact .inr ⟨x, t, rfl, e⟩
theorem keyIs_int (i : Int) (t : Tok) : keyIs (.inl i) (.int i t) = true := by simp [keyIs, Value.isInt]
theorem keyIs_str (x : Str) (t : Tok) : keyIs (.inr x) (.str x t) = true := by simp [keyIs, Value.isStrOf]
theorem key_ll (a b : Int) : decide ((Sum.inl a : Key) = Sum.inl b) = (a == b) := by
  by_cases e : a = b
  · subst e; simp
  · have h : ¬ (Sum.inl a : Key) = Sum.inl b := fun q => e (Sum.inl.inj q)
    rw [decide_eq_false h]
    exact (beq_eq_false_iff_ne.mpr e).symm
theorem key_rr (a b : Str) : decide ((Sum.inr a : Key) = Sum.inr b) = decide (a = b) := by
  by_cases e : a = b
  · subst e; simp
  · have h : ¬ (Sum.inr a : Key) = Sum.inr b := fun q => e (Sum.inr.inj q)
    rw [decide_eq_false h, decide_eq_false e]
theorem key_lr (a : Int) (b : Str) : decide ((Sum.inl a : Key) = Sum.inr b) = false := decide_eq_false (fun q => nomatch q)
theorem key_rl (a : Str) (b : Int) : decide ((Sum.inr a : Key) = Sum.inl b) = false := decide_eq_false (fun q => nomatch q)

def mixKind (prog : Program) (w : World) : PySem.KeyKind prog w Key where
  is := keyIs
  hash := keyH w
  inj := fun v a b ha hb => by
    rcases keyIs_shape ha with ⟨i, t, rfl, rfl⟩ | ⟨x, t, rfl, rfl⟩
    · rcases keyIs_shape hb with ⟨j, u, rfl, e⟩ | ⟨y, u, rfl, e⟩
      · injection e with e1 _; rw [e1]
      · exact nomatch e
    · rcases keyIs_shape hb with ⟨j, u, rfl, e⟩ | ⟨y, u, rfl, e⟩
      · exact nomatch e
      · injection e with e1 _; rw [e1]
  byValue := fun k v h => by
    rcases keyIs_shape h with ⟨i, t, rfl, rfl⟩ | ⟨x, t, rfl, rfl⟩ <;> rfl
  pyHash := fun hv h => by
    rcases keyIs_shape hv with ⟨i, t, rfl, rfl⟩ | ⟨x, t, rfl, rfl⟩
    · exact wpAny_pyHash_int h
    · exact wpAny_pyHash_str h
  eqBool := fun hu hv h => by
    rcases keyIs_shape hu with ⟨i, t, rfl, rfl⟩ | ⟨x, t, rfl, rfl⟩
    · rcases keyIs_shape hv with ⟨j, u, rfl, rfl⟩ | ⟨y, u, rfl, rfl⟩
      · rw [key_ll] at h; exact wpAny_eqBool_int h
      · rw [key_lr] at h; exact SeqAt.EqAt.int_str i t y u _ _ _ _ h
    · rcases keyIs_shape hv with ⟨j, u, rfl, rfl⟩ | ⟨y, u, rfl, rfl⟩
      · rw [key_rl] at h; exact SeqAt.EqAt.str_int x t j u _ _ _ _ h
      · rw [key_rr] at h; exact wpAny_eqBool_str h
  «strs» := fun k x t v h => by
    rcases keyIs_shape h with ⟨i, u, rfl, e⟩ | ⟨y, u, rfl, e⟩
    · exact nomatch e
    · injection e with e1 _
      subst e1
      cases v <;> rfl

theorem mixKind_int (prog : Program) (w : World) (i : Int) (t : Tok) : (mixKind prog w).is (.inl i) (.int i t) = true := keyIs_int i t
theorem mixKind_str (prog : Program) (w : World) (x : Str) (t : Tok) : (mixKind prog w).is (.inr x) (.str x t) = true := keyIs_str x t
end L2

namespace L2
open PySem PySem.Spec PyProof.Rows

/-- a value, without the heap -/
inductive V where
  | non | bl (b : Bool) | int (i : Int) | str (x : Str) | byt (b : Array UInt8) | flt (b : UInt64) | ref (a : Addr) | ty (n : String)
  deriving DecidableEq

def RelV : V → Value → Prop
  | .non, u => u = Value.none
  | .bl b, u => u = Value.bool b
  | .int i, u => ∃ t, u = Value.int i t
  | .str x, u => ∃ t, u = Value.str x t
  | .byt b, u => ∃ t, u = Value.bytes b t
  | .flt b, u => ∃ t, u = Value.float b t
  | .ref a, u => u = Value.ref a
  | .ty n, u => u = Value.type n

abbrev Vals : List V → List Value → Prop := Paired RelV
theorem Vals.length {xs : List V} {us : List Value} (r : Vals xs us) : xs.length = us.length := Paired.length r
theorem Vals.get : ∀ {xs : List V} {us : List Value} {i : Nat} {x : V}, Vals xs us → xs[i]? = some x → ∃ u, us[i]? = some u ∧ RelV x u
  | _, _, _, _, .nil, e => by simp at e
  | _, _, 0, _, .cons r _, e => by simp at e; subst e; exact ⟨_, rfl, r⟩
  | _, _, i + 1, x, .cons _ t, e => by
    obtain ⟨u, h1, h2⟩ := Vals.get (i := i) (x := x) t (by simpa using e)
    exact ⟨u, by simpa using h1, h2⟩
theorem Vals.set {x : V} {u : Value} (r : RelV x u) : ∀ {xs : List V} {us : List Value} (i : Nat), Vals xs us → Vals (xs.set i x) (us.set i u)
  | _, _, _, .nil => .nil
  | _, _, 0, .cons _ t => .cons r t
  | _, _, i + 1, .cons q t => .cons q (Vals.set r i t)
theorem Vals.append : ∀ {xs ys : List V} {us ws : List Value}, Vals xs us → Vals ys ws → Vals (xs ++ ys) (us ++ ws)
  | _, _, _, _, .nil, s => s
  | _, _, _, _, .cons r t, s => .cons r (Vals.append t s)
theorem Vals.take : ∀ {xs : List V} {us : List Value} (n : Nat), Vals xs us → Vals (xs.take n) (us.take n)
  | _, _, 0, _ => .nil
  | _, _, _ + 1, .nil => .nil
  | _, _, n + 1, .cons r t => .cons r (Vals.take n t)
theorem Vals.drop : ∀ {xs : List V} {us : List Value} (n : Nat), Vals xs us → Vals (xs.drop n) (us.drop n)
  | _, _, 0, r => r
  | _, _, _ + 1, .nil => .nil
  | _, _, n + 1, .cons _ t => Vals.drop n t
def RelO : Option V → Option Value → Prop
  | some v, some u => RelV v u
  | none, none => True
  | _, _ => False
def KV {κ : Type} : List (κ × V) → List (κ × Value) → Prop := Paired fun (p : κ × V) (q : κ × Value) => p.1 = q.1 ∧ RelV p.2 q.2

/-- a key of a dict (00_mix): an int or a text -/
def kV : Key → V
  | .inl i => .int i
  | .inr x => .str x

/-- what stands at a tracked address -/
inductive HO where
  /-- a list -/
  | lst (xs : List V)
  /-- a tuple (never changes) -/
  | tup (xs : List V)
  /-- a dict whose keys are ints and texts; one whose keys are tuples of ints and texts (the empty one is both) -/
  | dK (kvs : List (Key × V)) | dT (kvs : List (List Key × V))
  /-- a set of ints: its members, its size -/
  | set (S : Int → Bool) (n : Nat)
  /-- an instance of the class at C, its dict at dx, its attributes -/
  | ins (C dx : Addr) (fs : List (Str × V))
  /-- the dict of the instance at x -/
  | own (x : Addr)
  /-- the dict of an exception -/
  | xd (fs : List (Str × V))
  /-- a bound method, f of x -/
  | met (f x : Addr)
  /-- a range object lo, lo + 1, .. below hi -/
  | rng (lo hi : Int)
  /-- a thing that is known to the object (the script; a dict while a loop walks it): read, never written while it is so -/
  | frz (o : Obj) (u : HO)
  /-- a code object's table -/
  | tbl (ps : Array Value)
  /-- any other thing, by what is true of its one object (a def of one's own: SetO a S n := HO.ext fun h => ..) -/
  | ext (φ : Heap → Prop)

abbrev Hp := Addr → Option HO
def upd (H : Hp) (a : Addr) (o : HO) : Hp := fun b => if b = a then some o else H b
theorem upd_same {H : Hp} {a : Addr} {o : HO} : upd H a o a = some o := by unfold upd; rw [if_pos rfl]
theorem upd_ne {H : Hp} {a b : Addr} {o : HO} (h : b ≠ a) : upd H a o b = H b := by unfold upd; rw [if_neg h]
theorem upd_upd {H : Hp} {a : Addr} {o u : HO} : upd (upd H a o) a u = upd H a u := by
  funext b; unfold upd; split <;> rfl
theorem ne_of_none {H : Hp} {a b : Addr} {o : HO} (h : H a = some o) (h' : H b = none) : a ≠ b := by
  intro e; subst e; rw [h] at h'; cases h'

section
variable (P : Program) (w : World)
def ObjOk (H : Hp) (h : Heap) (a : Addr) : HO → Prop
  | .lst xs => xs.length ≤ sizeLine ∧ ∃ (its : List Value) (n : Nat), Vals xs its ∧ h.get? a = some { cls := .type "list", data := .seq its.toArray n }
  | .tup xs => xs.length ≤ sizeLine ∧ ∃ its : List Value, Vals xs its ∧ IsTup h a its.toArray
  | .dK kvs => kvs.length ≤ sizeLine ∧ (a == sysModules) = false ∧ ∃ vs, KV kvs vs ∧ h.DictOf (mixKind P w) a vs
  | .dT kvs => kvs.length ≤ sizeLine ∧ (a == sysModules) = false ∧ ∃ xs : List (List Key × Addr × Value),
      Paired (fun (p : List Key × V) (q : List Key × Addr × Value) => p.1 = q.1 ∧ H q.2.1 = some (.tup (p.1.map kV)) ∧ RelV p.2 q.2.2) kvs xs ∧
      ∃ o es ep, h.get? a = some o ∧ o.ExactDict ∧ o.data = .dict es ep ∧ es.toList = xs.map (entryOfKey (tupleKind (mixKind P w))) ∧ (xs.map (·.1)).Nodup
  | .set S n => h.SetOf (intKind P w) a S n
  | .ins C dx fs => H dx = some (.own a) ∧ fs.length ≤ 1000 ∧ dx ≠ a ∧ h.get? a = some (PySem.W.instObj C dx) ∧
      ∃ mA, h.Ns1 dx mA ∧ (∀ f, RelO (fs.lookup f) (mA f)) ∧ PySem.Within mA (fs.map (·.1))
  | .own _ => ∃ o, h.get? a = some o
  | .xd fs => ∃ mA, h.Ns1 a mA ∧ ∀ f, RelO (fs.lookup f) (mA f)
  | .rng lo hi => ∃ t u v, h.get? a = some { cls := .type "range", data := .fields #[.int lo t, .int hi u, .int 1 v] }
  | .frz o u => h.get? a = some o ∧ ObjOk H h a u
  | .tbl ps => h.get? a = some { cls := .none, data := .fields ps }
  | .met f x => h.get? a = some (PySem.W.methodObj (.ref f) (.ref x))
  | .ext φ => φ h ∧ (∃ o, h.get? a = some o) ∧ ∀ h1 h2 : Heap, φ h1 → (∀ o, h1.get? a = some o → h2.get? a = some o) → φ h2
/-- the abstract heap is held -/
def HOk (H : Hp) (h : Heap) : Prop := ∀ a o, H a = some o → ObjOk P w H h a o
end

section
variable {P : Program} {w : World} {H H' : Hp} {h h' : Heap} {a : Addr} {o : HO}
theorem ObjOk.lt (x : ObjOk P w H h a o) : a < h.objs.size := by
  cases o with
  | lst xs => obtain ⟨_, _, _, _, e⟩ := x; exact Heap.lt_size e
  | tup xs => obtain ⟨_, _, _, p⟩ := x; exact p.lt
  | dK kvs => obtain ⟨_, _, _, _, o, _, _, e, _⟩ := x; exact Heap.lt_size e
  | dT kvs => obtain ⟨_, _, _, _, o, _, _, e, _⟩ := x; exact Heap.lt_size e
  | set S n => obtain ⟨o, _, _, _, e, _⟩ := x; exact Heap.lt_size e
  | ins C dx fs => obtain ⟨_, _, _, e, _⟩ := x; exact Heap.lt_size e
  | own y => obtain ⟨_, e⟩ := x; exact Heap.lt_size e
  | xd fs => obtain ⟨_, ⟨_, _, _, e, _⟩, _⟩ := x; exact Heap.lt_size e
  | rng lo hi => obtain ⟨_, _, _, e⟩ := x; exact Heap.lt_size e
  | frz ob u => obtain ⟨e, _⟩ := x; exact Heap.lt_size e
  | tbl ps => exact Heap.lt_size (show h.get? a = some _ from x)
  | met f y => exact Heap.lt_size (show h.get? a = some _ from x)
  | ext φ => obtain ⟨_, ⟨_, e⟩, _⟩ := x; exact Heap.lt_size e
theorem Paired.mapP {α β : Type} {F G : α → β → Prop} : ∀ {l₁ : List α} {l₂ : List β}, Paired F l₁ l₂ → (∀ a b, F a b → G a b) → Paired G l₁ l₂
  | _, _, .nil, _ => .nil
  | _, _, .cons r t, f => .cons (f _ _ r) (Paired.mapP t f)
/-- what an object's description leans on: its own object, its own dict, the tuples -/
theorem ObjOk.stay (x : ObjOk P w H h a o) (k : ∀ b u, (b = a ∨ H b = some (.own a)) → h.get? b = some u → h'.get? b = some u)
    (ho : ∀ b, H b = some (.own a) → H' b = some (.own a)) (ht : ∀ b xs, H b = some (.tup xs) → H' b = some (.tup xs)) : ObjOk P w H' h' a o := by
  induction o with
  | lst xs => obtain ⟨z, its, n, r, e⟩ := x; exact ⟨z, its, n, r, k _ _ (.inl rfl) e⟩
  | tup xs => obtain ⟨z, its, r, ob, e, c⟩ := x; exact ⟨z, its, r, ob, k _ _ (.inl rfl) e, c⟩
  | dK kvs => obtain ⟨z, y, vs, r, ob, es, ep, e, c⟩ := x; exact ⟨z, y, vs, r, ob, es, ep, k _ _ (.inl rfl) e, c⟩
  | dT kvs =>
    obtain ⟨z, y, xs, r, ob, es, ep, e, c⟩ := x
    exact ⟨z, y, xs, Paired.mapP r fun p q z => ⟨z.1, ht _ _ z.2.1, z.2.2⟩, ob, es, ep, k _ _ (.inl rfl) e, c⟩
  | set S n => obtain ⟨ob, es, ep, t, e, c⟩ := x; exact ⟨ob, es, ep, t, k _ _ (.inl rfl) e, c⟩
  | ins C dx fs =>
    obtain ⟨d, z, ne, e, mA, ⟨od, es, ep, e2, c⟩, r⟩ := x
    exact ⟨ho _ d, z, ne, k _ _ (.inl rfl) e, mA, ⟨od, es, ep, k _ _ (.inr d) e2, c⟩, r⟩
  | own y => obtain ⟨ob, e⟩ := x; exact ⟨ob, k _ _ (.inl rfl) e⟩
  | xd fs => obtain ⟨mA, ⟨od, es, ep, e, c⟩, r⟩ := x; exact ⟨mA, ⟨od, es, ep, k _ _ (.inl rfl) e, c⟩, r⟩
  | rng lo hi => obtain ⟨t, u, v, e⟩ := x; exact ⟨t, u, v, k _ _ (.inl rfl) e⟩
  | frz ob u ih => obtain ⟨e, q⟩ := x; exact ⟨k _ _ (.inl rfl) e, ih q⟩
  | tbl ps =>
    have e : h.get? a = some { cls := .none, data := .fields ps } := x
    show h'.get? a = some { cls := .none, data := .fields ps }
    exact k a _ (.inl rfl) e
  | met f y =>
    have e : h.get? a = some (PySem.W.methodObj (.ref f) (.ref y)) := x
    show h'.get? a = some (PySem.W.methodObj (.ref f) (.ref y))
    exact k a _ (.inl rfl) e
  | ext φ => obtain ⟨p, ⟨o, e⟩, st⟩ := x; exact ⟨st _ _ p fun o q => k _ _ (.inl rfl) q, ⟨o, k _ _ (.inl rfl) e⟩, st⟩
theorem HOk.lt (x : HOk P w H h) (e : H a = some o) : a < h.objs.size := (x a o e).lt
theorem HOk.fresh (x : HOk P w H h) (e : h.objs.size ≤ a) : H a = none := by
  cases q : H a with
  | none => rfl
  | some u => exact absurd (Nat.lt_of_lt_of_le (x.lt q) e) (Nat.lt_irrefl _)
/-- every object of the heap is kept -/
theorem HOk.kept (x : HOk P w H h) (k : ∀ b u, h.get? b = some u → h'.get? b = some u) : HOk P w H h' := fun a o e =>
  (x a o e).stay (fun b u _ q => k b u q) (fun _ q => q) fun _ _ q => q
/-- a new object is laid and tracked -/
theorem HOk.laid (x : HOk P w H h) (k : ∀ b u, h.get? b = some u → h'.get? b = some u) (hp : h.objs.size ≤ a) (new : ObjOk P w (upd H a o) h' a o) : HOk P w (upd H a o) h' := fun b u e => by
  have hn := x.fresh hp
  by_cases hb : b = a
  · subst hb; rw [upd_same] at e; cases e; exact new
  · rw [upd_ne hb] at e
    exact (x b u e).stay (fun c v _ q => k c v q) (fun c q => by rw [upd_ne (ne_of_none q hn)]; exact q) fun c xs q => by rw [upd_ne (ne_of_none q hn)]; exact q
end

/-- what may be read as u: it is u, or a known u -/
def Rd (H : Hp) (a : Addr) (u : HO) : Prop := H a = some u ∨ ∃ o, H a = some (.frz o u)
theorem Rd.of {H : Hp} {a : Addr} {u : HO} (h : H a = some u) : Rd H a u := .inl h
theorem Rd.ok {P : Program} {w : World} {H : Hp} {h : Heap} {a : Addr} {u : HO} (r : Rd H a u) (x : HOk P w H h) : ObjOk P w H h a u := by
  rcases r with r | ⟨o, r⟩
  · exact x a u r
  · obtain ⟨_, q⟩ := x a _ r
    exact q
/-- what may be written -/
def Mut : Option HO → Prop
  | some (.lst _) => True
  | some (.dK _) => True
  | some (.dT _) => True
  | some (.set _ _) => True
  | some (.ins _ _ _) => True
  | some (.ext _) => True
  | _ => False
section
variable {P : Program} {w : World} {H : Hp} {h h' : Heap} {x e : Addr} {o' : HO}
/-- the object at e is changed: x itself, or the dict of the instance x -/
theorem HOk.write (ok : HOk P w H h) (mu : Mut (H x)) (he : e = x ∨ H e = some (.own x)) (k : ∀ b u, b ≠ e → h.get? b = some u → h'.get? b = some u) (heo : ∃ u, h'.get? e = some u)
    (new : ObjOk P w (upd H x o') h' x o') : HOk P w (upd H x o') h' := fun b u q => by
  have nown : ∀ c y, H c = some (.own y) → c ≠ x := fun c y r z => by subst z; rw [r] at mu; exact mu
  have ntup : ∀ c xs, H c = some (.tup xs) → c ≠ x := fun c xs r z => by subst z; rw [r] at mu; exact mu
  by_cases hb : b = x
  · subst hb; rw [upd_same] at q; cases q; exact new
  · rw [upd_ne hb] at q
    by_cases hbe : b = e
    · have q' : H b = some (.own x) := by
        rcases he with z | z
        · exact absurd (hbe.trans z) hb
        · rw [hbe]; exact z
      rw [q] at q'; cases q'
      obtain ⟨v, hv⟩ := heo
      exact ⟨v, by rw [hbe]; exact hv⟩
    · refine (ok b u q).stay (fun c v hc r => k c v ?_ r) (fun c r => by rw [upd_ne (nown c b r)]; exact r) fun c xs r => by rw [upd_ne (ntup c xs r)]; exact r
      rcases hc with rfl | hc
      · exact hbe
      · rintro rfl
        rcases he with z | z
        · exact nown c b hc z
        · rw [hc] at z; cases z; exact hb rfl
end

/-! ### kept unless tracked; of the frames at fs (the callers') the slots may change (an exception that passes writes there); of the records at ex (iterators) nothing is said -/
structure Un (fs ex : List Addr) (H H' : Hp) (h h' : Heap) : Prop where
  keep : ∀ b o, h.get? b = some o → H b = none → b ∉ fs → b ∉ ex → h'.get? b = some o
  slot : ∀ b o, h.get? b = some o → H b = none → b ∈ fs → b ∉ ex → ∃ sl, h'.get? b = some { o with slots := sl }
  free : ∀ b o, h.get? b = some o → H b = none → b ∉ ex → H' b = none
  there : ∀ b o, h.get? b = some o → b ∉ ex → ∃ o', h'.get? b = some o'
  tups : ∀ b xs, H b = some (.tup xs) → H' b = some (.tup xs)
  frzs : ∀ b o u, H b = some (.frz o u) → H' b = some (.frz o u)
  tbls : ∀ b ps, H b = some (.tbl ps) → ∃ more, H' b = some (.tbl (ps ++ more))
section
variable {fs fs' ex ex' : List Addr} {H H1 H2 : Hp} {h h1 h2 h' : Heap} {a x e : Addr} {o : HO}
theorem Un.any (u : Un fs ex H H1 h h1) {b : Addr} {ob : Obj} (q : h.get? b = some ob) (n : H b = none) (hx : b ∉ ex) : ∃ sl, h1.get? b = some { ob with slots := sl } := by
  by_cases hb : b ∈ fs
  · exact u.slot b ob q n hb hx
  · exact ⟨ob.slots, u.keep b ob q n hb hx⟩
theorem Un.trans (a : Un fs ex H H1 h h1) (b : Un fs ex H1 H2 h1 h2) : Un fs ex H H2 h h2 where
  keep := fun c ob q n hc hx => b.keep c ob (a.keep c ob q n hc hx) (a.free c ob q n hx) hc hx
  slot := fun c ob q n hc hx => by
    obtain ⟨sl, e1⟩ := a.slot c ob q n hc hx
    obtain ⟨sl', e2⟩ := b.slot c _ e1 (a.free c ob q n hx) hc hx
    exact ⟨sl', e2⟩
  free := fun c ob q n hx => by
    obtain ⟨o', e1⟩ := a.there c ob q hx
    exact b.free c o' e1 (a.free c ob q n hx) hx
  there := fun c ob q hx => by
    obtain ⟨o', e1⟩ := a.there c ob q hx
    exact b.there c o' e1 hx
  tups := fun c xs q => b.tups c xs (a.tups c xs q)
  frzs := fun c ob xs q => b.frzs c ob xs (a.frzs c ob xs q)
  tbls := fun c ps q => by
    obtain ⟨m1, e1⟩ := a.tbls c ps q
    obtain ⟨m2, e2⟩ := b.tbls c _ e1
    exact ⟨m1 ++ m2, by rw [e2, Array.append_assoc]⟩
theorem Un.kept (k : ∀ b u, h.get? b = some u → h'.get? b = some u) : Un fs ex H H h h' :=
  ⟨fun b ob q _ _ _ => k b ob q, fun b ob q _ _ _ => ⟨ob.slots, k b ob q⟩, fun _ _ _ n _ => n, fun b ob q _ => ⟨ob, k b ob q⟩, fun _ _ q => q, fun _ _ _ q => q, fun _ ps q => ⟨#[], by rw [q]; simp⟩⟩
theorem Un.refl : Un fs ex H H h h := Un.kept fun _ _ q => q
theorem Un.laid (k : ∀ b u, h.get? b = some u → h'.get? b = some u) (hp : h.objs.size ≤ a) (hn : H a = none) : Un fs ex H (upd H a o) h h' where
  keep := fun b u q _ _ _ => k b u q
  slot := fun b u q _ _ _ => ⟨u.slots, k b u q⟩
  free := fun b u q n _ => by rw [upd_ne (Nat.ne_of_lt (Nat.lt_of_lt_of_le (Heap.lt_size q) hp))]; exact n
  there := fun b u q _ => ⟨u, k b u q⟩
  tups := fun b xs q => by rw [upd_ne (ne_of_none q hn)]; exact q
  frzs := fun b u xs q => by rw [upd_ne (ne_of_none q hn)]; exact q
  tbls := fun b ps q => ⟨#[], by rw [upd_ne (ne_of_none q hn), q]; simp⟩
theorem Un.write (mu : Mut (H x)) (he : e = x ∨ H e = some (.own x)) (k : ∀ b u, b ≠ e → h.get? b = some u → h'.get? b = some u) (heo : ∃ u, h'.get? e = some u) : Un fs ex H (upd H x o) h h' := by
  have hx : ∀ b, H b = none → b ≠ x := fun b n z => by subst z; rw [n] at mu; exact mu
  have hb : ∀ b, H b = none → b ≠ e := fun b n z => by
    subst z
    rcases he with r | r
    · exact hx b n r
    · rw [n] at r; cases r
  have hm : ∀ b u, H b = some u → ¬ Mut (some u) → b ≠ x := fun b u q nm z => by subst z; rw [q] at mu; exact nm mu
  refine ⟨fun b u q n _ _ => k b u (hb b n) q, fun b u q n _ _ => ⟨u.slots, k b u (hb b n) q⟩, fun b u q n _ => by rw [upd_ne (hx b n)]; exact n, fun b u q _ => ?_,
    fun b xs q => by rw [upd_ne (hm b _ q fun z => z)]; exact q, fun b u xs q => by rw [upd_ne (hm b _ q fun z => z)]; exact q, fun b ps q => ⟨#[], by rw [upd_ne (hm b _ q fun z => z), q]; simp⟩⟩
  by_cases hbe : b = e
  · subst hbe; exact heo
  · exact ⟨u, k b u hbe q⟩
theorem Un.mono (u : Un fs ex H H1 h h1) (hs : ∀ b ∈ fs, b ∈ fs') (hx : ∀ b ∈ ex, b ∈ ex') : Un fs' ex' H H1 h h1 :=
  ⟨fun b ob q n hb he => u.keep b ob q n (fun z => hb (hs b z)) fun z => he (hx b z), fun _ _ q n _ he => u.any q n fun z => he (hx _ z), fun b ob q n he => u.free b ob q n fun z => he (hx b z), fun b ob q he => u.there b ob q fun z => he (hx b z), u.tups, u.frzs, u.tbls⟩
end

/-! ### the heap without what is tracked -/
def trk (h : Heap) (H : Hp) : List Addr := (List.range h.objs.size).filter fun a => (H a).isSome
def hidT (h : Heap) (H : Hp) : Heap := PySem.W.hideAll h (trk h H)
theorem hidT_size (h : Heap) (H : Hp) : (hidT h H).objs.size = h.objs.size := PySem.W.hideAll_size _ _
theorem hidT_get {h : Heap} {H : Hp} {b : Addr} {o : Obj} (e : h.get? b = some o) (n : H b = none) : (hidT h H).get? b = some o :=
  PySem.W.hideAll_get _ e fun hm => by
    have q : (H b).isSome = true := (List.mem_filter.mp hm).2
    rw [n] at q; simp at q
theorem of_hidT {h : Heap} {H : Hp} {b : Addr} {o : Obj} (e : (hidT h H).get? b = some o) : h.get? b = some o ∧ H b = none := by
  have e' : h.get? b = some o := PySem.W.of_hideAll (trk h H) e
  refine ⟨e', ?_⟩
  cases q : H b with
  | none => rfl
  | some x =>
    have hm : b ∈ trk h H := List.mem_filter.mpr ⟨List.mem_range.mpr (Heap.lt_size e'), by simp [q]⟩
    have z : (hidT h H).get? b = none := PySem.W.hideAll_none (trk h H) hm
    rw [z] at e; cases e

/-! ### OpenK's ledger, filled with every new object but one -/
def allNews (g h : Heap) (L : Addr) : List (Addr × Obj) := (List.range h.objs.size).filterMap fun a => if a = L ∨ (g.get? a).isSome = true then none else (h.get? a).map fun o => (a, o)
def rest (g h : Heap) (L d : Addr) : List (Addr × Obj) := (allNews g h L).filter fun p => decide (p.1 ≠ d)
end L2

namespace L2
open PySem PySem.Spec PyProof.Rows

/-- the module's facts, over the base: the heap at the law's entry without what is tracked there -/
structure Mod (K : PySem.W.Frag) (mg : Str → Option Value) (base : Heap) : Prop where
  kin : K.In base
  glob : base.Ns mainGlobals mg
  blt : ∃ mb, base.Ns builtinsNs mb ∧ ∀ x : Str, x ≠ "__name__" → mb x = bootBuiltins x
  nolimit : base.NoLimit

/-- the context: a def's body (or a comprehension's block) running. base: fixed through the whole law; s₀, H₀: the entry; outer: the frames whose slots others may change (a def's callers); stack: all frames that run;
   ex: iterators that were made ahead of the entry and are walked here (a comprehension's); fn: the names whose cells were made at the entry (a def: all; a comprehension's block: its own); calm: not within an except suite; pn: pins that every state bears; xe: what is wanted of an exception that leaves the code -/
structure Cx where
  prog : Program
  w : World
  K : PySem.W.Frag
  mg : Str → Option Value
  base : Heap
  A : Around
  N : List Str
  s₀ : Shared
  H₀ : Hp
  env : Env
  outer : List Env
  stack : List Env
  ex : List Addr
  fn : Str → Bool
  calm : Bool
  pn : List (Addr × Obj)
  xe : Value → Shared → Prop
/-- the callers' frames -/
def frs (l : List Env) : List Addr := l.filterMap (·.frame)
abbrev Cx.fs (X : Cx) : List Addr := frs X.outer

def Vis (sc : Scope) (x : Str) : Prop := sc.names.lookup x = some .local ∨ sc.names.lookup x = some .cell ∨ sc.names.lookup x = some .free
def Loc (sc : Scope) (x : Str) : Prop := sc.names.lookup x = some .local ∨ sc.names.lookup x = some .cell
def Look (env : Env) (h : Heap) (m : Str → Option Value) (x : Str) (u : Value) : Prop :=
  (env.kindOf x = some .local ∧ m x = some u) ∨ ((env.kindOf x = some .cell ∨ env.kindOf x = some .free) ∧ ∃ c, env.cells.lookup x = some c ∧ h.IsCell c (some u))

structure Cx.Ok (X : Cx) : Prop where
  mod : Mod X.K X.mg X.base
  kind : X.env.scope.kind = .function
  glob : X.env.globals = mainGlobals
  blt : X.env.builtins = builtinsNs
  above : X.s₀.heap.objs.size ≤ X.env.locals
  inj : ∀ x y c, X.env.cells.lookup x = some c → X.env.cells.lookup y = some c → x = y
  has : ∀ x, (X.env.kindOf x = some .cell ∨ X.env.kindOf x = some .free) → ∃ c, X.env.cells.lookup x = some c
  cab : ∀ x c, X.fn x = true → X.env.cells.lookup x = some c → X.s₀.heap.objs.size ≤ c
  hd : X.calm = true → X.A.handled = none
  frames : X.A.frames = some X.stack
  stk : X.stack = X.outer ∨ (X.stack = X.env :: X.outer ∧ X.env.frame = some X.env.locals)
  exf : ∀ b ∈ X.ex, b ≠ X.env.locals ∧ ∀ x c, X.env.cells.lookup x = some c → c ≠ b
  bs : ∀ b o, X.base.get? b = some o → X.s₀.heap.get? b = some o ∧ X.H₀ b = none
  bsz : X.base.objs.size ≤ X.s₀.heap.objs.size
  noex : ∀ b o, X.base.get? b = some o → b ∉ X.ex
  exfs : ∀ b ∈ X.ex, b ∉ X.fs
  funs : X.s₀.heap.FunFrames X.base X.outer
  frf : ∀ b ∈ X.fs, X.H₀ b = none

structure Inv (X : Cx) (pins : List (Addr × Obj)) (σ : List (Option V)) (H : Hp) (s : Shared) : Prop where
  ok : X.Ok
  os : s.os = X.s₀.os
  bare : AllBare s.gens
  base : Un X.fs X.ex X.H₀ H X.s₀.heap s.heap
  loc : ∃ m, s.heap.Ns X.env.locals m ∧ ∀ (i : Nat) (x : Str) (v : V), X.N[i]? = some x → σ[i]? = some (some v) → Vis X.env.scope x → ∃ u, RelV v u ∧ Look X.env s.heap m x u
  cell : ∀ x c, X.env.cells.lookup x = some c → ∃ v, s.heap.IsCell c v
  free : H X.env.locals = none
  freeC : ∀ x c, X.env.cells.lookup x = some c → H c = none
  pin : ∀ p ∈ X.pn ++ pins, s.heap.get? p.1 = some p.2 ∧ H p.1 = none ∧ p.1 ≠ X.env.locals ∧ p.1 ∉ X.fs ∧ ∀ v, p.2.data ≠ .cell v
  hok : HOk X.prog X.w H s.heap
  len : σ.length = X.N.length

section
variable {X : Cx} {pins : List (Addr × Obj)} {σ : List (Option V)} {H H' : Hp} {s : Shared} {h' : Heap}

theorem Cx.Ok.nofr (ok : X.Ok) {b : Addr} {o : Obj} (e : X.base.get? b = some o) : b ∉ X.fs := fun hb => by
  have := (ok.funs.mem hb).1
  rw [e] at this; cases this
theorem Inv.bs (I : Inv X pins σ H s) : ∀ b o, X.base.get? b = some o → s.heap.get? b = some o ∧ H b = none := fun b o e =>
  ⟨I.base.keep b o (I.ok.bs b o e).1 (I.ok.bs b o e).2 (I.ok.nofr e) (I.ok.noex b o e), I.base.free b o (I.ok.bs b o e).1 (I.ok.bs b o e).2 (I.ok.noex b o e)⟩
theorem Inv.bk (I : Inv X pins σ H s) : ∀ b o, X.base.get? b = some o → s.heap.get? b = some o := fun b o e => (I.bs b o e).1
theorem Inv.mod (I : Inv X pins σ H s) : Mod X.K X.mg X.base := I.ok.mod
theorem Inv.kIn (I : Inv X pins σ H s) : X.K.In s.heap := I.ok.mod.kin.keeps I.bk
theorem Inv.nolimit (I : Inv X pins σ H s) : s.heap.NoLimit := I.ok.mod.nolimit.keeps I.bk
/-- the frame over the base: for OpenK's rules (K.In X.base is I.mod.kin) -/
theorem Inv.fr (I : Inv X pins σ H s) : ∃ m, Fr X.base X.env.locals s.heap m :=
  let ⟨m, hn, _⟩ := I.loc
  ⟨m, hn, I.bk, Nat.le_trans I.ok.bsz I.ok.above⟩
theorem Inv.lt (I : Inv X pins σ H s) : X.env.locals < s.heap.objs.size := let ⟨_, hn, _⟩ := I.loc; hn.lt
theorem Inv.sz (I : Inv X pins σ H s) : X.s₀.heap.objs.size ≤ s.heap.objs.size := Nat.le_trans I.ok.above (Nat.le_of_lt I.lt)
theorem Inv.nofs (I : Inv X pins σ H s) {a : Addr} (h : s.heap.objs.size ≤ a) : a ∉ X.fs := fun hb => by
  obtain ⟨_, o, ho, _⟩ := I.ok.funs.mem hb
  exact absurd (Nat.lt_of_lt_of_le (Heap.lt_size ho) (Nat.le_trans I.sz h)) (Nat.lt_irrefl _)
theorem Inv.cne (I : Inv X pins σ H s) : ∀ x c, X.env.cells.lookup x = some c → c ≠ X.env.locals := fun x c e z => by
  obtain ⟨v, o, ho, hd⟩ := I.cell x c e
  obtain ⟨m, ⟨o', es, ep, ho', hd', _⟩, _⟩ := I.loc
  rw [z, ho'] at ho; cases ho; rw [hd'] at hd; cases hd
theorem Inv.funs (I : Inv X pins σ H s) : s.heap.FunFrames X.base X.outer := by
  have all : ∀ (l : List Env), (∀ b ∈ frs l, b ∈ X.fs) → X.s₀.heap.FunFrames X.base l → s.heap.FunFrames X.base l := by
    intro l
    induction l with
    | nil => intro _ _; trivial
    | cons env r ih =>
      intro hs hl
      obtain ⟨hk, ⟨L, o, hf, hn, ho, hd⟩, hr⟩ := hl
      have hL : L ∈ X.fs := hs L (by unfold frs; rw [List.filterMap_cons, hf]; exact List.mem_cons_self)
      obtain ⟨sl, e⟩ := I.base.slot L o ho (I.ok.frf L hL) hL fun z => I.ok.exfs L z hL
      exact ⟨hk, ⟨L, _, hf, hn, e, hd⟩, ih (fun b hb => hs b (by unfold frs; rw [List.filterMap_cons, hf]; exact List.mem_cons_of_mem _ hb)) hr⟩
  exact all X.outer (fun _ hb => hb) I.ok.funs

/-- the frames that run, for a call -/
theorem Inv.stack (I : Inv X pins σ H s) : s.heap.FunFrames X.base X.stack := by
  rcases I.ok.stk with e | ⟨e, hf⟩
  · rw [e]; exact I.funs
  · rw [e]
    obtain ⟨m, hn, _⟩ := I.loc
    refine .cons (by rw [I.ok.kind]; decide) hf hn ?_ I.funs
    exact Heap.get?_none_of_le (Nat.le_trans I.ok.bsz I.ok.above)
theorem Inv.stkSub (I : Inv X pins σ H s) : ∀ b ∈ frs X.stack, b ∈ X.env.locals :: X.fs := fun b hb => by
  rcases I.ok.stk with e | ⟨e, hf⟩
  · rw [e] at hb; exact List.mem_cons_of_mem _ hb
  · rw [e] at hb
    unfold frs at hb
    rw [List.filterMap_cons, hf] at hb
    exact hb
theorem Inv.stkFree (I : Inv X pins σ H s) : ∀ b ∈ frs X.stack, H b = none := fun b hb => by
  rcases List.mem_cons.mp (I.stkSub b hb) with e | hb
  · rw [e]; exact I.free
  · obtain ⟨_, o, ho, _⟩ := I.ok.funs.mem hb
    exact I.base.free b o ho (I.ok.frf b hb) fun z => I.ok.exfs b z hb

/-- THE STEP: the untracked objects but the frame and the records at ch are kept (the callers' frames up to slots), the frame's map is kept, the new abstract heap is held -/
theorem Inv.step {g' : Array GenState} {t' : Nat} {d' : Drawn} {ch : List Addr} (I : Inv X pins σ H s)
    (hch : ∀ b ∈ ch, (b ∈ X.ex ∨ X.s₀.heap.objs.size ≤ b) ∧ b ≠ X.env.locals ∧ (∀ x c, X.env.cells.lookup x = some c → c ≠ b) ∧ ∀ p ∈ X.pn ++ pins, p.1 ≠ b)
    (keep : ∀ b o, b ≠ X.env.locals → b ∉ X.fs → b ∉ ch → s.heap.get? b = some o → H b = none → h'.get? b = some o)
    (slot : ∀ b o, b ≠ X.env.locals → b ∈ X.fs → b ∉ ch → s.heap.get? b = some o → H b = none → ∃ sl, h'.get? b = some { o with slots := sl }) (free : ∀ b o, b ∉ ch → s.heap.get? b = some o → H b = none → H' b = none)
    (there : ∀ b o, b ∉ ch → s.heap.get? b = some o → ∃ o', h'.get? b = some o')
    (tups : ∀ b xs, H b = some (.tup xs) → H' b = some (.tup xs)) (frzs : ∀ b o u, H b = some (.frz o u) → H' b = some (.frz o u)) (tbls : ∀ b ps, H b = some (.tbl ps) → ∃ more, H' b = some (.tbl (ps ++ more)))
    (ns : ∀ m, s.heap.Ns X.env.locals m → h'.Ns X.env.locals m) (hok : HOk X.prog X.w H' h') (hg : AllBare g') :
    Inv X pins σ H' { s with heap := h', gens := g', drawn := d', toks := t' } := by
  have neL : ∀ b o, X.s₀.heap.get? b = some o → b ≠ X.env.locals := fun b o e => Nat.ne_of_lt (Nat.lt_of_lt_of_le (Heap.lt_size e) I.ok.above)
  have neC : ∀ b o, X.s₀.heap.get? b = some o → b ∉ X.ex → b ∉ ch := fun b o e hx hb => by
    rcases (hch b hb).1 with z | z
    · exact hx z
    · exact absurd (Nat.lt_of_lt_of_le (Heap.lt_size e) z) (Nat.lt_irrefl _)
  have cellK : ∀ x c, X.env.cells.lookup x = some c → ∀ v, s.heap.IsCell c v → h'.IsCell c v := fun x c e v ⟨o, ho, hd⟩ => by
    have nch : c ∉ ch := fun z => (hch c z).2.2.1 x c e rfl
    by_cases hc : c ∈ X.fs
    · obtain ⟨sl, q⟩ := slot c o (I.cne x c e) hc nch ho (I.freeC x c e)
      exact ⟨_, q, hd⟩
    · exact ⟨o, keep c o (I.cne x c e) hc nch ho (I.freeC x c e), hd⟩
  refine ⟨I.ok, I.os, hg, ⟨fun b o e n hb hx => ?_, fun b o e n hb hx => ?_, fun b o e n hx => ?_, fun b o e hx => ?_, fun b xs e => tups b xs (I.base.tups b xs e), fun b o xs e => frzs b o xs (I.base.frzs b o xs e), fun b ps e => ?_⟩, ?_, fun x c e => ?_, ?_, fun x c e => ?_, fun p hp => ?_, hok, I.len⟩
  · exact keep b o (neL b o e) hb (neC b o e hx) (I.base.keep b o e n hb hx) (I.base.free b o e n hx)
  · obtain ⟨sl, e1⟩ := I.base.slot b o e n hb hx
    obtain ⟨sl', e2⟩ := slot b _ (neL b o e) hb (neC b o e hx) e1 (I.base.free b o e n hx)
    exact ⟨sl', e2⟩
  · obtain ⟨o', e1⟩ := I.base.there b o e hx
    exact free b o' (neC b o e hx) e1 (I.base.free b o e n hx)
  · obtain ⟨o', e1⟩ := I.base.there b o e hx
    exact there b o' (neC b o e hx) e1
  · obtain ⟨m1, e1⟩ := I.base.tbls b ps e
    obtain ⟨m2, e2⟩ := tbls b _ e1
    exact ⟨m1 ++ m2, by rw [e2, Array.append_assoc]⟩
  · obtain ⟨m, hn, hl⟩ := I.loc
    refine ⟨m, ns m hn, fun i x v e1 e2 e3 => ?_⟩
    obtain ⟨u, r, l⟩ := hl i x v e1 e2 e3
    refine ⟨u, r, ?_⟩
    rcases l with l | ⟨k, c, e, z⟩
    · exact .inl l
    · exact .inr ⟨k, c, e, cellK x c e _ z⟩
  · obtain ⟨v, z⟩ := I.cell x c e
    exact ⟨v, cellK x c e v z⟩
  · obtain ⟨m, ⟨o, _, _, ho, _⟩, _⟩ := I.loc
    exact free _ o (fun z => (hch _ z).2.1 rfl) ho I.free
  · obtain ⟨v, o, ho, hd⟩ := I.cell x c e
    exact free c o (fun z => (hch c z).2.2.1 x c e rfl) ho (I.freeC x c e)
  · obtain ⟨e, n, ne, nf, d⟩ := I.pin p hp
    have nch : p.1 ∉ ch := fun z => (hch p.1 z).2.2.2 p hp rfl
    exact ⟨keep p.1 p.2 ne nf nch e n, free p.1 p.2 nch e n, ne, nf, d⟩
/-- .. where the frame's own object is kept too -/
theorem Inv.un {t' : Nat} (I : Inv X pins σ H s) (u : Un X.fs [] H H' s.heap h') (hok : HOk X.prog X.w H' h') : Inv X pins σ H' { s with heap := h', toks := t' } := by
  obtain ⟨m, ⟨o, es, ep, ho, r⟩, _⟩ := id I.loc
  obtain ⟨sl, hL⟩ := u.any ho I.free (by simp)
  exact I.step (g' := s.gens) (d' := s.drawn) (ch := []) (fun _ z => nomatch z) (fun b o _ hb _ e n => u.keep b o e n hb (by simp)) (fun b o _ hb _ e n => u.slot b o e n hb (by simp)) (fun b o _ e n => u.free b o e n (by simp)) (fun b o _ e => u.there b o e (by simp)) u.tups u.frzs u.tbls (fun m' hm => by
    obtain ⟨o', es', ep', ho', r'⟩ := hm
    rw [ho] at ho'; cases ho'
    exact ⟨_, es', ep', hL, r'⟩) hok I.bare
/-- behind a call (or a comprehension's block): the slots of this frame may have changed too, the records at ch may have turned -/
theorem Inv.call {g' : Array GenState} {t' : Nat} {d' : Drawn} {ch : List Addr} (I : Inv X pins σ H s) (u : Un (frs X.stack) ch H H' s.heap h') (hok : HOk X.prog X.w H' h') (hg : AllBare g')
    (hch : ∀ b ∈ ch, (b ∈ X.ex ∨ X.s₀.heap.objs.size ≤ b) ∧ b ≠ X.env.locals ∧ (∀ x c, X.env.cells.lookup x = some c → c ≠ b) ∧ ∀ p ∈ X.pn ++ pins, p.1 ≠ b) :
    Inv X pins σ H' { s with heap := h', gens := g', drawn := d', toks := t' } := by
  obtain ⟨m, ⟨o, es, ep, ho, r⟩, _⟩ := id I.loc
  obtain ⟨sl, hL⟩ := u.any ho I.free fun z => (hch _ z).2.1 rfl
  exact I.step (ch := ch) hch (fun b o hL hb hc e n => u.keep b o e n (fun z => (List.mem_cons.mp (I.stkSub b z)).elim hL hb) hc) (fun b o _ _ hc e n => u.any e n hc) (fun b o hc e n => u.free b o e n hc) (fun b o hc e => u.there b o e hc) u.tups u.frzs u.tbls (fun m' hm => by
    obtain ⟨o', es', ep', ho', r'⟩ := hm
    rw [ho] at ho'; cases ho'
    exact ⟨_, es', ep', hL, r'⟩) hok hg
/-- an untracked record of ours (an iterator) has turned -/
theorem Inv.turned {t' : Nat} {it : Addr} (I : Inv X pins σ H s) (k : ∀ b o, b ≠ it → s.heap.get? b = some o → h'.get? b = some o) (hn : H it = none) (hL : it ≠ X.env.locals)
    (h1 : it ∈ X.ex ∨ X.s₀.heap.objs.size ≤ it) (h2 : ∀ x c, X.env.cells.lookup x = some c → c ≠ it) (h3 : ∀ p ∈ X.pn ++ pins, p.1 ≠ it) : Inv X pins σ H { s with heap := h', toks := t' } := by
  have nit : ∀ b u, H b = some u → b ≠ it := fun b u e z => by rw [z, hn] at e; cases e
  refine I.step (g' := s.gens) (d' := s.drawn) (ch := [it]) (fun b hb => ?_) (fun b o _ _ hc e _ => k b o (fun z => hc (by simp [z])) e) (fun b o _ _ hc e _ => ⟨o.slots, k b o (fun z => hc (by simp [z])) e⟩) (fun _ _ _ _ n => n)
    (fun b o hc e => ⟨o, k b o (fun z => hc (by simp [z])) e⟩) (fun _ _ e => e) (fun _ _ _ e => e) (fun b ps e => ⟨#[], by rw [e]; simp⟩) (fun m hm => ?_) (fun b u e => ?_) I.bare
  · have e : b = it := by simpa using hb
    subst e
    exact ⟨h1, hL, h2, h3⟩
  · obtain ⟨o, es, ep, ho, r⟩ := hm
    exact ⟨o, es, ep, k _ o (Ne.symm hL) ho, r⟩
  · refine (I.hok b u e).stay (fun c v hc q => k c v ?_ q) (fun _ q => q) fun _ _ q => q
    rcases hc with z | z
    · rw [z]; exact nit b u e
    · exact nit c _ z
theorem Inv.tok (I : Inv X pins σ H s) (t : Nat) : Inv X pins σ H { s with toks := t } := I.un (h' := s.heap) (t' := t) Un.refl I.hok
/-- all objects kept -/
theorem Inv.kept {t' : Nat} (I : Inv X pins σ H s) (k : ∀ b u, s.heap.get? b = some u → h'.get? b = some u) : Inv X pins σ H { s with heap := h', toks := t' } := I.un (Un.kept k) (I.hok.kept k)
/-- a new object laid and tracked -/
theorem Inv.laid {a : Addr} {o : HO} {t' : Nat} (I : Inv X pins σ H s) (k : ∀ b u, s.heap.get? b = some u → h'.get? b = some u) (hp : s.heap.objs.size ≤ a) (new : ObjOk X.prog X.w (upd H a o) h' a o) :
    Inv X pins σ (upd H a o) { s with heap := h', toks := t' } := I.un (Un.laid k hp (I.hok.fresh hp)) (I.hok.laid k hp new)
/-- an object written -/
theorem Inv.write {x e : Addr} {o : HO} {t' : Nat} (I : Inv X pins σ H s) (mu : Mut (H x)) (he : e = x ∨ H e = some (.own x)) (k : ∀ b u, b ≠ e → s.heap.get? b = some u → h'.get? b = some u) (heo : ∃ u, h'.get? e = some u)
    (new : ObjOk X.prog X.w (upd H x o) h' x o) : Inv X pins σ (upd H x o) { s with heap := h', toks := t' } := I.un (Un.write mu he k heo) (I.hok.write mu he k heo new)
theorem Inv.pins_of {pins' : List (Addr × Obj)} (I : Inv X pins σ H s) (h : ∀ p ∈ pins', s.heap.get? p.1 = some p.2 ∧ H p.1 = none ∧ p.1 ≠ X.env.locals ∧ p.1 ∉ X.fs ∧ ∀ v, p.2.data ≠ .cell v) : Inv X pins' σ H s :=
  ⟨I.ok, I.os, I.bare, I.base, I.loc, I.cell, I.free, I.freeC, fun p hp => (List.mem_append.mp hp).elim (fun z => I.pin p (List.mem_append_left _ z)) (h p), I.hok, I.len⟩

theorem nodup_ix {N : List Str} (hN : N.Nodup) {i j : Nat} {x : Str} (a : N[i]? = some x) (b : N[j]? = some x) : i = j := by
  obtain ⟨h1, e1⟩ := List.getElem?_eq_some_iff.mp a
  obtain ⟨h2, e2⟩ := List.getElem?_eq_some_iff.mp b
  exact (List.getElem_inj hN).mp (e1.trans e2.symm)

/-- a name is stored; what changed -/
theorem store_ok2 {M : Model} {A : Around} {E : Value → Shared → Prop} {i : Nat} {x : Str} {v : V} {u : Value} {Q : Unit → Shared → Prop} (I : Inv X pins σ H s) (hN : X.N.Nodup) (hi : X.N[i]? = some x) (hx : Loc X.env.scope x) (r : RelV v u)
    (h : ∀ s', Inv X pins (σ.set i (some v)) H s' → (∃ a, Heap.SameBut a s.heap s'.heap ∧ (a = X.env.locals ∨ X.env.cells.lookup x = some a)) → Q () s') (hf : X.fn x = true ∨ X.env.scope.names.lookup x = some .local := by first | exact .inl rfl | exact .inr rfl | assumption) : wpAny M A (storeName X.env x u) Q E s := by
  obtain ⟨m, hn, hl⟩ := id I.loc
  have hcls : (X.env.scope.kind == .class || (X.env.scope.kind == .module && X.env.locals != X.env.globals)) = false := by rw [I.ok.kind]; rfl
  have hiσ : i < σ.length := by rw [I.len]; exact (List.getElem?_eq_some_iff.mp hi).1
  have cne := I.cne
  have tracked : ∀ {a : Addr} {h' : Heap}, (∃ o, s.heap.get? a = some o ∧ H a = none) → Heap.SameBut a s.heap h' → HOk X.prog X.w H h' := fun {a h'} ha hs b ob e => by
    obtain ⟨_, _, hfree⟩ := ha
    refine (I.hok b ob e).stay (fun c w' hc q => (hs.2 c ?_).trans q) (fun _ q => q) fun _ _ q => q
    rintro rfl
    rcases hc with rfl | hc
    · rw [hfree] at e; cases e
    · rw [hfree] at hc; cases hc
  rcases hx with hk | hk
  · refine wpAny_storeName_local hk hn (fun h' hn' hs => ?_) hcls
    obtain ⟨oL, _, _, hoL, _⟩ := id hn
    refine h _ ⟨I.ok, I.os, I.bare, ⟨fun b o e n hb hx => ?_, fun b o e n hb hx => ?_, I.base.free, fun b o e hx => ?_, I.base.tups, I.base.frzs, I.base.tbls⟩, ⟨_, hn', fun j y v' e1 e2 e3 => ?_⟩, fun y c e => ?_, I.free, I.freeC, fun p hp => ?_, tracked ⟨oL, hoL, I.free⟩ hs, by simpa using I.len⟩ ⟨_, hs, .inl rfl⟩
    · exact (hs.2 b (Nat.ne_of_lt (Nat.lt_of_lt_of_le (Heap.lt_size e) I.ok.above))).trans (I.base.keep b o e n hb hx)
    · obtain ⟨sl, e1⟩ := I.base.slot b o e n hb hx
      exact ⟨sl, (hs.2 b (Nat.ne_of_lt (Nat.lt_of_lt_of_le (Heap.lt_size e) I.ok.above))).trans e1⟩
    · obtain ⟨o', e1⟩ := I.base.there b o e hx
      exact ⟨o', (hs.2 b (Nat.ne_of_lt (Nat.lt_of_lt_of_le (Heap.lt_size e) I.ok.above))).trans e1⟩
    · by_cases hj : j = i
      · subst hj
        rw [hi] at e1; cases e1
        rw [List.getElem?_set_self hiσ] at e2
        cases e2
        exact ⟨u, r, .inl ⟨hk, by simp⟩⟩
      · rw [List.getElem?_set_ne (Ne.symm hj)] at e2
        obtain ⟨u', r', q⟩ := hl j y v' e1 e2 e3
        refine ⟨u', r', ?_⟩
        rcases q with ⟨k, e⟩ | ⟨k, c, e, z⟩
        · refine .inl ⟨k, ?_⟩
          have : y ≠ x := fun e => hj (nodup_ix hN e1 (e ▸ hi))
          simp [this, e]
        · exact .inr ⟨k, c, e, z.sameBut hs (cne y c e)⟩
    · obtain ⟨w', z⟩ := I.cell y c e
      exact ⟨w', z.sameBut hs (cne y c e)⟩
    · obtain ⟨e, n, ne, nf, d⟩ := I.pin p hp
      exact ⟨(hs.2 p.1 ne).trans e, n, ne, nf, d⟩
  · have hfn : X.fn x = true := by
      rcases hf with z | z
      · exact z
      · rw [z] at hk; cases hk
    obtain ⟨c, hc⟩ := I.ok.has x (.inl hk)
    obtain ⟨w', z⟩ := I.cell x c hc
    refine wpAny_storeName_cell I.ok.kind hk hc z (fun h' hc' hs => ?_)
    obtain ⟨oc, hoc, hocd⟩ := id z
    refine h { s with heap := h' } ⟨I.ok, I.os, I.bare, ⟨fun b o e n hb hx => ?_, fun b o e n hb hx => ?_, I.base.free, fun b o e hx => ?_, I.base.tups, I.base.frzs, I.base.tbls⟩, ⟨m, hn.sameBut hs (Ne.symm (cne x c hc)), fun j y v' e1 e2 e3 => ?_⟩, fun y c' e => ?_, I.free, I.freeC, fun p hp => ?_, tracked ⟨oc, hoc, I.freeC x c hc⟩ hs, by simpa using I.len⟩ ⟨c, hs, .inr hc⟩
    · exact (hs.2 b (Nat.ne_of_lt (Nat.lt_of_lt_of_le (Heap.lt_size e) (I.ok.cab x c hfn hc)))).trans (I.base.keep b o e n hb hx)
    · obtain ⟨sl, e1⟩ := I.base.slot b o e n hb hx
      exact ⟨sl, (hs.2 b (Nat.ne_of_lt (Nat.lt_of_lt_of_le (Heap.lt_size e) (I.ok.cab x c hfn hc)))).trans e1⟩
    · obtain ⟨o', e1⟩ := I.base.there b o e hx
      exact ⟨o', (hs.2 b (Nat.ne_of_lt (Nat.lt_of_lt_of_le (Heap.lt_size e) (I.ok.cab x c hfn hc)))).trans e1⟩
    · by_cases hj : j = i
      · subst hj
        rw [hi] at e1; cases e1
        rw [List.getElem?_set_self hiσ] at e2
        cases e2
        exact ⟨u, r, .inr ⟨.inl hk, c, hc, hc'⟩⟩
      · rw [List.getElem?_set_ne (Ne.symm hj)] at e2
        obtain ⟨u', r', q⟩ := hl j y v' e1 e2 e3
        refine ⟨u', r', ?_⟩
        rcases q with q | ⟨k, c', e, z'⟩
        · exact .inl q
        · refine .inr ⟨k, c', e, z'.sameBut hs ?_⟩
          rintro rfl
          exact hj (nodup_ix hN e1 (I.ok.inj _ _ _ e hc ▸ hi))
    · by_cases hcc : c' = c
      · subst hcc; exact ⟨_, hc'⟩
      · obtain ⟨w2, z2⟩ := I.cell y c' e
        exact ⟨w2, z2.sameBut hs hcc⟩
    · obtain ⟨e, n, ne, nf, d⟩ := I.pin p hp
      refine ⟨(hs.2 p.1 ?_).trans e, n, ne, nf, d⟩
      intro q
      rw [q, hoc] at e
      have q' : oc = p.2 := Option.some.inj e
      exact d w' (by rw [← q']; exact hocd)
theorem store_ok {M : Model} {A : Around} {E : Value → Shared → Prop} {i : Nat} {x : Str} {v : V} {u : Value} {Q : Unit → Shared → Prop} (I : Inv X pins σ H s) (hN : X.N.Nodup) (hi : X.N[i]? = some x) (hx : Loc X.env.scope x) (r : RelV v u)
    (h : ∀ s', Inv X pins (σ.set i (some v)) H s' → Q () s') (hf : X.fn x = true ∨ X.env.scope.names.lookup x = some .local := by first | exact .inl rfl | exact .inr rfl | assumption) : wpAny M A (storeName X.env x u) Q E s :=
  store_ok2 I hN hi hx r (fun s' I' _ => h s' I') hf
/-- behind a call or a block, the state as it is -/
theorem Inv.call' {s' : Shared} {ch : List Addr} (I : Inv X pins σ H s) (ho : s'.os = s.os) (u : Un (frs X.stack) ch H H' s.heap s'.heap) (hok : HOk X.prog X.w H' s'.heap) (hg : AllBare s'.gens)
    (hch : ∀ b ∈ ch, (b ∈ X.ex ∨ X.s₀.heap.objs.size ≤ b) ∧ b ≠ X.env.locals ∧ (∀ x c, X.env.cells.lookup x = some c → c ≠ b) ∧ ∀ p ∈ X.pn ++ pins, p.1 ≠ b) : Inv X pins σ H' s' := by
  obtain ⟨h', g', d', t', o'⟩ := s'
  have e : o' = s.os := ho
  subst e
  exact I.call (g' := g') (t' := t') (d' := d') u hok hg hch
end

/-! ### the judgements -/
/-- an exception: its class, its own dict's address (where it has one), the abstract heap behind it -/
abbrev XK := Value → Option Addr → Hp → Prop
abbrev St := List (Option V)
abbrev VK := V → Hp → Prop
/-- an expression's reading; a test's; an argument list's -/
abbrev TE := St → Hp → VK → Prop
abbrev TT := St → Hp → (Bool → Hp → Prop) → Prop
abbrev TA := St → Hp → (List V → Hp → Prop) → Prop
/-- what is wanted behind a statement -/
structure Ends where
  nx : St → Hp → Prop
  rt : VK
  bk : St → Hp → Prop := fun _ _ => False
  ct : St → Hp → Prop := fun _ _ => False
abbrev TS := Ends → St → Hp → Prop

def EP (X : Cx) (pins : List (Addr × Obj)) (σ : St) (Q : VK) (u : Value) (s' : Shared) : Prop := ∃ v H', Inv X pins σ H' s' ∧ RelV v u ∧ Q v H'
def TP (X : Cx) (pins : List (Addr × Obj)) (σ : St) (Q : Bool → Hp → Prop) (b : Bool) (s' : Shared) : Prop := ∃ H', Inv X pins σ H' s' ∧ Q b H'
def AP (X : Cx) (pins : List (Addr × Obj)) (σ : St) (Q : List V → Hp → Prop) (us : List Value) (s' : Shared) : Prop := ∃ vs H', Inv X pins σ H' s' ∧ Vals vs us ∧ Q vs H'
def SP (X : Cx) (pins : List (Addr × Obj)) (D : Ends) (f : Flow) (s' : Shared) : Prop :=
  match f with
  | .next => ∃ σ' H', Inv X pins σ' H' s' ∧ D.nx σ' H'
  | .brk => ∃ σ' H', Inv X pins σ' H' s' ∧ D.bk σ' H'
  | .cont => ∃ σ' H', Inv X pins σ' H' s' ∧ D.ct σ' H'
  | .ret u => ∃ v σ' H', Inv X pins σ' H' s' ∧ RelV v u ∧ D.rt v H'

def PE (X : Cx) (e : Expr) (t : TE) : Prop :=
  ∀ (pins : List (Addr × Obj)) (s : Shared) (σ : St) (H : Hp) (Q : VK), Inv X pins σ H s → t σ H Q → wpAny (model X.prog X.w) X.A (eval e X.env) (EP X pins σ Q) X.xe s
def PT (X : Cx) (e : Expr) (t : TT) : Prop :=
  ∀ (pins : List (Addr × Obj)) (s : Shared) (σ : St) (H : Hp) (Q : Bool → Hp → Prop), Inv X pins σ H s → t σ H Q → wpAny (model X.prog X.w) X.A (isTrue e X.env (eval e X.env)) (TP X pins σ Q) X.xe s
/-- a test whatever its 'whole' is (and, or) -/
def PW (X : Cx) (e : Expr) (t : TT) : Prop :=
  ∀ (whole : Sem Value) (pins : List (Addr × Obj)) (s : Shared) (σ : St) (H : Hp) (Q : Bool → Hp → Prop), Inv X pins σ H s → t σ H Q → wpAny (model X.prog X.w) X.A (isTrue e X.env whole) (TP X pins σ Q) X.xe s
theorem PW.pt {X : Cx} {e : Expr} {t : TT} (h : PW X e t) : PT X e t := h _
/-- an argument list (no star), from the left -/
def PA (X : Cx) (es : List Expr) (t : TA) : Prop :=
  ∀ (pos : Pos) (pins : List (Addr × Obj)) (s : Shared) (σ : St) (H : Hp) (Q : List V → Hp → Prop), Inv X pins σ H s → t σ H Q → wpAny (model X.prog X.w) X.A (spliced (backTo pos (starEach es X.env))) (AP X pins σ Q) X.xe s
def PS (X : Cx) (st : Stmt) (t : TS) : Prop :=
  ∀ (pins : List (Addr × Obj)) (s : Shared) (σ : St) (H : Hp) (D : Ends), Inv X pins σ H s → t D σ H → wpAny (model X.prog X.w) X.A (exec st X.env) (SP X pins D) X.xe s
def PSs (X : Cx) (st : List Stmt) (t : TS) : Prop :=
  ∀ (pins : List (Addr × Obj)) (s : Shared) (σ : St) (H : Hp) (D : Ends), Inv X pins σ H s → t D σ H → wpAny (model X.prog X.w) X.A (execs st X.env) (SP X pins D) X.xe s
/-- weaken the end -/
theorem thn {α : Type} {t : Sem α} {Q Q' : α → Shared → Prop} {M : Model} {A : Around} {E : Value → Shared → Prop} {s : Shared} (h : wpAny M A t Q E s) (hQ : ∀ a s, Q a s → Q' a s) : wpAny M A t Q' E s := wpAny_mono h hQ fun _ _ x => x
end L2

namespace L2
open PySem PySem.Spec PyProof.Rows
section
variable {X : Cx}

/-! ### names and constants -/
def tVar (i : Nat) : TE := fun σ H Q => ∃ v, σ[i]? = some (some v) ∧ Q v H
def tC (v : V) : TE := fun _ H Q => Q v H
theorem pe_var {i : Nat} {x : Str} {pos : Pos} (hN : X.N[i]? = some x) (hv : Vis X.env.scope x) (hd : (x == ("__debug__" : Str)) = false := by decide) (hcd : (x == ("__classdict__" : Str)) = false := by decide) : PE X (.Name x pos) (tVar i) := by
  intro pins s σ H Q I h
  obtain ⟨v, e, h⟩ := h
  obtain ⟨m, hn, hl⟩ := I.loc
  obtain ⟨u, r, l⟩ := hl i x v hN e hv
  have fin : EP X pins σ Q u s := ⟨v, H, I, r, h⟩
  rcases l with ⟨hk, hm⟩ | ⟨hk, c, hc, hcell⟩
  · exact wpAny_Name (wpAny_loadName_local I.ok.kind hk hn hm fin) hd
  · rcases hk with hk | hk
    · exact wpAny_Name (wpAny_loadName_cell I.ok.kind hk hc hcell fin) hd
    · exact wpAny_Name (wpAny_loadName_free I.ok.kind hk hc hcell fin hcd) hd
theorem pe_int {i j pos} : PE X (.Constant (.int i) j pos) (tC (.int i)) := fun _ _ _ H _ I h => wpAny_Constant_int ⟨.int i, H, I.tok _, ⟨_, rfl⟩, h⟩
theorem pe_bl {b j pos} : PE X (.Constant (.bool b) j pos) (tC (.bl b)) := fun _ _ _ H _ I h => Constant_bool ⟨.bl b, H, I, rfl, h⟩
theorem pe_non {j pos} : PE X (.Constant .none j pos) (tC .non) := fun _ _ _ H _ I h => Constant_none ⟨.non, H, I, rfl, h⟩
theorem pe_str {x j pos} : PE X (.Constant (.str x) j pos) (tC (.str x)) := fun _ _ _ H _ I h => Calls.Constant_str ⟨.str x, H, I.tok _, ⟨_, rfl⟩, h⟩

/-- a global name of the def -/
def Gl (X : Cx) (x : Str) : Prop := X.env.kindOf x = some .globalImplicit
theorem ld_glob {E : Value → Shared → Prop} {pins : List (Addr × Obj)} {s : Shared} {σ : St} {H : Hp} {x : Str} {u : Value} {pos : Pos} {Q : Value → Shared → Prop} (I : Inv X pins σ H s) (hg : Gl X x) (hm : X.mg x = some u) (h : Q u s)
    (hd : (x == ("__debug__" : Str)) = false := by decide) : wpAny (model X.prog X.w) X.A (eval (.Name x pos) X.env) Q E s :=
  Calls.Name_function_global I.ok.kind hg (Calls.loadGlobal_global (by rw [I.ok.glob]; exact I.mod.glob.keeps I.bk) hm h) hd
theorem ld_blt {E : Value → Shared → Prop} {pins : List (Addr × Obj)} {s : Shared} {σ : St} {H : Hp} {x : Str} {u : Value} {pos : Pos} {Q : Value → Shared → Prop} (I : Inv X pins σ H s) (hg : Gl X x) (hm : X.mg x = none) (hv : bootBuiltins x = some u) (h : Q u s)
    (hn : x ≠ "__name__" := by decide) (hd : (x == ("__debug__" : Str)) = false := by decide) : wpAny (model X.prog X.w) X.A (eval (.Name x pos) X.env) Q E s := by
  obtain ⟨mb, h1, h2⟩ := I.mod.blt
  exact Calls.Name_function_global I.ok.kind hg (Calls.loadGlobal_builtin (by rw [I.ok.glob]; exact I.mod.glob.keeps I.bk) hm (by rw [I.ok.blt]; exact h1.keeps I.bk) ((h2 x hn).trans hv) h) hd
/-- a module's constant, a class, a function, as a value -/
theorem pe_glob {x : Str} {v : V} {u : Value} {pos : Pos} (hg : Gl X x) (hm : X.mg x = some u) (r : RelV v u) (hd : (x == ("__debug__" : Str)) = false := by decide) : PE X (.Name x pos) (tC v) :=
  fun _ _ _ H _ I h => ld_glob I hg hm ⟨v, H, I, r, h⟩ hd
theorem pe_bltn {x : Str} {v : V} {u : Value} {pos : Pos} (hg : Gl X x) (hm : X.mg x = none) (hv : bootBuiltins x = some u) (r : RelV v u) (hn : x ≠ "__name__" := by decide) (hd : (x == ("__debug__" : Str)) = false := by decide) : PE X (.Name x pos) (tC v) :=
  fun _ _ _ H _ I h => ld_blt I hg hm hv ⟨v, H, I, r, h⟩ hn hd

/-! ### arithmetic -/
/-- two ints -/
def t2I (ta tb : TE) (k : Int → Int → Hp → Prop) : St → Hp → Prop := fun σ H => ta σ H fun x H1 => tb σ H1 fun y H2 => ∃ i j, x = .int i ∧ y = .int j ∧ k i j H2
def tAdd (ta tb : TE) : TE := fun σ H Q => t2I ta tb (fun i j H2 => Q (.int (i + j)) H2) σ H
def tSub (ta tb : TE) : TE := fun σ H Q => t2I ta tb (fun i j H2 => Q (.int (i - j)) H2) σ H
/-- the left factor below 2^64 -/
def tMul (ta tb : TE) : TE := fun σ H Q => t2I ta tb (fun i j H2 => (-(2 ^ 64) < i ∧ i < 2 ^ 64) ∧ Q (.int (i * j)) H2) σ H
variable {a b : Expr} {ta tb : TE} {pos : Pos}
/-! ### comparisons -/
def PC (X : Cx) (op : CmpOp) (a b : Expr) (t : TE) : Prop :=
  ∀ (pins : List (Addr × Obj)) (s : Shared) (σ : St) (H : Hp) (Q : VK), Inv X pins σ H s → t σ H Q →
    wpAny (model X.prog X.w) X.A (eval a X.env) (fun v s₁ => wpAny (model X.prog X.w) X.A (eval b X.env) (fun u s₂ => wpAny (model X.prog X.w) X.A (compareOp op v u) (EP X pins σ Q) X.xe s₂) X.xe s₁) X.xe s
def tCmp (p : Int → Int → Bool) (ta tb : TE) : TE := fun σ H Q => t2I ta tb (fun i j H2 => Q (.bl (p i j)) H2) σ H
abbrev tLt : TE → TE → TE := tCmp fun i j => decide (i < j)
abbrev tLe : TE → TE → TE := tCmp fun i j => decide (i ≤ j)
abbrev tGt : TE → TE → TE := tCmp fun i j => decide (j < i)
abbrev tGe : TE → TE → TE := tCmp fun i j => decide (j ≤ i)
abbrev tEqI : TE → TE → TE := tCmp fun i j => decide (i = j)
abbrev tNeI : TE → TE → TE := tCmp fun i j => !decide (i = j)
/-- is None -/
def tIsN (ta : TE) : TE := fun σ H Q => ta σ H fun x H1 => Q (.bl (decide (x = .non))) H1
def tNotN (ta : TE) : TE := fun σ H Q => ta σ H fun x H1 => Q (.bl (!decide (x = .non))) H1
/-- a comparison as a value, as a test -/
def tB (t : TE) : TT := fun σ H Q => t σ H fun x H1 => ∃ c, x = .bl c ∧ Q c H1
/-- an expression whose value is a bool, as a test -/
theorem pt_val {e : Expr} {t : TE} (h : PE X e t) (he : ∀ whole, isTrue e X.env whole = (do let v ← whole; standAt e.pos; holding [v] (truthy v)) := by intro _; rfl) : PT X e (tB t) := by
  intro pins s σ H Q I hw
  refine isTrue_plain (thn (h pins s σ H _ I hw) fun v s1 ⟨x, H1, I1, r1, q1⟩ => ?_) (he _)
  obtain ⟨d, rfl, q⟩ := q1
  cases r1
  exact wpAny_truthy_bool ⟨H1, I1, q⟩

/-! ### and, or, not -/
variable {tA tB' : TT} {rest : List Expr}
def tAnd (t u : TT) : TT := fun σ H Q => t σ H fun c H1 => if c = true then u σ H1 Q else Q false H1
def tOr (t u : TT) : TT := fun σ H Q => t σ H fun c H1 => if c = true then Q true H1 else u σ H1 Q
def tNot (t : TT) : TT := fun σ H Q => t σ H fun c H1 => Q (!c) H1
theorem pw_or1 (ha : PT X a tA) : PW X (.BoolOp .Or [a] pos) tA := by
  intro wh pins s σ H Q I h
  refine isTrue_or (thn (ha pins s σ H Q I h) fun c s1 e => ?_)
  cases c with
  | false => exact isTrue_or_nil e
  | true => exact e
theorem pw_or (ha : PT X a tA) (hb : PW X (.BoolOp .Or (b :: rest) pos) tB') : PW X (.BoolOp .Or (a :: b :: rest) pos) (tOr tA tB') := by
  intro wh pins s σ H Q I h
  refine isTrue_or (thn (ha pins s σ H _ I h) fun c s1 ⟨H1, I1, q1⟩ => ?_)
  cases c with
  | true => exact ⟨H1, I1, q1⟩
  | false => exact hb wh pins s1 σ H1 Q I1 q1
theorem pt_not (ha : PT X a tA) : PT X (.UnaryOp .Not a pos) (tNot tA) := by
  intro pins s σ H Q I h
  exact isTrue_not (ha pins s σ H (fun c H1 => Q (!c) H1) I h)
/-- .. as values (bools) -/
def tAndV (ta tb : TE) : TE := fun σ H Q => ta σ H fun x H1 => ∃ c, x = .bl c ∧ if c = true then tb σ H1 Q else Q (.bl false) H1
def tOrV (ta tb : TE) : TE := fun σ H Q => ta σ H fun x H1 => ∃ c, x = .bl c ∧ if c = true then Q (.bl true) H1 else tb σ H1 Q
def tNotV (ta : TE) : TE := fun σ H Q => ta σ H fun x H1 => ∃ c, x = .bl c ∧ Q (.bl (!c)) H1
theorem pe_one {op} {t : TE} (h : PE X a t) : PE X (.BoolOp op [a] pos) t := fun pins s σ H Q I hw => BoolOp_one (h pins s σ H Q I hw)
theorem pe_and (ha : PE X a ta) (hb : PE X (.BoolOp .And (b :: rest) pos) tb) : PE X (.BoolOp .And (a :: b :: rest) pos) (tAndV ta tb) := by
  intro pins s σ H Q I h
  refine BoolOp_and (thn (ha pins s σ H _ I h) fun v s1 ⟨x, H1, I1, r1, q1⟩ => ?_)
  obtain ⟨c, rfl, q1⟩ := q1
  cases r1
  refine wpAny_truthy_bool ?_
  cases c with
  | true => exact hb pins s1 σ H1 Q I1 q1
  | false => exact ⟨.bl false, H1, I1, rfl, q1⟩
theorem pe_or (ha : PE X a ta) (hb : PE X (.BoolOp .Or (b :: rest) pos) tb) : PE X (.BoolOp .Or (a :: b :: rest) pos) (tOrV ta tb) := by
  intro pins s σ H Q I h
  refine BoolOp_or (thn (ha pins s σ H _ I h) fun v s1 ⟨x, H1, I1, r1, q1⟩ => ?_)
  obtain ⟨c, rfl, q1⟩ := q1
  cases r1
  refine wpAny_truthy_bool ?_
  cases c with
  | false => exact hb pins s1 σ H1 Q I1 q1
  | true => exact ⟨.bl true, H1, I1, rfl, q1⟩
theorem pe_not (ha : PE X a ta) : PE X (.UnaryOp .Not a pos) (tNotV ta) := by
  intro pins s σ H Q I h
  refine UnaryOp_ (thn (ha pins s σ H _ I h) fun v s1 ⟨x, H1, I1, r1, q1⟩ => ?_)
  obtain ⟨c, rfl, q1⟩ := q1
  cases r1
  exact not_of (wpAny_truthy_bool ⟨.bl (!c), H1, I1, rfl, q1⟩)
/-- a if t else b -/
def tIf (t : TT) (ta tb : TE) : TE := fun σ H Q => t σ H fun c H1 => if c = true then ta σ H1 Q else tb σ H1 Q
theorem pe_ifExp {c : Expr} (hc : PT X c tA) (ha : PE X a ta) (hb : PE X b tb) : PE X (.IfExp c a b pos) (tIf tA ta tb) := by
  intro pins s σ H Q I h
  refine wpAny_IfExp (thn (hc pins s σ H _ I h) fun d s1 ⟨H1, I1, q1⟩ => ?_)
  cases d with
  | true => exact ha pins s1 σ H1 Q I1 q1
  | false => exact hb pins s1 σ H1 Q I1 q1
end
end L2

namespace L2
open PySem PySem.Spec PyProof.Rows

/-! ### a list, a tuple that is read: tracked, frozen, or an object of the module -/
def SqL (K : PySem.W.Frag) (H : Hp) (a : Addr) (xs : List V) : Prop :=
  Rd H a (.lst xs) ∨
    ∃ (o : Obj) (its : Array Value) (n : Nat), K.lookup a = some o ∧ o.cls = .type "list" ∧ o.dict = none ∧ o.data = .seq its n ∧ its.size ≤ sizeLine ∧ Vals xs its.toList
def SqT (K : PySem.W.Frag) (H : Hp) (a : Addr) (xs : List V) : Prop :=
  Rd H a (.tup xs) ∨
    ∃ (o : Obj) (its : Array Value) (n : Nat), K.lookup a = some o ∧ o.cls = .type "tuple" ∧ o.data = .seq its n ∧ its.size ≤ sizeLine ∧ Vals xs its.toList
def absV : Value → Option V
  | .none => some .non
  | .bool b => some (.bl b)
  | .int i _ => some (.int i)
  | .str x _ => some (.str x)
  | .bytes b _ => some (.byt b)
  | .float b _ => some (.flt b)
  | .ref a => some (.ref a)
  | .type n => some (.ty n)
  | _ => none
theorem RelV.abs {x : V} {u : Value} (r : RelV x u) : absV u = some x := by
  cases x with
  | non => cases r; rfl
  | bl _ => cases r; rfl
  | int _ => obtain ⟨t, rfl⟩ := r; rfl
  | str _ => obtain ⟨t, rfl⟩ := r; rfl
  | byt _ => obtain ⟨t, rfl⟩ := r; rfl
  | flt _ => obtain ⟨t, rfl⟩ := r; rfl
  | ref _ => cases r; rfl
  | ty _ => cases r; rfl
theorem RelV.inj {x y : V} {u : Value} (r : RelV x u) (q : RelV y u) : x = y := Option.some.inj (r.abs.symm.trans q.abs)
theorem Vals.inj : ∀ {xs ys : List V} {us : List Value}, Vals xs us → Vals ys us → xs = ys
  | _, _, _, .nil, .nil => rfl
  | _, _, _, .cons r t, .cons r' t' => by rw [r.inj r', Vals.inj t t']
section
variable {X : Cx} {pins : List (Addr × Obj)} {σ : St} {H : Hp} {s : Shared} {a : Addr} {xs ys : List V}
theorem SqL.of {K : PySem.W.Frag} (h : H a = some (.lst xs)) : SqL K H a xs := .inl (.inl h)
theorem SqT.of {K : PySem.W.Frag} (h : H a = some (.tup xs)) : SqT K H a xs := .inl (.inl h)
theorem Inv.list (I : Inv X pins σ H s) (h : SqL X.K H a xs) : ∃ its : List Value, Vals xs its ∧ PlainL s.heap a its.toArray ∧ xs.length ≤ sizeLine := by
  rcases h with h | ⟨o, its, n, hk, hc, hd, hs, hz, r⟩
  · obtain ⟨z, its, n, r, e⟩ := h.ok I.hok
    exact ⟨its, r, ⟨_, n, e, rfl, rfl, rfl⟩, z⟩
  · refine ⟨its.toList, r, ⟨o, n, I.kIn a o hk, hc, hd, by simpa using hs⟩, ?_⟩
    have e := r.length
    simp only [Array.length_toList] at e
    omega
theorem Inv.tuple (I : Inv X pins σ H s) (h : SqT X.K H a xs) : ∃ its : List Value, Vals xs its ∧ IsTup s.heap a its.toArray ∧ xs.length ≤ sizeLine := by
  rcases h with h | ⟨o, its, n, hk, hc, hs, hz, r⟩
  · obtain ⟨z, its, r, p⟩ := h.ok I.hok
    exact ⟨its, r, p, z⟩
  · refine ⟨its.toList, r, ⟨o, I.kIn a o hk, hc, n, by simpa using hs⟩, ?_⟩
    have e := r.length
    simp only [Array.length_toList] at e
    omega
theorem Inv.list_inj (I : Inv X pins σ H s) (h : SqL X.K H a xs) (h' : SqL X.K H a ys) : xs = ys := by
  obtain ⟨its, r, ⟨o, n, e, _, _, d⟩, _⟩ := I.list h
  obtain ⟨its', r', ⟨o', n', e', _, _, d'⟩, _⟩ := I.list h'
  rw [e] at e'; cases e'
  rw [d] at d'
  injection d' with d1 _
  have : its = its' := by simpa using congrArg Array.toList d1
  subst this
  exact r.inj r'
end

/-! ### another wish about exceptions -/
abbrev Cx.wish (X : Cx) (E : Value → Shared → Prop) : Cx := { X with xe := E }
/-- no exception leaves -/
abbrev Cx.nox (X : Cx) : Cx := X.wish fun _ _ => False
theorem Cx.Ok.wish {X : Cx} (ok : X.Ok) (E : Value → Shared → Prop) : (X.wish E).Ok :=
  ⟨ok.mod, ok.kind, ok.glob, ok.blt, ok.above, ok.inj, ok.has, ok.cab, ok.hd, ok.frames, ok.stk, ok.exf, ok.bs, ok.bsz, ok.noex, ok.exfs, ok.funs, ok.frf⟩
theorem Cx.Ok.unwish {X : Cx} {E : Value → Shared → Prop} (ok : (X.wish E).Ok) : X.Ok :=
  ⟨ok.mod, ok.kind, ok.glob, ok.blt, ok.above, ok.inj, ok.has, ok.cab, ok.hd, ok.frames, ok.stk, ok.exf, ok.bs, ok.bsz, ok.noex, ok.exfs, ok.funs, ok.frf⟩
section
variable {X : Cx} {pins : List (Addr × Obj)} {σ : St} {H : Hp} {s : Shared} {E : Value → Shared → Prop}
theorem Inv.wish (I : Inv X pins σ H s) (E : Value → Shared → Prop) : Inv (X.wish E) pins σ H s := ⟨I.ok.wish E, I.os, I.bare, I.base, I.loc, I.cell, I.free, I.freeC, I.pin, I.hok, I.len⟩
theorem Inv.unwish (I : Inv (X.wish E) pins σ H s) : Inv X pins σ H s := ⟨I.ok.unwish, I.os, I.bare, I.base, I.loc, I.cell, I.free, I.freeC, I.pin, I.hok, I.len⟩
theorem SP.unwish {D : Ends} {f : Flow} {s' : Shared} (h : SP (X.wish E) pins D f s') : SP X pins D f s' := by
  cases f with
  | next => obtain ⟨σ', H', I, q⟩ := h; exact ⟨σ', H', I.unwish, q⟩
  | brk => obtain ⟨σ', H', I, q⟩ := h; exact ⟨σ', H', I.unwish, q⟩
  | cont => obtain ⟨σ', H', I, q⟩ := h; exact ⟨σ', H', I.unwish, q⟩
  | ret u => obtain ⟨v, σ', H', I, r, q⟩ := h; exact ⟨v, σ', H', I.unwish, r, q⟩
theorem PE.nox {e : Expr} {t : TE} (h : PE X.nox e t) : PE X e t := fun pins s σ H Q I hw =>
  wpAny_mono (h pins s σ H Q (I.wish _) hw) (fun _ _ ⟨v, H', I', r, q⟩ => ⟨v, H', I'.unwish, r, q⟩) fun _ _ z => False.elim z
theorem PT.nox {e : Expr} {t : TT} (h : PT X.nox e t) : PT X e t := fun pins s σ H Q I hw =>
  wpAny_mono (h pins s σ H Q (I.wish _) hw) (fun _ _ ⟨H', I', q⟩ => ⟨H', I'.unwish, q⟩) fun _ _ z => False.elim z
theorem PSs.nox {st : List Stmt} {t : TS} (h : PSs X.nox st t) : PSs X st t := fun pins s σ H D I hw =>
  wpAny_mono (h pins s σ H D (I.wish _) hw) (fun _ _ q => q.unwish) fun _ _ z => False.elim z
end

/-! ### blocks and small statements -/
section
variable {X : Cx} {st : Stmt} {rest : List Stmt} {t u : TS} {e : Expr} {te : TE} {pos : Pos}
def tNext : TS := fun D σ H => D.nx σ H
def tSeq (t u : TS) : TS := fun D σ H => t { D with nx := u D } σ H
theorem pss_nil : PSs X [] tNext := fun _ _ σ H _ I h => wpAny_execs_nil ⟨σ, H, I, h⟩
theorem pss_cons (h1 : PS X st t) (h2 : PSs X rest u) : PSs X (st :: rest) (tSeq t u) := by
  intro pins s σ H D I h
  refine wpAny_execs_cons (thn (h1 pins s σ H { D with nx := u D } I h) fun f s1 q => ?_)
  cases f with
  | next =>
    obtain ⟨σ', H', I', q⟩ := q
    exact h2 pins s1 σ' H' D I' q
  | ret v => exact q
  | brk => exact q
  | cont => exact q
theorem pss_one (h1 : PS X st t) : PSs X [st] t := by
  intro pins s σ H D I h
  refine wpAny_execs_cons (thn (h1 pins s σ H D I h) fun f s1 q => ?_)
  cases f with
  | next => exact wpAny_execs_nil q
  | ret v => exact q
  | brk => exact q
  | cont => exact q
def tBreak : TS := fun D σ H => D.bk σ H
def tCont : TS := fun D σ H => D.ct σ H
/-- in a def's body nothing is shown -/
theorem Inv.quiet {pins : List (Addr × Obj)} {σ : St} {H : Hp} {s : Shared} (I : Inv X pins σ H s) : interactive X.env = false := by simp [interactive, I.ok.kind]
/-- an expression whose value is dropped -/
def tDrop (te : TE) : TS := fun D σ H => te σ H fun _ H1 => D.nx σ H1
theorem ps_expr (he : PE X e te) (hs : swapsWith e none pos.line X.env = pure false := by rfl) : PS X (.Expr e pos) (tDrop te) := by
  intro pins s σ H D I h
  exact wpAny_Expr_any (thn (he pins s σ H _ I h) fun v s1 ⟨x, H1, I1, r1, q1⟩ => ⟨σ, H1, I1, q1⟩) I.quiet hs
def tRet (te : TE) : TS := fun D σ H => te σ H D.rt
theorem ps_ret (he : PE X e te) : PS X (.Return (some e) pos) (tRet te) := by
  intro pins s σ H D I h
  exact wpAny_Return_some (thn (he pins s σ H _ I h) fun v s1 ⟨x, H1, I1, r1, q1⟩ => ⟨x, σ, H1, I1, r1, q1⟩)
def tRetN : TS := fun D _ H => D.rt .non H
def tIfS (c : TT) (t u : TS) : TS := fun D σ H => c σ H fun b H1 => if b = true then t D σ H1 else u D σ H1
theorem ps_if {c : Expr} {a b : List Stmt} {tc : TT} (hc : PT X c tc) (ha : PSs X a t) (hb : PSs X b u) : PS X (.If c a b pos) (tIfS tc t u) := by
  intro pins s σ H D I h
  refine wpAny_If (thn (hc pins s σ H _ I h) fun d s1 ⟨H1, I1, q1⟩ => ?_)
  cases d with
  | true => exact ha pins s1 σ H1 D I1 q1
  | false => exact hb pins s1 σ H1 D I1 q1
/-- code that the proof never comes to -/
def tNever : TS := fun _ _ _ => False
end

/-! ### targets -/
abbrev TG := V → St → Hp → (St → Hp → Prop) → Prop
abbrev TGs := List V → St → Hp → (St → Hp → Prop) → Prop
def PG (X : Cx) (target : Expr) (t : TG) : Prop :=
  ∀ (pins : List (Addr × Obj)) (s : Shared) (σ : St) (H : Hp) (v : V) (u : Value) (Q : St → Hp → Prop), Inv X pins σ H s → RelV v u → t v σ H Q →
    wpAny (model X.prog X.w) X.A (assign target X.env u) (fun _ s' => ∃ σ' H', Inv X pins σ' H' s' ∧ Q σ' H') X.xe s
/-- several targets, one after another -/
def PGs (X : Cx) (ts : List Expr) (t : TGs) : Prop :=
  ∀ (pins : List (Addr × Obj)) (s : Shared) (σ : St) (H : Hp) (vs : List V) (us : List Value) (Q : St → Hp → Prop), Inv X pins σ H s → Vals vs us → t vs σ H Q →
    wpAny (model X.prog X.w) X.A (assignInOrder ((assignEach ts X.env).map (·.2)) us) (fun _ s' => ∃ σ' H', Inv X pins σ' H' s' ∧ Q σ' H') X.xe s
/-- o[i] = v, by values -/
abbrev TSet := V → V → V → Hp → (Hp → Prop) → Prop
def PSet (X : Cx) (t : TSet) : Prop :=
  ∀ (pins : List (Addr × Obj)) (s : Shared) (σ : St) (H : Hp) (o i v : V) (ov iv u : Value) (Q : Hp → Prop), Inv X pins σ H s → RelV o ov → RelV i iv → RelV v u → t o i v H Q →
    wpAny (model X.prog X.w) X.A (setItem ov iv u) (fun _ s' => ∃ H', Inv X pins σ H' s' ∧ Q H') X.xe s
/-- a op= b, by values -/
abbrev TIp := V → V → Hp → VK → Prop
def PIp (X : Cx) (op : Operator) (t : TIp) : Prop :=
  ∀ (pins : List (Addr × Obj)) (s : Shared) (σ : St) (H : Hp) (x y : V) (v u : Value) (Q : VK), Inv X pins σ H s → RelV x v → RelV y u → t x y H Q →
    wpAny (model X.prog X.w) X.A (inplaceOp op v u) (EP X pins σ Q) X.xe s
section
variable {X : Cx} {pos : Pos}
def gName (i : Nat) : TG := fun v σ H Q => Q (σ.set i (some v)) H
theorem pg_name {i : Nat} {x : Str} (hN : X.N.Nodup) (hi : X.N[i]? = some x) (hx : Loc X.env.scope x) (hf : X.fn x = true ∨ X.env.scope.names.lookup x = some .local := by first | exact .inl rfl | exact .inr rfl | assumption) : PG X (.Name x pos) (gName i) := by
  intro pins s σ H v u Q I r h
  exact wpAny_assign_Name (store_ok I hN hi hx r (fun s' I' => ⟨_, H, I', h⟩) hf)
def gNil : TGs := fun vs σ H Q => vs = [] ∧ Q σ H
def gCons (t : TG) (u : TGs) : TGs := fun vs σ H Q => ∃ v r, vs = v :: r ∧ t v σ H fun σ' H' => u r σ' H' Q
theorem pgs_nil : PGs X [] gNil := by
  intro pins s σ H vs us Q I r h
  obtain ⟨e, h⟩ := h
  subst e
  cases r
  exact assignInOrder_nil ⟨σ, H, I, h⟩
theorem pgs_cons {e : Expr} {es : List Expr} {t : TG} {u : TGs} (h1 : PG X e t) (h2 : PGs X es u)
    (hs : (assignEach (e :: es) X.env).map (·.2) = assign e X.env :: (assignEach es X.env).map (·.2) := by rfl) : PGs X (e :: es) (gCons t u) := by
  intro pins s σ H vs us Q I r h
  obtain ⟨v, vr, e1, h⟩ := h
  subst e1
  cases r with
  | cons r rr =>
    rw [hs]
    refine assignInOrder_cons (thn (h1 pins s σ H _ _ _ I r h) fun _ s1 ⟨σ1, H1, I1, q1⟩ => ?_)
    exact h2 pins s1 σ1 H1 _ _ Q I1 rr q1
/-- (a, b, ..) = a tuple of that length -/
def gTup (K : PySem.W.Frag) (n : Nat) (t : TGs) : TG := fun v σ H Q => ∃ a xs, v = .ref a ∧ SqT K H a xs ∧ xs.length = n ∧ t xs σ H Q
theorem pg_tup {es : List Expr} {k : Nat} {t : TGs} {n : Nat} (hc : X.calm = true) (h : PGs X es t)
    (hn : (assignEach es X.env).length = n := by rfl) (hst : (assignEach es X.env).findIdx? (·.1) = none := by rfl) : PG X (.Tuple es k pos) (gTup X.K n t) := by
  intro pins s σ H v u Q I r hw
  obtain ⟨a, xs, e1, hq, hl, hw⟩ := hw
  subst e1
  cases r
  obtain ⟨its, rv, ht, hz⟩ := I.tuple hq
  refine assign_Tuple_tuple (I.ok.hd hc) ht (by simp [hn, ← hl, rv.length]) hst fun h' hx => ?_
  have I1 : Inv X pins σ H { s with heap := h' } := I.kept (t' := s.toks) fun b o e => hx b o (Nat.ne_of_lt (Heap.lt_size e)) e
  exact h pins _ σ H xs _ Q I1 (by simpa using rv) hw
/-- o[i] = .. -/
def gSub (to ti : TE) (t : TSet) : TG := fun v σ H Q => to σ H fun o H1 => ti σ H1 fun i H2 => t o i v H2 fun H3 => Q σ H3
theorem pg_sub {o i : Expr} {to ti : TE} {t : TSet} (ho : PE X o to) (hi : PE X i ti) (hs : PSet X t)
    (ha : ∀ v, assign (.Subscript o i pos) X.env v = (do
      let ov ← holding [v] (eval o X.env)
      let iv ← holding [v, ov] (eval i X.env)
      standAt pos
      holding [v, ov, iv] (setItem ov iv v)
      release [v, ov, iv] []) := by intro _; rfl) : PG X (.Subscript o i pos) (gSub to ti t) := by
  intro pins s σ H v u Q I r h
  rw [ha]
  refine wpAny_bind (wpAny_holding (thn (ho pins s σ H _ I h) fun ov s1 ⟨x, H1, I1, r1, q1⟩ => ?_))
  refine wpAny_bind (wpAny_holding (thn (hi pins s1 σ H1 _ I1 q1) fun iv s2 ⟨y, H2, I2, r2, q2⟩ => ?_))
  refine wpAny_bind (wpAny_standAt (wpAny_bind (wpAny_holding (thn (hs pins s2 σ H2 x y v ov iv u _ I2 r1 r2 r q2) fun _ s3 ⟨H3, I3, q3⟩ => ?_))))
  exact wpAny_release ⟨σ, H3, I3, q3⟩
/-- target = value -/
def tAsg (te : TE) (g : TG) : TS := fun D σ H => te σ H fun x H1 => g x σ H1 D.nx
theorem ps_asg {tg e : Expr} {te : TE} {g : TG} (he : PE X e te) (hg : PG X tg g) (hs : swapsWithSole [tg] e pos.line X.env = pure false := by rfl) (hw : swappedStores [tg] e X.env = pure none := by rfl)
    (h1 : (assignEach [tg] X.env).map (·.2) = [assign tg X.env] := by rfl) : PS X (.Assign [tg] e pos) (tAsg te g) := by
  intro pins s σ H D I h
  refine wpAny_Assign_stores (thn (he pins s σ H _ I h) fun v s1 ⟨x, H1, I1, r1, q1⟩ => ?_) hs hw
  rw [h1]
  exact thn (hg pins s1 σ H1 x v _ I1 r1 q1) fun _ s2 q => q
/-- name = value -/
theorem ps_set {i : Nat} {x : Str} {e : Expr} {te : TE} {pos' : Pos} (hN : X.N.Nodup) (hi : X.N[i]? = some x) (hx : Loc X.env.scope x) (he : PE X e te) (hs : swapsWith e (some (.Name x pos')) pos.line X.env = pure false := by rfl) (hf : X.fn x = true ∨ X.env.scope.names.lookup x = some .local := by first | exact .inl rfl | exact .inr rfl | assumption) :
    PS X (.Assign [.Name x pos'] e pos) (tAsg te (gName i)) := by
  intro pins s σ H D I h
  refine wpAny_Assign_Name (thn (he pins s σ H _ I h) fun v s1 ⟨y, H1, I1, r1, q1⟩ => ?_) hs
  exact store_ok I1 hN hi hx r1 (fun s2 I2 => ⟨_, H1, I2, q1⟩) hf
/-- a, b = x, y with plain local names: stored from the right; the pair itself is not tracked (the opening rows as in PyProof/Rows/TupAssign.lean:23) -/
def tPar (i j : Nat) (ta : TA) : TS := fun D σ H => ta σ H fun vs H1 => ∃ v w, vs = [v, w] ∧ D.nx ((σ.set i (some v)).set j (some w)) H1
/-- name op= e -/
def tAug (i : Nat) (te : TE) (ti : TIp) : TS := fun D σ H => ∃ x, σ[i]? = some (some x) ∧ te σ H fun y H1 => ti x y H1 fun z H2 => D.nx (σ.set i (some z)) H2
/-- o[i] op= e -/
def tAugS (to ti te : TE) (tget : V → V → Hp → VK → Prop) (tip : TIp) (tset : TSet) : TS := fun D σ H => to σ H fun o H1 => ti σ H1 fun i H2 => tget o i H2 fun x H3 => te σ H3 fun y H4 => tip x y H4 fun z H5 => tset o i z H5 fun H6 => D.nx σ H6
/-- o[i], by values -/
def PGet (X : Cx) (t : V → V → Hp → VK → Prop) : Prop :=
  ∀ (pins : List (Addr × Obj)) (s : Shared) (σ : St) (H : Hp) (o i : V) (ov iv : Value) (Q : VK), Inv X pins σ H s → RelV o ov → RelV i iv → t o i H Q →
    wpAny (model X.prog X.w) X.A (getItem ov iv) (EP X pins σ Q) X.xe s
/-- ints -/
def ipI (f : Int → Int → Int) : TIp := fun x y H Q => ∃ i j, x = .int i ∧ y = .int j ∧ Q (.int (f i j)) H
end

/-! ### while -/
section
variable {X : Cx} {pos : Pos}
/-- the invariant W with its measure -/
def tWhile (c : TT) (tb : TS) : TS := fun D σ H => ∃ W : Nat → St → Hp → Prop, (∃ m, W m σ H) ∧ ∀ m σ H, W m σ H →
  c σ H fun b H1 => if b = true then ∃ N : St → Hp → Prop, (∀ σ' H', N σ' H' → ∃ m', m' < m ∧ W m' σ' H') ∧ tb { D with nx := N, ct := N, bk := D.nx } σ H1 else D.nx σ H1
end

/-! ### what a loop or a comprehension walks -/
/-- at turn i: it yields x (the heap may grow), or it stops -/
structure It where
  go : Nat → Hp → Prop
  yld : Nat → Hp → V → Hp → Prop
  stop : Nat → Hp → Prop
/-- the iterator's own objects may turn: they are not the frame's, not pinned, younger than the entry (or a comprehension's own) -/
def FpOk (X : Cx) (pins : List (Addr × Obj)) (H : Hp) (b : Addr) : Prop :=
  H b = none ∧ b ≠ X.env.locals ∧ b ∉ X.fs ∧ (b ∈ X.ex ∨ X.s₀.heap.objs.size ≤ b) ∧ (∀ x c, X.env.cells.lookup x = some c → c ≠ b) ∧ ∀ p ∈ X.pn ++ pins, p.1 ≠ b
theorem Inv.fpOk {X : Cx} {pins : List (Addr × Obj)} {σ : St} {H H' : Hp} {s : Shared} {b : Addr} (I : Inv X pins σ H s) (hb : s.heap.objs.size ≤ b) (hn : H' b = none) : FpOk X pins H' b := by
  refine ⟨hn, Nat.ne_of_gt (Nat.lt_of_lt_of_le I.lt hb), I.nofs hb, .inr (Nat.le_trans I.sz hb), fun x c e z => ?_, fun p hp z => ?_⟩
  · obtain ⟨v, q⟩ := I.cell x c e
    exact absurd (Nat.lt_of_lt_of_le q.lt (by rw [z]; exact hb)) (Nat.lt_irrefl _)
  · exact absurd (Nat.lt_of_lt_of_le (Heap.lt_size (I.pin p hp).1) (by rw [z]; exact hb)) (Nat.lt_irrefl _)
structure Turn (P : Program) (w : World) (K : PySem.W.Frag) (tg : Expr) (J : It) (fp : List Addr) (it : Addr) (tn : Nat → Heap → Prop) : Prop where
  mem : it ∈ fp
  obj : ∀ i h, tn i h → ∀ b ∈ fp, ∃ o, h.get? b = some o ∧ ∀ v, o.data ≠ .cell v
  keep : ∀ i h h', tn i h → (∀ b ∈ fp, ∀ o, h.get? b = some o → h'.get? b = some o) → tn i h'
  item : ∀ (X : Cx), X.prog = P → X.w = w → X.K = K → X.calm = true → ∀ (i : Nat) (pins : List (Addr × Obj)) (s : Shared) (σ : St) (H : Hp) (E : Value → Shared → Prop), Inv X pins σ H s → (∀ b ∈ fp, FpOk X pins H b) → tn i s.heap → J.go i H →
    wpAny (model P w) X.A (pyNext (.ref it)) (fun r s1 => ∃ u, r = some u ∧
      wpAny (model P w) X.A (letOwnedTupleGo tg (.ref it) u) (fun _ s2 => ∃ x H', Inv X pins σ H' s2 ∧ RelV x u ∧ J.yld i H x H' ∧ tn (i + 1) s2.heap ∧ ∀ b ∈ fp, H' b = none) E s1) E s
  done : ∀ (X : Cx), X.prog = P → X.w = w → X.K = K → X.calm = true → ∀ (i : Nat) (pins : List (Addr × Obj)) (s : Shared) (σ : St) (H : Hp) (E : Value → Shared → Prop), Inv X pins σ H s → (∀ b ∈ fp, FpOk X pins H b) → tn i s.heap → J.stop i H →
    wpAny (model P w) X.A (pyNext (.ref it)) (fun r s1 => r = none ∧ Inv X pins σ H s1) E s
  self : ∀ (A : Around) (i : Nat) (s : Shared) (Q : Value → Shared → Prop) (E : Value → Shared → Prop), tn i s.heap → Q (.ref it) s → wpAny (model P w) A (pyIter (.ref it)) Q E s
abbrev TI := St → Hp → (It → Hp → Prop) → Prop
/-- an iterator has come -/
def PIE (X : Cx) (pins : List (Addr × Obj)) (σ : St) (tg : Expr) (R : It → Hp → Prop) (itv : Value) (s2 : Shared) : Prop :=
  ∃ (it : Addr) (fp : List Addr) (tn : Nat → Heap → Prop) (J : It) (H' : Hp), itv = .ref it ∧ Inv X pins σ H' s2 ∧ Turn X.prog X.w X.K tg J fp it tn ∧ tn 0 s2.heap ∧ (∀ b ∈ fp, FpOk X pins H' b) ∧ R J H'
def PI (X : Cx) (tg iter : Expr) (wi : TI) : Prop :=
  ∀ (pins : List (Addr × Obj)) (s : Shared) (σ : St) (H : Hp) (R : It → Hp → Prop), Inv X pins σ H s → wi σ H R →
    wpAny (model X.prog X.w) X.A (eval iter X.env) (fun v s1 => wpAny (model X.prog X.w) X.A (pyIter v) (PIE X pins σ tg R) X.xe s1) X.xe s

/-- the step ahead of the store is nothing for an iterator that keeps no tuple -/
theorem go_of {M : Model} {A : Around} {E : Value → Shared → Prop} {s : Shared} {tg : Expr} {it : Addr} {u : Value} {o : Obj} {n : String} {vs : Array Value} {Q : Unit → Shared → Prop} (ho : s.heap.get? it = some o) (hc : o.cls = .type n) (hd : o.data = .fields vs)
    (hn : ["enumerate", "zip", "dict_itemiterator", "dict_reverseitemiterator", "odict_iterator", "itertools.zip_longest", "itertools.pairwise"].contains n = false) (hQ : Q () s) : wpAny M A (letOwnedTupleGo tg (.ref it) u) Q E s := by
  unfold letOwnedTupleGo
  cases tg <;> first
    | exact wpAny_pure hQ
    | (cases u <;> first
        | exact wpAny_pure hQ
        | (refine wpAny_bind (wpAny_load ho ?_)
           rw [hc, hd]
           show wpAny M A (if (["enumerate", "zip", "dict_itemiterator", "dict_reverseitemiterator", "odict_iterator", "itertools.zip_longest", "itertools.pairwise"].contains n && vs[0]? == some (rawInt _)) = true then _ else _) Q E s
           rw [if_neg (by intro h; rw [hn, Bool.false_and] at h; cases h)]
           exact wpAny_pure hQ))

/-- the list at a, as it stands at each turn (a loop may append to it) -/
def Itl (K : PySem.W.Frag) (a : Addr) : It :=
  ⟨fun i H => ∃ xs x, SqL K H a xs ∧ xs[i]? = some x, fun i H x H' => H' = H ∧ ∀ xs, SqL K H a xs → xs[i]? = some x, fun i H => ∃ xs, SqL K H a xs ∧ xs.length ≤ i⟩
def Itt (K : PySem.W.Frag) (a : Addr) : It :=
  ⟨fun i H => ∃ xs x, SqT K H a xs ∧ xs[i]? = some x, fun i H x H' => H' = H ∧ ∀ xs, SqT K H a xs → xs[i]? = some x, fun i H => ∃ xs, SqT K H a xs ∧ xs.length ≤ i⟩
/-- lo, lo + 1, .. (n of them) -/
def Itr (lo : Int) (n : Nat) : It := ⟨fun i _ => i < n, fun i H x H' => H' = H ∧ x = .int (lo + i), fun i _ => n ≤ i⟩
theorem turn_list {P : Program} {w : World} {K : PySem.W.Frag} {tg : Expr} (a it : Addr) : Turn P w K tg (Itl K a) [it] it (fun i h => h.IsListIter it a i) where
  mem := by simp
  obj := fun i h st b hb => by
    have e : b = it := by simpa using hb
    subst e
    obtain ⟨o, e, c, d⟩ := st
    exact ⟨o, e, fun v z => by rw [d] at z; cases z⟩
  keep := fun i h h' st k => st.at fun o e => k it (by simp) o e
  item := by
    intro X hP hw hK hc i pins s σ H E I hf st hg
    subst hP hw hK
    obtain ⟨xs, x, hq, hx⟩ := hg
    obtain ⟨its, rv, p, hz⟩ := I.list hq
    obtain ⟨u, hu, ru⟩ := rv.get hx
    obtain ⟨f0, f1, f2, f3, f4, f5⟩ := hf it (by simp)
    refine wpAny_pyNext_list_item st p.isList (x := u) (by simpa using hu) fun h' st' sb => ?_
    have I1 : Inv X pins σ H { s with heap := h' } := I.turned (t' := s.toks) (fun b o hb e => (sb.2 b hb).trans e) f0 f1 f3 f4 f5
    obtain ⟨o, e, c, d⟩ := id st'
    exact ⟨u, rfl, go_of (s := { s with heap := h' }) e c d (by decide) ⟨x, H, I1, ru, ⟨rfl, fun ys hy => by rw [I.list_inj hy hq]; exact hx⟩, st', fun b hb => (hf b hb).1⟩⟩
  done := by
    intro X hP hw hK hc i pins s σ H E I hf st hg
    subst hP hw hK
    obtain ⟨xs, hq, hx⟩ := hg
    obtain ⟨its, rv, p, hz⟩ := I.list hq
    obtain ⟨f0, f1, f2, f3, f4, f5⟩ := hf it (by simp)
    have hl := rv.length
    exact wpAny_pyNext_list_end (I.ok.hd hc) st p.isList (by simp; omega) fun h' eb => ⟨rfl, I.turned (t' := s.toks) (fun b o hb e => eb b o hb e) f0 f1 f3 f4 f5⟩
  self := fun _ _ _ _ _ st h => wpAny_pyIter_listiter st h
theorem turn_range {P : Program} {w : World} {K : PySem.W.Frag} {tg : Expr} (it : Addr) (lo : Int) (n : Nat) : Turn P w K tg (Itr lo n) [it] it (fun i h => IsRangeIter h it (lo + (i : Nat) * 1) ((n : Int) - (i : Nat)) 1) where
  mem := by simp
  obj := fun i h st b hb => by
    have e : b = it := by simpa using hb
    subst e
    exact ⟨_, st, fun v z => by
      have z' : Data.fields _ = Data.cell v := z
      cases z'⟩
  keep := fun i h h' st k => k it (by simp) _ st
  item := by
    intro X hP hw hK hc i pins s σ H E I hf st hg
    subst hP hw hK
    obtain ⟨f0, f1, f2, f3, f4, f5⟩ := hf it (by simp)
    have W := Walks.range (prog := X.prog) (w := X.w) (I.ok.hd hc) it lo 1 n
    refine W.item i s _ _ hg st fun v h' tk hv st' kk => ?_
    obtain ⟨t, rfl⟩ := hv
    have I1 : Inv X pins σ H { s with heap := h', toks := tk } := I.turned (fun b o hb e => kk b o (by simpa using hb) e) f0 f1 f3 f4 f5
    refine ⟨_, rfl, go_of (s := { s with heap := h', toks := tk }) (n := "range_iterator") st' rfl rfl (by decide) ⟨.int (lo + i), H, I1, ⟨t, ?_⟩, ⟨rfl, rfl⟩, st', fun b hb => (hf b hb).1⟩⟩
    rw [Int.mul_one]
  done := by
    intro X hP hw hK hc i pins s σ H E I hf st hg
    subst hP hw hK
    obtain ⟨f0, f1, f2, f3, f4, f5⟩ := hf it (by simp)
    exact wpAny_pyNext_range_end (I.ok.hd hc) st (by have : n ≤ i := hg; omega) fun h' eb => ⟨rfl, I.turned (t' := s.toks) (fun b o hb e => eb b o hb e) f0 f1 f3 f4 f5⟩
  self := fun _ _ _ _ _ st h => wpAny_pyIter_rangeiter st h
end L2

namespace L2
open PySem PySem.Spec PyProof.Rows
section
variable {X : Cx} {tg : Expr}
def iList (K : PySem.W.Frag) (tl : TE) : TI := fun σ H R => tl σ H fun x H1 => ∃ a, x = .ref a ∧ (∃ xs, SqL K H1 a xs) ∧ R (Itl K a) H1
def iTup (K : PySem.W.Frag) (tl : TE) : TI := fun σ H R => tl σ H fun x H1 => ∃ a, x = .ref a ∧ (∃ xs, SqT K H1 a xs) ∧ R (Itt K a) H1
theorem pi_list {l : Expr} {tl : TE} (hl : PE X l tl) : PI X tg l (iList X.K tl) := by
  intro pins s σ H R I h
  refine thn (hl pins s σ H _ I h) fun v s1 ⟨x, H1, I1, r1, q1⟩ => ?_
  obtain ⟨a, e, ⟨xs, hq⟩, q⟩ := q1
  subst e
  cases r1
  obtain ⟨its, rv, p, hz⟩ := I1.list hq
  refine wpAny_pyIter_list p.isList ?_
  refine ⟨s1.heap.objs.size, [s1.heap.objs.size], _, _, H1, rfl, I1.kept (t' := s1.toks) fun b o e => Heap.get?_push_of_some _ e, turn_list a _, ⟨_, Heap.get?_push_size _ rfl, rfl, rfl⟩, fun b hb => ?_, q⟩
  have e : b = s1.heap.objs.size := by simpa using hb
  subst e
  exact I1.fpOk (Nat.le_refl _) (I1.hok.fresh (Nat.le_refl _))
/-- a range object just made, walked -/
theorem range_it {pins : List (Addr × Obj)} {σ : St} {H : Hp} {s : Shared} {R : It → Hp → Prop} {E : Value → Shared → Prop} {lo hi : Int} {t u v : Tok} {tk : Nat} (I : Inv X pins σ H s) (h1 : -(2 ^ 62) ≤ lo) (h2 : lo < 2 ^ 62) (h3 : -(2 ^ 62) ≤ hi) (h4 : hi < 2 ^ 62)
    (q : R (Itr lo (hi - lo).toNat) H) : wpAny (model X.prog X.w) X.A (pyIter (.ref s.heap.objs.size)) (PIE X pins σ tg R) E { s with heap := s.heap.push { cls := .type "range", data := .fields #[.int lo t, .int hi u, .int 1 v] }, toks := tk } := by
  refine wpAny_pyIter_range (IsRange.new ..) (small_one h1 h2 h3 h4) ?_
  have I1 : Inv X pins σ H { s with heap := s.heap.push { cls := .type "range", data := .fields #[.int lo t, .int hi u, .int 1 v] }, toks := tk } := I.kept fun b o e => Heap.get?_push_of_some _ e
  refine ⟨(s.heap.push { cls := .type "range", data := .fields #[.int lo t, .int hi u, .int 1 v] }).objs.size, [(s.heap.push { cls := .type "range", data := .fields #[.int lo t, .int hi u, .int 1 v] }).objs.size], _, _, H, rfl,
    I1.kept (t' := tk) fun b o e => Heap.get?_push_of_some _ e, turn_range _ lo (hi - lo).toNat, ?_, fun b hb => ?_, q⟩
  · have e1 : lo + ((0 : Nat) : Int) * 1 = lo := by simp
    have e2 : (((hi - lo).toNat : Nat) : Int) - ((0 : Nat) : Int) = Builtin.Range.rangeSize lo hi 1 := by rw [rangeSize_one]; split <;> omega
    show IsRangeIter _ _ (lo + ((0 : Nat) : Int) * 1) ((((hi - lo).toNat : Nat) : Int) - ((0 : Nat) : Int)) 1
    rw [e1, e2]
    exact Heap.get?_push_size _ rfl
  · have e : b = (s.heap.push { cls := .type "range", data := .fields #[.int lo t, .int hi u, .int 1 v] }).objs.size := by simpa using hb
    subst e
    exact I1.fpOk (Nat.le_refl _) (I1.hok.fresh (Nat.le_refl _))
def iRng1 (ta : TA) : TI := fun σ H R => ta σ H fun vs H1 => ∃ j : Int, vs = [.int j] ∧ -(2 ^ 62) ≤ j ∧ j < 2 ^ 62 ∧ R (Itr 0 j.toNat) H1
def iRng2 (ta : TA) : TI := fun σ H R => ta σ H fun vs H1 => ∃ i j : Int, vs = [.int i, .int j] ∧ (-(2 ^ 62) ≤ i ∧ i < 2 ^ 62 ∧ -(2 ^ 62) ≤ j ∧ j < 2 ^ 62) ∧ R (Itr i (j - i).toNat) H1
theorem pi_range1 {a : Expr} {ta : TA} {p pos : Pos} (hg : Gl X "range") (hm : X.mg "range" = none) (ha : PA X [a] ta) (hs : starEach [a] X.env = [(false, eval a X.env)] := by rfl) : PI X tg (.Call (.Name "range" p) [a] [] pos) (iRng1 ta) := by
  intro pins s σ H R I h
  refine Call_ (ld_blt I hg hm boot_range (PyProof.Rows.callWith_type1 (thn (ha pos pins s σ H _ I h) fun us s1 ⟨vs, H1, I1, r1, q1⟩ => ?_) hs rfl))
  obtain ⟨j, e, q1, q2, q⟩ := q1
  subst e
  cases r1 with
  | cons r rr =>
    cases rr
    obtain ⟨t, rfl⟩ := r
    exact call_range_1 (range_it I1 (by omega) (by omega) q1 q2 (by simpa using q))
/-! ### for -/
/-- W: the invariant by the turn and a measure; N: what the body is to reach -/
def tFor (wi : TI) (g : TG) (tb : TS) : TS := fun D σ H => wi σ H fun J H1 => ∃ W : Nat → Nat → St → Hp → Prop, (∃ m, W 0 m σ H1) ∧ ∀ i m σ H, W i m σ H →
  (J.stop i H ∧ D.nx σ H) ∨ (J.go i H ∧ ∃ N : St → Hp → Prop, (∀ σ' H', N σ' H' → ∃ m', m' < m ∧ W (i + 1) m' σ' H') ∧ ∀ x H', J.yld i H x H' → g x σ H' fun σ2 H2 => tb { D with nx := N, ct := N, bk := D.nx } σ2 H2)
/-- the records at fp as they stand -/
def pinsAt (fp : List Addr) (h : Heap) : List (Addr × Obj) := fp.filterMap fun b => (h.get? b).map fun o => (b, o)
theorem mem_pinsAt {fp : List Addr} {h : Heap} {b : Addr} {o : Obj} (hb : b ∈ fp) (e : h.get? b = some o) : (b, o) ∈ pinsAt fp h := List.mem_filterMap.mpr ⟨b, hb, by rw [e]; rfl⟩
theorem of_pinsAt {fp : List Addr} {h : Heap} {p : Addr × Obj} (hp : p ∈ pinsAt fp h) : p.1 ∈ fp ∧ h.get? p.1 = some p.2 := by
  obtain ⟨b, hb, e⟩ := List.mem_filterMap.mp hp
  cases q : h.get? b with
  | none => rw [q] at e; cases e
  | some o =>
    rw [q] at e
    have e' : (b, o) = p := Option.some.inj e
    subst e'
    exact ⟨hb, q⟩
theorem Inv.pinned {pins : List (Addr × Obj)} {σ : St} {H : Hp} {s : Shared} {fp : List Addr} (I : Inv X pins σ H s) (hf : ∀ b ∈ fp, FpOk X pins H b) (ho : ∀ b ∈ fp, ∃ o, s.heap.get? b = some o ∧ ∀ v, o.data ≠ .cell v) : Inv X (pins ++ pinsAt fp s.heap) σ H s :=
  I.pins_of fun p hp => (List.mem_append.mp hp).elim (fun z => I.pin p (List.mem_append_right _ z)) fun z => by
    obtain ⟨hb, e⟩ := of_pinsAt z
    obtain ⟨f0, f1, f2, _⟩ := hf p.1 hb
    obtain ⟨o, e', d⟩ := ho p.1 hb
    rw [e] at e'; cases e'
    exact ⟨e, f0, f1, f2, d⟩
theorem Inv.unpinned {pins pl : List (Addr × Obj)} {σ : St} {H : Hp} {s : Shared} (I : Inv X (pins ++ pl) σ H s) : Inv X pins σ H s := I.pins_of fun p hp => I.pin p (List.mem_append_right _ (List.mem_append_left _ hp))
theorem ps_for {iter : Expr} {body : List Stmt} {wi : TI} {g : TG} {tb : TS} {pos : Pos} (hp : PassesOwn (model X.prog X.w) X.A X.env X.xe) (hc : X.calm = true) (hi : PI X tg iter wi) (hg : PG X tg g) (hb : PSs X body tb)
    (hs : ∀ x, foldedSetIterable iter X.env x = pure x := by intro _; rfl) : PS X (.For tg iter body [] pos) (tFor wi g tb) := by
  intro pins s σ H D I h
  refine wpAny_For (thn (hi pins s σ H _ I h) fun v s1 h1 => thn h1 fun itv s2 h2 => ?_) hs
  obtain ⟨it, fp, tn, J, H2, e, I2, T, st2, f2, W, ⟨m0, w0⟩, turn⟩ := h2
  subst e
  -- what stays true of the iterator's objects through the loop
  have stat : ∀ {H' : Hp}, (∀ b ∈ fp, H' b = none) → ∀ b ∈ fp, FpOk X pins H' b := fun hn b hb => ⟨hn b hb, (f2 b hb).2⟩
  refine codeAny_forLoop_any (fun n s' => ∃ i σ' H', Inv X pins σ' H' s' ∧ tn i s'.heap ∧ (∀ b ∈ fp, H' b = none) ∧ W i n σ' H') ?_ m0 ⟨0, σ, H2, I2, st2, fun b hb => (f2 b hb).1, w0⟩
  rintro n s3 ⟨i, σ3, H3, I3, st3, fr3, w3⟩
  rcases turn i n σ3 H3 w3 with ⟨stop, qn⟩ | ⟨go, N, hN, step⟩
  · refine wpAny_passesOwn hp (thn (T.done X rfl rfl rfl hc i pins s3 σ3 H3 X.xe I3 (stat fr3) st3 stop) fun r s4 ⟨hr, I4⟩ => ?_)
    subst hr
    exact wpAny_execs_nil ⟨σ3, H3, I4, qn⟩
  · refine wpAny_passesOwn hp (thn (T.item X rfl rfl rfl hc i pins s3 σ3 H3 X.xe I3 (stat fr3) st3 go) fun r s4 ⟨u, hr, h4⟩ => ?_)
    subst hr
    refine wpAny_passesOwn hp (thn h4 fun _ s5 ⟨x, H5, I5, r5, y5, st5, fr5⟩ => ?_)
    have I5' := I5.pinned (stat fr5) (T.obj _ _ st5)
    refine wpAny_passesOwn hp (thn (hg _ s5 σ3 H5 x u _ I5' r5 (step x H5 y5)) fun _ s6 ⟨σ6, H6, I6, q6⟩ => ?_)
    refine wpAny_passesOwn hp (thn (hb _ s6 σ6 H6 _ I6 q6) fun f s7 q7 => ?_)
    have again : ∀ {σ7 : St} {H7 : Hp}, Inv X (pins ++ pinsAt fp s5.heap) σ7 H7 s7 → N σ7 H7 → ∃ m, m < n ∧ ∃ i σ' H', Inv X pins σ' H' s7 ∧ tn i s7.heap ∧ (∀ b ∈ fp, H' b = none) ∧ W i m σ' H' := fun {σ7 H7} I7 n7 => by
      obtain ⟨m', hm, w7⟩ := hN σ7 H7 n7
      refine ⟨m', hm, i + 1, σ7, H7, I7.unpinned, T.keep _ _ _ st5 fun b hb o e => (I7.pin (b, o) (List.mem_append_right _ (List.mem_append_right _ (mem_pinsAt hb e)))).1, fun b hb => ?_, w7⟩
      obtain ⟨o, e, d⟩ := T.obj _ _ st5 b hb
      exact (I7.pin (b, o) (List.mem_append_right _ (List.mem_append_right _ (mem_pinsAt hb e)))).2.1
    cases f with
    | next => obtain ⟨σ7, H7, I7, n7⟩ := q7; exact again I7 n7
    | cont => obtain ⟨σ7, H7, I7, n7⟩ := q7; exact again I7 n7
    | brk => obtain ⟨σ7, H7, I7, q7⟩ := q7; exact ⟨σ7, H7, I7.unpinned, q7⟩
    | ret v => obtain ⟨x7, σ7, H7, I7, r7, q7⟩ := q7; exact ⟨x7, σ7, H7, I7.unpinned, r7, q7⟩
end

/-! ### the forms one uses -/
/-- over a list that the body leaves as it is -/
theorem for_list {K : PySem.W.Frag} {a : Addr} {xs : List V} {g : TG} {tb : TS} {D : Ends} {σ : St} {H : Hp} (Pv : Nat → St → Hp → Prop) (h0 : Pv 0 σ H) (hl : ∀ i σ H, i ≤ xs.length → Pv i σ H → SqL K H a xs)
    (hs : ∀ i x σ H, xs[i]? = some x → Pv i σ H → g x σ H fun σ2 H2 => tb { D with nx := Pv (i + 1), ct := Pv (i + 1), bk := D.nx } σ2 H2) (hd : ∀ σ H, Pv xs.length σ H → D.nx σ H) :
    ∃ W : Nat → Nat → St → Hp → Prop, (∃ m, W 0 m σ H) ∧ ∀ i m σ H, W i m σ H →
      ((Itl K a).stop i H ∧ D.nx σ H) ∨ ((Itl K a).go i H ∧ ∃ N : St → Hp → Prop, (∀ σ' H', N σ' H' → ∃ m', m' < m ∧ W (i + 1) m' σ' H') ∧ ∀ x H', (Itl K a).yld i H x H' → g x σ H' fun σ2 H2 => tb { D with nx := N, ct := N, bk := D.nx } σ2 H2) := by
  refine ⟨fun i m σ H => m = xs.length - i ∧ i ≤ xs.length ∧ Pv i σ H, ⟨xs.length, by simp, Nat.zero_le _, h0⟩, ?_⟩
  rintro i m σ H ⟨rfl, hi, p⟩
  have q := hl i σ H hi p
  by_cases hlt : i < xs.length
  · refine .inr ⟨⟨xs, xs[i], q, by simp [hlt]⟩, Pv (i + 1), fun σ' H' p' => ⟨xs.length - (i + 1), by omega, rfl, hlt, p'⟩, fun x H' y => ?_⟩
    obtain ⟨e, y⟩ := y
    subst e
    exact hs i x σ _ (y xs q) p
  · have e : i = xs.length := by omega
    subst e
    exact .inl ⟨⟨xs, q, Nat.le_refl _⟩, hd σ H p⟩
theorem for_range {lo : Int} {n : Nat} {g : TG} {tb : TS} {D : Ends} {σ : St} {H : Hp} (Pv : Nat → St → Hp → Prop) (h0 : Pv 0 σ H)
    (hs : ∀ i σ H, i < n → Pv i σ H → g (.int (lo + i)) σ H fun σ2 H2 => tb { D with nx := Pv (i + 1), ct := Pv (i + 1), bk := D.nx } σ2 H2) (hd : ∀ σ H, Pv n σ H → D.nx σ H) :
    ∃ W : Nat → Nat → St → Hp → Prop, (∃ m, W 0 m σ H) ∧ ∀ i m σ H, W i m σ H →
      ((Itr lo n).stop i H ∧ D.nx σ H) ∨ ((Itr lo n).go i H ∧ ∃ N : St → Hp → Prop, (∀ σ' H', N σ' H' → ∃ m', m' < m ∧ W (i + 1) m' σ' H') ∧ ∀ x H', (Itr lo n).yld i H x H' → g x σ H' fun σ2 H2 => tb { D with nx := N, ct := N, bk := D.nx } σ2 H2) := by
  refine ⟨fun i m σ H => m = n - i ∧ i ≤ n ∧ Pv i σ H, ⟨n, by simp, Nat.zero_le _, h0⟩, ?_⟩
  rintro i m σ H ⟨rfl, hi, p⟩
  by_cases hlt : i < n
  · refine .inr ⟨hlt, Pv (i + 1), fun σ' H' p' => ⟨n - (i + 1), by omega, rfl, hlt, p'⟩, fun x H' y => ?_⟩
    obtain ⟨e, y⟩ := y
    subst e y
    exact hs i σ _ hlt p
  · have e : i = n := by omega
    subst e
    exact .inl ⟨Nat.le_refl _, hd σ H p⟩
end L2

namespace L2
open PySem PySem.Spec PyProof.Rows

abbrev R2 := V → V → Hp → VK → Prop
/-- a two-place operation on values: f is binaryOp op, inplaceOp op or compareOp op -/
def OpR (X : Cx) (f : Value → Value → Sem Value) (r : R2) : Prop :=
  ∀ (pins : List (Addr × Obj)) (s : Shared) (σ : St) (H : Hp) (x y : V) (v u : Value) (Q : VK), Inv X pins σ H s → RelV x v → RelV y u → r x y H Q →
    wpAny (model X.prog X.w) X.A (f v u) (EP X pins σ Q) X.xe s
/-- a one-place operation -/
def UnR (X : Cx) (f : Value → Sem Value) (r : V → Hp → VK → Prop) : Prop :=
  ∀ (pins : List (Addr × Obj)) (s : Shared) (σ : St) (H : Hp) (x : V) (v : Value) (Q : VK), Inv X pins σ H s → RelV x v → r x H Q →
    wpAny (model X.prog X.w) X.A (f v) (EP X pins σ Q) X.xe s
/-- a call of a value that is known (a builtin, a type) with values -/
def CallR (X : Cx) (f : Value) (r : List V → Hp → VK → Prop) : Prop :=
  ∀ (pins : List (Addr × Obj)) (s : Shared) (σ : St) (H : Hp) (xs : List V) (us : List Value) (Q : VK), Inv X pins σ H s → Vals xs us → r xs H Q →
    wpAny (model X.prog X.w) X.A (call f us) (EP X pins σ Q) X.xe s
/-- a value's truth -/
def TruR (X : Cx) (r : V → Hp → (Bool → Hp → Prop) → Prop) : Prop :=
  ∀ (pins : List (Addr × Obj)) (s : Shared) (σ : St) (H : Hp) (x : V) (v : Value) (Q : Bool → Hp → Prop), Inv X pins σ H s → RelV x v → r x H Q →
    wpAny (model X.prog X.w) X.A (truthy v) (TP X pins σ Q) X.xe s

def tOp (r : R2) (ta tb : TE) : TE := fun σ H Q => ta σ H fun x H1 => tb σ H1 fun y H2 => r x y H2 Q
def tUn (r : V → Hp → VK → Prop) (ta : TE) : TE := fun σ H Q => ta σ H fun x H1 => r x H1 Q
/-- ints in, under C, and a value out -/
def rI (C : Int → Int → Prop) (g : Int → Int → V) : R2 := fun x y H Q => ∃ i j, x = .int i ∧ y = .int j ∧ C i j ∧ Q (g i j) H
def rI0 (g : Int → Int → V) : R2 := fun x y H Q => ∃ i j, x = .int i ∧ y = .int j ∧ Q (g i j) H
def rU (g : Int → V) : V → Hp → VK → Prop := fun x H Q => ∃ i, x = .int i ∧ Q (g i) H

section
variable {X : Cx} {a b c : Expr} {ta tb tc : TE} {pos : Pos}

theorem binT (ha : PE X a ta) (hb : PE X b tb) {pins : List (Addr × Obj)} {s : Shared} {σ : St} {H : Hp} {R : V → V → Hp → Prop} (I : Inv X pins σ H s)
    (h : ta σ H fun x H1 => tb σ H1 fun y H2 => R x y H2) {Q : Value → Shared → Prop} {f : Value → Value → Sem Value}
    (hf : ∀ v u s2 x y H2, Inv X pins σ H2 s2 → RelV x v → RelV y u → R x y H2 → wpAny (model X.prog X.w) X.A (f v u) Q X.xe s2) :
    wpAny (model X.prog X.w) X.A (eval a X.env) (fun v s₁ => wpAny (model X.prog X.w) X.A (eval b X.env) (fun u s₂ => wpAny (model X.prog X.w) X.A (f v u) Q X.xe s₂) X.xe s₁) X.xe s := by
  refine thn (ha pins s σ H _ I h) fun v s1 ⟨x, H1, I1, r1, q1⟩ => ?_
  refine thn (hb pins s1 σ H1 _ I1 q1) fun u s2 ⟨y, H2, I2, r2, q2⟩ => ?_
  exact hf v u s2 x y H2 I2 r1 r2 q2

theorem pe_op {op : Operator} {r : R2} (ho : OpR X (binaryOp op) r) (ha : PE X a ta) (hb : PE X b tb) : PE X (.BinOp a op b pos) (tOp r ta tb) := by
  intro pins s σ H Q I h
  exact wpAny_BinOp (binT ha hb I h fun v u s2 x y H2 I2 rx ry q => ho pins s2 σ H2 x y v u Q I2 rx ry q)
theorem pe_un {op : UnaryOp} {r : V → Hp → VK → Prop} (ho : UnR X (unaryOp op) r) (ha : PE X a ta) : PE X (.UnaryOp op a pos) (tUn r ta) := by
  intro pins s σ H Q I h
  exact UnaryOp_ (thn (ha pins s σ H _ I h) fun v s1 ⟨x, H1, I1, r1, q1⟩ => ho pins s1 σ H1 x v Q I1 r1 q1)
/-! ### ints -/
theorem opI {f : Value → Value → Sem Value} {C : Int → Int → Prop} {g : Int → Int → Int}
    (rule : ∀ (i j : Int) (t u : Tok) (s : Shared) (Q : Value → Shared → Prop) (E : Value → Shared → Prop), C i j → Q (.int (g i j) s.toks) { s with toks := s.toks + 1 } → wpAny (model X.prog X.w) X.A (f (.int i t) (.int j u)) Q E s) :
    OpR X f (rI C fun i j => .int (g i j)) := by
  intro pins s σ H x y v u Q I rx ry h
  obtain ⟨i, j, rfl, rfl, hc, q⟩ := h
  obtain ⟨t, rfl⟩ := rx
  obtain ⟨t', rfl⟩ := ry
  exact rule i j t t' s _ _ hc ⟨.int (g i j), H, I.tok _, ⟨_, rfl⟩, q⟩
theorem opI0 {f : Value → Value → Sem Value} {g : Int → Int → Int}
    (rule : ∀ (i j : Int) (t u : Tok) (s : Shared) (Q : Value → Shared → Prop) (E : Value → Shared → Prop), Q (.int (g i j) s.toks) { s with toks := s.toks + 1 } → wpAny (model X.prog X.w) X.A (f (.int i t) (.int j u)) Q E s) :
    OpR X f (rI0 fun i j => .int (g i j)) := by
  intro pins s σ H x y v u Q I rx ry h
  obtain ⟨i, j, rfl, rfl, q⟩ := h
  obtain ⟨t, rfl⟩ := rx
  obtain ⟨t', rfl⟩ := ry
  exact rule i j t t' s _ _ ⟨.int (g i j), H, I.tok _, ⟨_, rfl⟩, q⟩
theorem opB0 {f : Value → Value → Sem Value} {g : Int → Int → Bool}
    (rule : ∀ (i j : Int) (t u : Tok) (s : Shared) (Q : Value → Shared → Prop) (E : Value → Shared → Prop), Q (.bool (g i j)) s → wpAny (model X.prog X.w) X.A (f (.int i t) (.int j u)) Q E s) :
    OpR X f (rI0 fun i j => .bl (g i j)) := by
  intro pins s σ H x y v u Q I rx ry h
  obtain ⟨i, j, rfl, rfl, q⟩ := h
  obtain ⟨t, rfl⟩ := rx
  obtain ⟨t', rfl⟩ := ry
  exact rule i j t t' s _ _ ⟨.bl (g i j), H, I, rfl, q⟩

def CDiv (i j : Int) : Prop := 0 < j ∧ j < 1073741824
def CDivN (i j : Int) : Prop := j ≠ 0 ∧ j.natAbs < 1073741824
def CPow (i j : Int) : Prop := 0 ≤ j ∧ j ≤ 1000000 ∧ i.natAbs < 2 ^ 64
def CMul (i j : Int) : Prop := (-(2 ^ 64) < i ∧ i < 2 ^ 64) ∨ (-(2 ^ 64) < j ∧ j < 2 ^ 64)
theorem CMul.ok {i j : Int} (h : CMul i j) : IntMulOk i j := by
  rcases h with ⟨h1, h2⟩ | ⟨h1, h2⟩
  · exact .of_left (intBits_le_64 h1 h2)
  · exact .of_right (intBits_le_64 h1 h2)
theorem op_add : OpR X (binaryOp .Add) (rI0 fun i j => .int (i + j)) := opI0 fun _ _ _ _ _ _ _ q => add_int q
theorem op_sub : OpR X (binaryOp .Sub) (rI0 fun i j => .int (i - j)) := opI0 fun _ _ _ _ _ _ _ q => sub_int q
theorem op_mul : OpR X (binaryOp .Mult) (rI CMul fun i j => .int (i * j)) := opI fun _ _ _ _ _ _ _ hc q => mul_int q hc.ok
/-- // by a positive divisor -/
theorem op_fdiv : OpR X (binaryOp .FloorDiv) (rI CDiv fun i j => .int (i / j)) := opI fun i j _ _ _ _ _ hc q => by
  have h1 : (0 : Int) < j := hc.1
  have h2 : j < 1073741824 := hc.2
  exact floordiv_int (by omega) (by rw [Int.fdiv_eq_ediv_of_nonneg i (by omega)]; exact q) (.inl (PyProof.noPylong_small (by omega)))
/-- % by a positive divisor of any size -/
theorem op_mod : OpR X (binaryOp .Mod) (rI (fun _ j => 0 < j) fun i j => .int (i % j)) := opI fun i j _ _ _ _ _ hc q => by
  have h1 : (0 : Int) < j := hc
  exact mod_int' (by omega) (by rw [Int.fmod_eq_emod_of_nonneg i (by omega)]; exact q)
theorem op_pow : OpR X (binaryOp .Pow) (rI CPow fun i j => .int (i ^ j.toNat)) := opI fun _ _ _ _ _ _ _ hc q => pow_int_small hc.1 hc.2.1 hc.2.2 q
theorem op_shl : OpR X (binaryOp .LShift) (rI CPow fun i j => .int (i * 2 ^ j.toNat)) := opI fun _ _ _ _ _ _ _ hc q => lshift_int_small hc.1 hc.2.1 hc.2.2 q
theorem op_or : OpR X (binaryOp .BitOr) (rI0 fun i j => .int (Builtin.bitOr i j)) := opI0 fun _ _ _ _ _ _ _ q => or_int q
theorem unI {f : Value → Sem Value} {g : Int → Int}
    (rule : ∀ (i : Int) (t : Tok) (s : Shared) (Q : Value → Shared → Prop) (E : Value → Shared → Prop), Q (.int (g i) s.toks) { s with toks := s.toks + 1 } → wpAny (model X.prog X.w) X.A (f (.int i t)) Q E s) :
    UnR X f (rU fun i => .int (g i)) := by
  intro pins s σ H x v Q I rx h
  obtain ⟨i, rfl, q⟩ := h
  obtain ⟨t, rfl⟩ := rx
  exact rule i t s _ _ ⟨.int (g i), H, I.tok _, ⟨_, rfl⟩, q⟩
theorem un_neg : UnR X (unaryOp .USub) (rU fun i => .int (-i)) := unI fun _ _ _ _ _ q => neg_int q
/-! ### bools among ints: n += (a < b) -/
end

/-! ### comparisons -/
/-- the scalars that == tells apart as data does -/
def scal : V → V → Bool
  | .non, .non => true | .non, .int _ => true | .int _, .non => true | .non, .bl _ => true | .bl _, .non => true | .non, .str _ => true | .str _, .non => true
  | .int _, .int _ => true | .bl _, .bl _ => true | .str _, .str _ => true | .byt _, .byt _ => true
  | .int _, .str _ => true | .str _, .int _ => true | .bl _, .str _ => true | .str _, .bl _ => true
  | _, _ => false
def rEq : R2 := fun x y H Q => scal x y = true ∧ Q (.bl (decide (x = y))) H
def rNe : R2 := fun x y H Q => scal x y = true ∧ Q (.bl (!decide (x = y))) H

theorem dec_int {i j : Int} : decide (V.int i = V.int j) = (i == j) := by
  rw [Bool.eq_iff_iff]
  simp
theorem dec_bl {i j : Bool} : decide (V.bl i = V.bl j) = (i == j) := by
  rw [Bool.eq_iff_iff]
  simp
theorem dec_str {i j : Str} : decide (V.str i = V.str j) = (i == j) := by
  rw [Bool.eq_iff_iff]
  simp
theorem dec_byt {i j : Array UInt8} : decide (V.byt i = V.byt j) = (i.toList == j.toList) := by
  rw [Bool.eq_iff_iff]
  cases i
  cases j
  simp

section
variable {X : Cx} {a b c : Expr} {ta tb tc : TE} {pos : Pos}
theorem fin_bl {pins : List (Addr × Obj)} {σ : St} {H : Hp} {s : Shared} {Q : VK} {k k' : Bool} (I : Inv X pins σ H s) (q : Q (.bl k) H) (e : k = k') : EP X pins σ Q (.bool k') s := by
  subst e
  exact ⟨.bl k, H, I, rfl, q⟩
theorem op_eq : OpR X (compareOp .Eq) rEq := by
  intro pins s σ H x y v u Q I rx ry h
  obtain ⟨hs, q⟩ := h
  cases x with
  | non =>
    cases rx
    cases y with
    | non => cases ry; exact PySem.EqNone.eq_none_none (fin_bl I q (by simp))
    | bl j => cases ry; exact PySem.EqNone.eq_none_bool (fin_bl I q (by simp))
    | int j => obtain ⟨t', rfl⟩ := ry; exact PySem.EqNone.eq_none_int (fin_bl I q (by simp))
    | str j => obtain ⟨t', rfl⟩ := ry; exact PySem.EqNone.eq_none_str (fin_bl I q (by simp))
    | _ => exact absurd (show false = true from hs) Bool.false_ne_true
  | bl i =>
    cases rx
    cases y with
    | non => cases ry; exact PySem.EqNone.eq_bool_none (fin_bl I q (by simp))
    | bl j => cases ry; exact eq_bool (fin_bl I q dec_bl)
    | str j => obtain ⟨t', rfl⟩ := ry; exact PySem.EqMixed.eq_bool_str (fin_bl I q (by simp))
    | _ => exact absurd (show false = true from hs) Bool.false_ne_true
  | int i =>
    obtain ⟨t, rfl⟩ := rx
    cases y with
    | non => cases ry; exact PySem.EqNone.eq_int_none (fin_bl I q (by simp))
    | int j => obtain ⟨t', rfl⟩ := ry; exact eq_int (fin_bl I q dec_int)
    | str j => obtain ⟨t', rfl⟩ := ry; exact PySem.EqMixed.eq_int_str (fin_bl I q (by simp))
    | _ => exact absurd (show false = true from hs) Bool.false_ne_true
  | str i =>
    obtain ⟨t, rfl⟩ := rx
    cases y with
    | non => cases ry; exact PySem.EqNone.eq_str_none (fin_bl I q (by simp))
    | bl j => cases ry; exact PySem.EqMixed.eq_str_bool (fin_bl I q (by simp))
    | int j => obtain ⟨t', rfl⟩ := ry; exact PySem.EqMixed.eq_str_int (fin_bl I q (by simp))
    | str j => obtain ⟨t', rfl⟩ := ry; exact eq_str (fin_bl I q dec_str)
    | _ => exact absurd (show false = true from hs) Bool.false_ne_true
  | byt i =>
    obtain ⟨t, rfl⟩ := rx
    cases y with
    | byt j => obtain ⟨t', rfl⟩ := ry; exact PySem.W.eq_bytes (fin_bl I q dec_byt)
    | _ => exact absurd (show false = true from hs) Bool.false_ne_true
  | _ => cases y <;> exact absurd (show false = true from hs) Bool.false_ne_true
theorem op_ne : OpR X (compareOp .NotEq) rNe := by
  intro pins s σ H x y v u Q I rx ry h
  obtain ⟨hs, q⟩ := h
  cases x with
  | non =>
    cases rx
    cases y with
    | non => cases ry; exact PySem.EqNone.ne_none_none (fin_bl I q (by simp))
    | bl j => cases ry; exact PySem.EqNone.ne_none_bool (fin_bl I q (by simp))
    | int j => obtain ⟨t', rfl⟩ := ry; exact PySem.EqNone.ne_none_int (fin_bl I q (by simp))
    | str j => obtain ⟨t', rfl⟩ := ry; exact PySem.EqNone.ne_none_str (fin_bl I q (by simp))
    | _ => exact absurd (show false = true from hs) Bool.false_ne_true
  | bl i =>
    cases rx
    cases y with
    | non => cases ry; exact PySem.EqNone.ne_bool_none (fin_bl I q (by simp))
    | bl j => cases ry; exact ne_bool (fin_bl I q (congrArg not dec_bl))
    | str j => obtain ⟨t', rfl⟩ := ry; exact PySem.EqMixed.ne_bool_str (fin_bl I q (by simp))
    | _ => exact absurd (show false = true from hs) Bool.false_ne_true
  | int i =>
    obtain ⟨t, rfl⟩ := rx
    cases y with
    | non => cases ry; exact PySem.EqNone.ne_int_none (fin_bl I q (by simp))
    | int j => obtain ⟨t', rfl⟩ := ry; exact ne_int (fin_bl I q (congrArg not dec_int))
    | str j => obtain ⟨t', rfl⟩ := ry; exact PySem.EqMixed.ne_int_str (fin_bl I q (by simp))
    | _ => exact absurd (show false = true from hs) Bool.false_ne_true
  | str i =>
    obtain ⟨t, rfl⟩ := rx
    cases y with
    | non => cases ry; exact PySem.EqNone.ne_str_none (fin_bl I q (by simp))
    | bl j => cases ry; exact PySem.EqMixed.ne_str_bool (fin_bl I q (by simp))
    | int j => obtain ⟨t', rfl⟩ := ry; exact PySem.EqMixed.ne_str_int (fin_bl I q (by simp))
    | str j => obtain ⟨t', rfl⟩ := ry; exact ne_str (fin_bl I q (congrArg not dec_str))
    | _ => exact absurd (show false = true from hs) Bool.false_ne_true
  | byt i =>
    obtain ⟨t, rfl⟩ := rx
    cases y with
    | byt j => obtain ⟨t', rfl⟩ := ry; exact PySem.W.ne_bytes (fin_bl I q (congrArg not dec_byt))
    | _ => exact absurd (show false = true from hs) Bool.false_ne_true
  | _ => cases y <;> exact absurd (show false = true from hs) Bool.false_ne_true

theorem op_lt : OpR X (compareOp .Lt) (rI0 fun i j => .bl (decide (i < j))) := opB0 fun _ _ _ _ _ _ _ q => lt_int q
theorem op_le : OpR X (compareOp .LtE) (rI0 fun i j => .bl (decide (i ≤ j))) := opB0 fun _ _ _ _ _ _ _ q => le_int q
theorem op_gt : OpR X (compareOp .Gt) (rI0 fun i j => .bl (decide (j < i))) := opB0 fun _ _ _ _ _ _ _ q => gt_int q
/-- is None, is not None: the right side a value none -/
theorem op_isN : OpR X (compareOp .Is) (fun x y H Q => y = .non ∧ Q (.bl (decide (x = .non))) H) := by
  intro pins s σ H x y v u Q I rx ry h
  obtain ⟨rfl, q⟩ := h
  cases ry
  refine is_none_gen (fin_bl I q ?_)
  cases x <;> first
    | (cases rx; rfl)
    | (obtain ⟨t, rfl⟩ := rx; rfl)
theorem op_notN : OpR X (compareOp .IsNot) (fun x y H Q => y = .non ∧ Q (.bl (!decide (x = .non))) H) := by
  intro pins s σ H x y v u Q I rx ry h
  obtain ⟨rfl, q⟩ := h
  cases ry
  refine isnot_none_gen (fin_bl I q ?_)
  cases x <;> first
    | (cases rx; rfl)
    | (obtain ⟨t, rfl⟩ := rx; rfl)

/-- is, is not of two objects that are tracked lists or instances -/
def isObj : HO → Bool
  | .lst _ => true
  | .ins _ _ _ => true
  | _ => false
/-- two rules for one operation: by cases -/
theorem OpR.or {f : Value → Value → Sem Value} {r r' : R2} (h : OpR X f r) (h' : OpR X f r') : OpR X f (fun x y H Q => r x y H Q ∨ r' x y H Q) := by
  intro pins s σ H x y v u Q I rx ry q
  rcases q with q | q
  · exact h pins s σ H x y v u Q I rx ry q
  · exact h' pins s σ H x y v u Q I rx ry q

theorem nomark (b : Expr) {op : CmpOp} (h : op ≠ .In := by decide) (h2 : op ≠ .NotIn := by decide) : behindInMarks op b = false := by
  have e1 : (op == CmpOp.In) = false := by cases op <;> first | rfl | exact absurd rfl h
  have e2 : (op == CmpOp.NotIn) = false := by cases op <;> first | rfl | exact absurd rfl h2
  cases b <;> simp [behindInMarks, e1, e2]
/-- a comparison as a value; hm: nomark b, or (for in, not in) by with_unfolding_all rfl -/
theorem pe_cmpR {op : CmpOp} {r : R2} (ho : OpR X (compareOp op) r) (ha : PE X a ta) (hb : PE X b tb) (hm : behindInMarks op b = false) : PE X (.Compare a [op] [b] pos) (tOp r ta tb) := by
  intro pins s σ H Q I h
  exact wpAny_Compare1 (binT ha hb I h fun v u s2 x y H2 I2 rx ry q => ho pins s2 σ H2 x y v u Q I2 rx ry q) hm
/-- a reading of a value as a test -/
def tTest (t : TE) : TT := fun σ H Q => t σ H fun x H' => ∃ k, x = .bl k ∧ Q k H'
theorem pt_cmpR {op : CmpOp} {r : R2} (ho : OpR X (compareOp op) r) (ha : PE X a ta) (hb : PE X b tb) (hm : behindInMarks op b = false) : PT X (.Compare a [op] [b] pos) (tTest (tOp r ta tb)) := by
  intro pins s σ H Q I h
  refine wpAny_isTrue_Compare1 (thn (ha pins s σ H _ I h) fun v s1 ⟨x, H1, I1, r1, q1⟩ => thn (hb pins s1 σ H1 _ I1 q1) fun u s2 ⟨y, H2, I2, r2, q2⟩ =>
    thn (ho pins s2 σ H2 x y v u _ I2 r1 r2 q2) fun c s3 ⟨z, H3, I3, r3, k, e, q3⟩ => ?_) hm
  subst e
  cases r3
  exact wpAny_truthy_bool ⟨H3, I3, q3⟩
/-- a op1 b op2 c -/
def tChain (r r' : R2) (ta tb tc : TE) : TE := fun σ H Q => ta σ H fun x H1 => tb σ H1 fun y H2 => r x y H2 fun z H3 => ∃ k, z = .bl k ∧
  (if k = true then tc σ H3 fun w' H4 => r' y w' H4 Q else Q (.bl false) H3)
theorem pe_chain {op op' : CmpOp} {r r' : R2} (ho : OpR X (compareOp op) r) (ho' : OpR X (compareOp op') r') (ha : PE X a ta) (hb : PE X b tb) (hc : PE X c tc)
    (hm : lastMarks [op, op'] [b, c] = false := by with_unfolding_all rfl) : PE X (.Compare a [op, op'] [b, c] pos) (tChain r r' ta tb tc) := by
  intro pins s σ H Q I h
  refine Compare_chain (thn (ha pins s σ H _ I h) fun v s1 ⟨x, H1, I1, r1, q1⟩ => chain_link (thn (hb pins s1 σ H1 _ I1 q1) fun u s2 ⟨y, H2, I2, r2, q2⟩ =>
    thn (ho pins s2 σ H2 x y v u _ I2 r1 r2 q2) fun d s3 ⟨z, H3, I3, r3, k, e, q3⟩ => ?_)) hm
  subst e
  cases r3
  refine wpAny_truthy_bool ?_
  cases k with
  | false => exact ite_ff ⟨.bl false, H3, I3, rfl, q3⟩
  | true => exact ite_tt (chain_last (thn (hc pins s3 σ H3 _ I3 q3) fun w' s4 ⟨z', H4, I4, r4, q4⟩ => ho' pins s4 σ H4 y z' u w' Q I4 r2 r4 q4))
/-! ### truth -/
/-- a value's truth by the abstract heap -/
def TruV (K : PySem.W.Frag) (x : V) (H : Hp) (k : Bool) : Prop :=
  match x with
  | .non => k = false
  | .bl b => k = b
  | .int i => k = (i != 0)
  | .str y => y.length ≤ sizeLine ∧ k = ((y.length : Int) != 0)
  | .byt y => y.size ≤ sizeLine ∧ k = ((y.size : Int) != 0)
  | .ref p => (∃ xs, SqL K H p xs ∧ k = !xs.isEmpty) ∨ (∃ xs, SqT K H p xs ∧ k = !xs.isEmpty) ∨ ∃ kvs, H p = some (.dK kvs) ∧ k = !kvs.isEmpty
  | _ => False
theorem line63 : (sizeLine : Nat) < 2 ^ 63 := by rw [sizeLine_eq]; decide
/-! ### strs and bytes -/
def PlainIxT (b : Expr) : Prop := ∀ o i, subscripted b false o i = operate [o, i] (getItem o i)
/-! ### scalar builtins, by CallR -/
theorem vals1 {x : V} {us : List Value} (r : Vals [x] us) : ∃ u, us = [u] ∧ RelV x u := by
  cases r with
  | cons r1 r2 => cases r2; exact ⟨_, rfl, r1⟩
theorem vals2 {x y : V} {us : List Value} (r : Vals [x, y] us) : ∃ u w', us = [u, w'] ∧ RelV x u ∧ RelV y w' := by
  cases r with
  | cons r1 r2 =>
    cases r2 with
    | cons r3 r4 => cases r4; exact ⟨_, _, rfl, r1, r3⟩
/-- len of a str, a bytes, a list, a tuple -/
def LenV (K : PySem.W.Frag) (x : V) (H : Hp) (n : Nat) : Prop :=
  match x with
  | .str y => y.length ≤ sizeLine ∧ n = y.length
  | .byt y => y.size ≤ sizeLine ∧ n = y.size
  | .ref p => (∃ xs, SqL K H p xs ∧ n = xs.length) ∨ ∃ xs, SqT K H p xs ∧ n = xs.length
  | _ => False
end
end L2

namespace L2
open PySem PySem.Spec PyProof.Rows

/-! ### an instance, its attributes a map -/
structure ObjM (h : Heap) (x dx C : Addr) (mA : Str → Option Value) : Prop where
  obj : h.get? x = some (PySem.W.instObj C dx)
  ns : h.Ns1 dx mA
  ne : dx ≠ x

theorem lookIn_ns {h : Heap} {dx : Addr} {mA : Str → Option Value} (n : h.Ns1 dx mA) : ∃ od, h.get? dx = some od ∧ ∀ name, PySem.W.lookIn name od = some (mA name) := by
  obtain ⟨o, es, ep, ho, hd, hk, _, hm⟩ := n
  refine ⟨o, ho, fun name => ?_⟩
  have e := hm name
  unfold nsFind findBy at e
  rw [← Array.find?_toList] at e
  unfold PySem.W.lookIn
  rw [hd]
  dsimp only
  split
  · rename_i y q
    rw [q] at e
    exact congrArg some e
  · rename_i q
    rw [q] at e
    have a : es.toList.any (·.refKey) = false := by
      rw [List.any_eq_false]
      intro y hy
      obtain ⟨z, t, hkey⟩ := hk y (Array.mem_toList_iff.mp hy)
      simp [DictEntry.refKey, hkey]
    have a' : ¬ es.toList.any (·.refKey) = true := by rw [a]; exact Bool.false_ne_true
    rw [if_neg a']
    exact congrArg some e

theorem ObjM.look {h : Heap} {x dx C : Addr} {mA : Str → Option Value} (I : ObjM h x dx C mA) : ∃ od, PySem.W.InstAt h x (PySem.W.instObj C dx) C (some od) ∧ ∀ name, PySem.W.lookIn name od = some (mA name) :=
  let ⟨od, ho, hl⟩ := lookIn_ns I.ns
  ⟨od, ⟨I.obj, rfl, rfl, ho⟩, hl⟩

section
variable {prog : Program} {w : World} {A : Around} {E : Value → Shared → Prop} {s : Shared} {K : PySem.W.Frag} {x dx C f : Addr} {mA : Str → Option Value} {name : Str} {v : Value}

end

/-! ### the attributes as a list of pairs -/
def putF (f : Str) (v : V) : List (Str × V) → List (Str × V)
  | [] => [(f, v)]
  | (g, x) :: r => if g = f then (g, v) :: r else (g, x) :: putF f v r
theorem RelO.some_of {v : V} {o : Option Value} (r : RelO (some v) o) : ∃ u, o = some u ∧ RelV v u := by
  cases o with
  | none => exact (show False from r).elim
  | some u => exact ⟨u, rfl, r⟩
theorem handed_of {v : V} {u : Value} (r : RelV v u) : PySem.W.handedIn u = true := by
  cases v with
  | non => cases (show u = Value.none from r); rfl
  | bl b => cases (show u = Value.bool b from r); rfl
  | int i => obtain ⟨t, e⟩ := (show ∃ t, u = Value.int i t from r); cases e; rfl
  | str x => obtain ⟨t, e⟩ := (show ∃ t, u = Value.str x t from r); cases e; rfl
  | byt b => obtain ⟨t, e⟩ := (show ∃ t, u = Value.bytes b t from r); cases e; rfl
  | flt b => obtain ⟨t, e⟩ := (show ∃ t, u = Value.float b t from r); cases e; rfl
  | ref a => cases (show u = Value.ref a from r); rfl
  | ty n => cases (show u = Value.type n from r); rfl

section
variable {P : Program} {w : World} {H H' : Hp} {h h' : Heap} {a C dx : Addr} {fs fs' : List (Str × V)}
theorem ins_get (hok : HOk P w H h) (e : H a = some (.ins C dx fs)) : ∃ mA, ObjM h a dx C mA ∧ (∀ f, RelO (fs.lookup f) (mA f)) ∧ PySem.Within mA (fs.map (·.1)) ∧ fs.length ≤ 1000 ∧ H dx = some (.own a) := by
  obtain ⟨d, z, ne, ob, mA, n, r, q⟩ := (show ObjOk P w H h a (.ins C dx fs) from hok a _ e)
  exact ⟨mA, ⟨ob, n, ne⟩, r, q, z, d⟩
end

/-! ### what of the text a class must have -/
structure Cls (K : PySem.W.Frag) (C : Addr) : Prop where
  pg : PySem.W.plainGet K C Str.empty = true
  hd : PySem.W.hasDictIn K C = true
  po : PySem.W.plainOver K C = true
  sa : PySem.W.findIn K (.ref C) "__setattr__" = some (some (.builtin "object.__setattr__"))
theorem Cls.get {K : PySem.W.Frag} {C : Addr} (c : Cls K C) (f : Str) : PySem.W.plainGet K C f = true := c.pg
/-- no class of it has the name -/
def NoAttr (K : PySem.W.Frag) (C : Addr) (f : Str) : Prop := PySem.W.findIn K (.ref C) f = some none
/-- a constant of the class -/
structure Con (K : PySem.W.Frag) (C : Addr) (f : Str) (v : V) (u : Value) : Prop where
  at_ : PySem.W.findIn K (.ref C) f = some (some u)
  rel : RelV v u
  get : PySem.W.specialIn K u "__get__" = some none
  cp : PySem.W.copiedNames.contains f = false
/-- a method: a plain def of the class or of one above it -/
structure Meth (K : PySem.W.Frag) (C : Addr) (m : Str) (f : Addr) : Prop where
  at_ : PySem.W.findIn K (.ref C) m = some (some (.ref f))
  fn : PySem.W.isFn K (.ref f) = true
  kp : PySem.W.keepIn K (.ref f) = true

section
variable {X : Cx} {pins : List (Addr × Obj)} {σ : St} {H : Hp} {s : Shared} {a C dx : Addr} {fs : List (Str × V)} {f : Str} {v : V} {A : Around} {E : Value → Shared → Prop}

/-- a new instance, tracked, without attributes -/
theorem Inv.made (I : Inv X pins σ H s) : Inv X pins σ (upd (upd H s.heap.objs.size (.own (s.heap.objs.size + 1))) (s.heap.objs.size + 1) (.ins C s.heap.objs.size []))
    { s with heap := (s.heap.push PySem.W.emptyDict).push (PySem.W.instObj C s.heap.objs.size) } := by
  have e1 : (s.heap.push PySem.W.emptyDict).get? s.heap.objs.size = some PySem.W.emptyDict := Heap.get?_push_size s.heap rfl
  have e2 : ((s.heap.push PySem.W.emptyDict).push (PySem.W.instObj C s.heap.objs.size)).get? (s.heap.objs.size + 1) = some (PySem.W.instObj C s.heap.objs.size) := by
    have := Heap.get?_push_size (s.heap.push PySem.W.emptyDict) (o := PySem.W.instObj C s.heap.objs.size) rfl
    rwa [Heap.size_push] at this
  have e3 : (s.heap.push PySem.W.emptyDict).Ns s.heap.objs.size (fun _ => none) := ⟨PySem.W.emptyDict, #[], _, e1, rfl, (fun e he => absurd he (by simp)), fun _ => rfl⟩
  have I1 := I.laid (a := s.heap.objs.size) (o := .own (s.heap.objs.size + 1)) (h' := s.heap.push PySem.W.emptyDict) (t' := s.toks) (fun b u q => Heap.get?_push_of_some _ q) (Nat.le_refl _) ⟨_, e1⟩
  refine I1.laid (a := s.heap.objs.size + 1) (o := .ins C s.heap.objs.size []) (t' := s.toks) (fun b u q => Heap.get?_push_of_some _ q) (Nat.le_of_eq (Heap.size_push _ _)) ?_
  have ne : s.heap.objs.size ≠ s.heap.objs.size + 1 := Nat.ne_of_lt (Nat.lt_succ_self _)
  refine ⟨by rw [upd_ne ne, upd_same], Nat.zero_le _, ne, e2, fun _ => none, (Heap.Ns1.of_empty e3).at fun o q => Heap.get?_push_of_some _ q, fun _ => True.intro, fun y hy => absurd rfl hy⟩

/-- e.f where nothing but the object is asked: through attributeBase (super) and the last hold -/
theorem attr_of {prog : Program} {w : World} {env : Env} {e : Expr} {f : Str} {pos : Pos} {s : Shared} {Q : Value → Shared → Prop} (hb : attributeBase e f env (eval e env) = eval e env)
    (h : wpAny (model prog w) A (eval e env) (fun o s₁ => wpAny (model prog w) A (getAttr o f true) Q E s₁) E s) : wpAny (model prog w) A (eval (.Attribute e f pos) env) Q E s :=
  Attribute_any_ h (by rw [arm_eval_Attribute, hb])
end

/-! ### readings and rules -/
/-- e.f, an attribute of the instance -/
def tFld (K : PySem.W.Frag) (ta : TE) (f : Str) : TE := fun σ H Q => ta σ H fun x H1 => ∃ a C dx fs v, x = .ref a ∧ H1 a = some (.ins C dx fs) ∧ Cls K C ∧ NoAttr K C f ∧ fs.lookup f = some v ∧ Q v H1
/-- e.f, a constant of the class -/
def tCon (K : PySem.W.Frag) (ta : TE) (f : Str) : TE := fun σ H Q => ta σ H fun x H1 => ∃ a C dx fs v u, x = .ref a ∧ H1 a = some (.ins C dx fs) ∧ Cls K C ∧ Con K C f v u ∧ fs.lookup f = none ∧ Q v H1
/-- e.f = value -/
def sFld (K : PySem.W.Frag) (ta tv : TE) (f : Str) : TS := fun D σ H => tv σ H fun y H1 => ta σ H1 fun x H2 => ∃ a C dx fs, x = .ref a ∧ H2 a = some (.ins C dx fs) ∧ Cls K C ∧ NoAttr K C f ∧ fs.length < 1000 ∧
  D.nx σ (upd H2 a (.ins C dx (putF f y fs)))
/-- an augmented operator on two values -/
def InOp (X : Cx) (op : Operator) (rd : V → V → Hp → VK → Prop) : Prop :=
  ∀ (pins : List (Addr × Obj)) (s : Shared) (σ : St) (H : Hp) (x y : V) (u v : Value) (Q : VK), Inv X pins σ H s → RelV x u → RelV y v → rd x y H Q → wpAny (model X.prog X.w) X.A (inplaceOp op u v) (EP X pins σ Q) X.xe s
/-- e.f op= value -/
def sFldAug (K : PySem.W.Frag) (ta tv : TE) (rd : V → V → Hp → VK → Prop) (f : Str) : TS := fun D σ H => ta σ H fun x H1 => ∃ a C dx fs v, x = .ref a ∧ H1 a = some (.ins C dx fs) ∧ Cls K C ∧ NoAttr K C f ∧ fs.lookup f = some v ∧
  tv σ H1 fun y H2 => rd v y H2 fun z H3 => ∃ dx' fs', H3 a = some (.ins C dx' fs') ∧ fs'.length < 1000 ∧ D.nx σ (upd H3 a (.ins C dx' (putF f z fs')))

section
variable {X : Cx} {o e value : Expr} {f : Str} {pos pos' tpos : Pos} {ta tv : TE}
def rAdd : V → V → Hp → VK → Prop := fun x y H Q => ∃ i j, x = .int i ∧ y = .int j ∧ Q (.int (i + j)) H
def rSub : V → V → Hp → VK → Prop := fun x y H Q => ∃ i j, x = .int i ∧ y = .int j ∧ Q (.int (i - j)) H
end

/-! ### isinstance -/
section
variable {X : Cx} {pins : List (Addr × Obj)} {σ : St} {H : Hp} {s : Shared} {A : Around} {E : Value → Shared → Prop} {Q : Value → Shared → Prop} {c : Value} {b : Bool}
/-- the type of a value, as the fragment's deciders take it; for an instance its class -/
inductive TyOf (K : PySem.W.Frag) (H : Hp) : V → Value → Prop where
  | non : TyOf K H .non (.type "NoneType")
  | bl (x : Bool) : TyOf K H (.bl x) (.type "bool")
  | int (i : Int) : TyOf K H (.int i) (.type "int")
  | str (x : Str) : TyOf K H (.str x) (.type "str")
  | flt (x : UInt64) : TyOf K H (.flt x) (.type "float")
  | lst {a : Addr} {xs : List V} (e : H a = some (.lst xs)) : TyOf K H (.ref a) (.type "list")
  | frz {a : Addr} {o : Obj} {xs : List V} (e : H a = some (.frz o (.lst xs))) : TyOf K H (.ref a) (.type "list")
  | tup {a : Addr} {xs : List V} (e : H a = some (.tup xs)) : TyOf K H (.ref a) (.type "tuple")
  | dK {a : Addr} {kvs : List (Key × V)} (e : H a = some (.dK kvs)) : TyOf K H (.ref a) (.type "dict")
  | dT {a : Addr} {kvs : List (List Key × V)} (e : H a = some (.dT kvs)) : TyOf K H (.ref a) (.type "dict")
  | ins {a C dx : Addr} {fs : List (Str × V)} (e : H a = some (.ins C dx fs)) (cl : Cls K C) (ha : PySem.W.findIn K (.ref C) "__class__" = some (some (.builtin "object.__class__")))
      (hn : PySem.W.specialIn K (.builtin "object.__class__") "__get__" = some (some (.builtin "getset_descriptor.__get__"))) (htk : PySem.W.takesIn K (.builtin "object.__class__") = some true)
      (hm : PySem.W.mroIn K C (.type "object") = some true) : TyOf K H (.ref a) (.ref C)
/-- isinstance(x, c) for one class c, a built-in or an own one: kitOne's answer -/
theorem isinst_ok {x : V} {u t : Value} (I : Inv X pins σ H s) (rx : RelV x u) (ty : TyOf X.K H x t) (e : PySem.W.kitOne X.K t c = some b) (h : ∀ tk, Q (.bool b) { s with toks := tk }) :
    wpAny (model X.prog X.w) A (call (.builtin "isinstance") [u, c]) Q E s := by
  cases ty with
  | non => cases (show u = Value.none from rx); exact PySem.W.kia_one PySem.W.kitx_none I.kIn True.intro e (fun z => nomatch z) h
  | bl y => cases (show u = Value.bool y from rx); exact PySem.W.kia_one PySem.W.kitx_bool I.kIn True.intro e (fun z => nomatch z) h
  | int i => obtain ⟨t, q⟩ := (show ∃ t, u = Value.int i t from rx); cases q; exact PySem.W.kia_one PySem.W.kitx_int I.kIn True.intro e (fun z => nomatch z) h
  | str y => obtain ⟨t, q⟩ := (show ∃ t, u = Value.str y t from rx); cases q; exact PySem.W.kia_one PySem.W.kitx_str I.kIn True.intro e (fun z => nomatch z) h
  | flt y => obtain ⟨t, q⟩ := (show ∃ t, u = Value.float y t from rx); cases q; exact PySem.W.kia_one PySem.W.kitx_float I.kIn True.intro e (fun z => nomatch z) h
  | @lst a xs ea =>
    cases (show u = Value.ref a from rx)
    obtain ⟨_, _, n, _, h1⟩ := (show ObjOk X.prog X.w H s.heap a (.lst xs) from I.hok a _ ea)
    exact PySem.W.kia_one PySem.W.kitx_list I.kIn ⟨_, h1, rfl⟩ e (fun z => nomatch z) h
  | @frz a ob xs ea =>
    cases (show u = Value.ref a from rx)
    obtain ⟨_, _, _, n, _, h1⟩ := (show ObjOk X.prog X.w H s.heap a (.frz ob (.lst xs)) from I.hok a _ ea)
    exact PySem.W.kia_one PySem.W.kitx_list I.kIn ⟨_, h1, rfl⟩ e (fun z => nomatch z) h
  | @tup a xs ea =>
    cases (show u = Value.ref a from rx)
    obtain ⟨_, _, _, p⟩ := (show ObjOk X.prog X.w H s.heap a (.tup xs) from I.hok a _ ea)
    obtain ⟨o, h1, h2, _⟩ := p
    exact PySem.W.kia_one PySem.W.kitx_tuple I.kIn ⟨o, h1, h2⟩ e (fun z => nomatch z) h
  | @dK a kvs ea =>
    cases (show u = Value.ref a from rx)
    obtain ⟨_, _, vs, _, p⟩ := (show ObjOk X.prog X.w H s.heap a (.dK kvs) from I.hok a _ ea)
    obtain ⟨o, es, ep, h1, h2, _⟩ := p
    exact PySem.W.kia_one PySem.W.kitx_dict I.kIn ⟨o, h1, h2.1⟩ e (fun z => nomatch z) h
  | @dT a kvs ea =>
    cases (show u = Value.ref a from rx)
    obtain ⟨_, _, xs, _, o, es, ep, h1, h2, _⟩ := (show ObjOk X.prog X.w H s.heap a (.dT kvs) from I.hok a _ ea)
    exact PySem.W.kia_one PySem.W.kitx_dict I.kIn ⟨o, h1, h2.1⟩ e (fun z => nomatch z) h
  | @ins a C dx fs ea cl ha hn htk hm =>
    cases (show u = Value.ref a from rx)
    obtain ⟨mA, O, _⟩ := ins_get I.hok ea
    obtain ⟨od, J, _⟩ := O.look
    exact PySem.W.kia_one (PySem.W.kitx_own (cl.get _) cl.hd ha hn htk hm) I.kIn J e (fun z => nomatch z) h
end
end L2

namespace L2
open PySem PySem.Spec PyProof.Rows

/-! ### room -/
structure Room (k : Nat) (A : Around) : Prop where
  hd : A.handled = none
  dp : A.depth + 3 * k + 5 < recursionLimit
  un : A.units + 16 * k + 200 < cLine
theorem Room.mono {j k : Nat} {A : Around} (r : Room k A) (h : j ≤ k) : Room j A := ⟨r.hd, by have := r.dp; omega, by have := r.un; omega⟩
theorem Room.deeper {k : Nat} {A : Around} (r : Room (k + 1) A) (env : Env) : Room k (A.deeper env) :=
  ⟨r.hd, by have := r.dp; show A.depth + 1 + 3 * k + 5 < _; omega, by have := r.un; show A.units + 3 + 16 * k + 200 < _; omega⟩
theorem Room.in1 {k : Nat} {A : Around} (r : Room (k + 1) A) : Room k A.in1 :=
  ⟨r.hd, by have := r.dp; show A.depth + 3 * k + 5 < _; omega, by have := r.un; show A.units + 1 + 16 * k + 200 < _; omega⟩
theorem make_depth {A : Around} {C : Addr} {us : List Value} {kw : List (Str × Value)} : (A.under (.builtin "type.__call__" ⟨.ref C :: us, kw⟩)).depth = A.depth + 1 := by
  first | rfl | simp [Around.under, Code.weight, Code.isCreation, Code.isGuard, Code.isCaller, Code.frames, Code.isFrame, guardIds]
theorem make_units {A : Around} {C : Addr} {us : List Value} {kw : List (Str × Value)} : (A.under (.builtin "type.__call__" ⟨.ref C :: us, kw⟩)).units = A.units + 1 := by
  first | rfl | simp [Around.under, Code.cUnits, Code.frames, Code.isFrame]
theorem Room.make {k : Nat} {A : Around} (r : Room (k + 1) A) (C : Addr) (us : List Value) (kw : List (Str × Value)) : Room k (A.under (.builtin "type.__call__" ⟨.ref C :: us, kw⟩)) :=
  ⟨r.hd, by have := r.dp; rw [make_depth]; omega, by have := r.un; rw [make_units]; omega⟩
theorem Room.depth {k : Nat} {A : Around} (r : Room k A) : A.depth < recursionLimit := by have := r.dp; omega
theorem Room.units {k : Nat} {A : Around} (r : Room k A) : A.units + 64 < cLine := by have := r.un; omega
/-! ### argument lists and displays -/
def tNil : TA := fun _ H Q => Q [] H
def tCons (ta : TE) (tr : TA) : TA := fun σ H Q => ta σ H fun x H1 => tr σ H1 fun xs H2 => Q (x :: xs) H2
section
variable {X : Cx} {e : Expr} {es : List Expr} {te : TE} {t : TA} {pos : Pos}
theorem pa_nil : PA X [] tNil := fun _ _ _ _ H Q I h => Calls.spliced_nil ⟨[], H, I, .nil, h⟩
theorem pa_cons (ha : PE X e te) (hr : PA X es t) (hs : starEach (e :: es) X.env = (false, eval e X.env) :: starEach es X.env := by rfl) : PA X (e :: es) (tCons te t) := by
  intro pos pins s σ H Q I h
  rw [hs]
  show wpAny _ _ (spliced ((false, eval e X.env) :: backTo pos (starEach es X.env))) _ _ s
  refine Calls.spliced_cons (thn (ha pins s σ H _ I h) fun u s1 ⟨x, H1, I1, r1, q1⟩ => ?_)
  exact thn (hr pos pins s1 σ H1 _ I1 q1) fun us s2 ⟨xs, H2, I2, r2, q2⟩ => ⟨x :: xs, H2, I2, .cons r1 r2, q2⟩

/-- a tuple, a list of written items -/
def tTup (t : TA) : TE := fun σ H Q => t σ H fun xs H1 => xs.length ≤ sizeLine ∧ ∀ p, H1 p = none → Q (.ref p) (upd H1 p (.tup xs))
def tLst (t : TA) : TE := fun σ H Q => t σ H fun xs H1 => xs.length ≤ sizeLine ∧ ∀ p, H1 p = none → Q (.ref p) (upd H1 p (.lst xs))
theorem pe_tup {x1} (h : PA X es t) : PE X (.Tuple es x1 pos) (tTup t) := by
  intro pins s σ H Q I hq
  refine wpAny_Tuple_spliced (thn (h pos pins s σ H _ I hq) fun us s1 ⟨xs, H1, I1, r, z, q⟩ => ⟨by rw [← r.length]; exact z, ?_⟩)
  have hf : H1 s1.heap.objs.size = none := I1.hok.fresh (Nat.le_refl _)
  refine ⟨.ref s1.heap.objs.size, upd H1 s1.heap.objs.size (.tup xs), I1.laid (t' := s1.toks) (fun b u e => Heap.get?_push_of_some _ e) (Nat.le_refl _) ?_, rfl, q _ hf⟩
  exact ⟨z, us, r, ⟨_, Heap.get?_push_size _ rfl, rfl, _, rfl⟩⟩
theorem pe_lst (h : PA X es t) : PE X (.List es pos) (tLst t) := by
  intro pins s σ H Q I hq
  refine wpAny_List_spliced (thn (h pos pins s σ H _ I hq) fun us s1 ⟨xs, H1, I1, r, z, q⟩ => ⟨by rw [← r.length]; exact z, ?_⟩)
  have hf : H1 s1.heap.objs.size = none := I1.hok.fresh (Nat.le_refl _)
  refine ⟨.ref s1.heap.objs.size, upd H1 s1.heap.objs.size (.lst xs), I1.laid (t' := s1.toks) (fun b u e => Heap.get?_push_of_some _ e) (Nat.le_refl _) ?_, rfl, q _ hf⟩
  exact ⟨z, us, 0, r, Heap.get?_push_size _ rfl⟩
end

/-! ### what a def promises -/
/-- a def's promise: the bound arguments in the parameters' order, the heap, the wanted end, the wanted exception -/
abbrev Sp := List V → Hp → VK → XK → Prop
/-- how an exception lies behind a call (file 08 gives it): the callers' frames, abstract heap and state ahead of the call, the wish, the exception, the state -/
abbrev CXT := List Env → Hp → Shared → XK → Value → Shared → Prop

/-- the state at a call -/
structure Env0 (P : Program) (w : World) (K : PySem.W.Frag) (mg : Str → Option Value) (base : Heap) (A : Around) (outer : List Env) (s : Shared) (H : Hp) : Prop where
  frames : A.frames = some outer
  mod : Mod K mg base
  bs : ∀ b o, base.get? b = some o → s.heap.get? b = some o ∧ H b = none
  bsz : base.objs.size ≤ s.heap.objs.size
  funs : s.heap.FunFrames base outer
  frf : ∀ b ∈ frs outer, H b = none
  hok : HOk P w H s.heap
  bare : AllBare s.gens
/-- a call's end -/
def CE (outer : List Env) (P : Program) (w : World) (H : Hp) (s : Shared) (Q : VK) (u : Value) (s' : Shared) : Prop :=
  ∃ v H', s'.os = s.os ∧ AllBare s'.gens ∧ Un (frs outer) [] H H' s.heap s'.heap ∧ HOk P w H' s'.heap ∧ RelV v u ∧ Q v H'
def CR (CX : CXT) (outer : List Env) (P : Program) (w : World) (H : Hp) (s : Shared) (Q : VK) (E : XK) (r : Result) (s' : Shared) : Prop :=
  match r with
  | .ok (.ret u) => CE outer P w H s Q u s'
  | .ok _ => False
  | .error e => CX outer H s E e s'
structure FnOk (P : Program) (w : World) (K : PySem.W.Frag) (mg : Str → Option Value) (base : Heap) (CX : CXT) (k : Nat) (f : Addr) (fd : FuncData) (ps : List Str) (sp : Sp) : Prop where
  len : ∀ vs H Q E, sp vs H Q E → vs.length = ps.length
  run : ∀ (A : Around) (outer : List Env) (s : Shared) (H : Hp) (args : Args) (us : List Value) (vs : List V) (Q : VK) (E : XK), Room k A → Env0 P w K mg base A outer s H → BindsTo s fd args (ps.zip us) → Vals vs us → sp vs H Q E →
    codeAny (model P w) A (.call (.ref f) args) (CR CX outer P w H s Q E) s
theorem FnOk.mono {P : Program} {w : World} {K : PySem.W.Frag} {mg : Str → Option Value} {base : Heap} {CX : CXT} {j k : Nat} {f : Addr} {fd : FuncData} {ps : List Str} {sp : Sp} (F : FnOk P w K mg base CX j f fd ps sp) (h : j ≤ k) :
    FnOk P w K mg base CX k f fd ps sp := ⟨F.len, fun A outer s H args us vs Q E hr => F.run A outer s H args us vs Q E (hr.mono h)⟩
/-- a weaker promise -/
theorem FnOk.imp {P : Program} {w : World} {K : PySem.W.Frag} {mg : Str → Option Value} {base : Heap} {CX : CXT} {k : Nat} {f : Addr} {fd : FuncData} {ps : List Str} {sp sp' : Sp} (F : FnOk P w K mg base CX k f fd ps sp)
    (h : ∀ vs H Q E, sp' vs H Q E → sp vs H Q E) : FnOk P w K mg base CX k f fd ps sp' :=
  ⟨fun vs H Q E q => F.len vs H Q E (h _ _ _ _ q), fun A outer s H args us vs Q E hr he hb hv hs => F.run A outer s H args us vs Q E hr he hb hv (h _ _ _ _ hs)⟩

theorem Env0.make {P : Program} {w : World} {K : PySem.W.Frag} {mg : Str → Option Value} {base : Heap} {A : Around} {outer : List Env} {s : Shared} {H : Hp} (e : Env0 P w K mg base A outer s H) (C : Addr) (us : List Value) (kw : List (Str × Value)) :
    Env0 P w K mg base (A.under (.builtin "type.__call__" ⟨.ref C :: us, kw⟩)) outer s H := ⟨by first | exact e.frames | (simpa [Around.under, Code.envs, Code.isFrame, pushEnvs] using e.frames), e.mod, e.bs, e.bsz, e.funs, e.frf, e.hok, e.bare⟩
theorem Env0.in1 {P : Program} {w : World} {K : PySem.W.Frag} {mg : Str → Option Value} {base : Heap} {A : Around} {outer : List Env} {s : Shared} {H : Hp} (e : Env0 P w K mg base A outer s H) :
    Env0 P w K mg base A.in1 outer s H := ⟨e.frames, e.mod, e.bs, e.bsz, e.funs, e.frf, e.hok, e.bare⟩

section
variable {X : Cx} {pins : List (Addr × Obj)} {σ : St} {H : Hp} {s s' : Shared}
/-- from a body: what a callee wants -/
theorem Inv.env0 (I : Inv X pins σ H s) : Env0 X.prog X.w X.K X.mg X.base X.A X.stack s H :=
  ⟨I.ok.frames, I.ok.mod, I.bs, Nat.le_trans I.ok.bsz I.sz, I.stack, I.stkFree, I.hok, I.bare⟩
/-- behind a call -/
theorem Inv.after {Q : VK} {u : Value} (I : Inv X pins σ H s) (h : CE X.stack X.prog X.w H s Q u s') : EP X pins σ Q u s' := by
  obtain ⟨v, H', os, bare, un, hok, r, q⟩ := h
  obtain ⟨hh, g, d, t, os'⟩ := s'
  obtain rfl : os' = s.os := os
  exact ⟨v, H', I.call (h' := hh) (g' := g) (d' := d) (t' := t) (ch := []) un hok bare (fun b z => absurd z (by simp)), r, q⟩
end

/-! ### calls -/
/-- f(..): the written arguments, then the defaults dvs; E: what is wanted of an exception -/
def tCall (sp : Sp) (dvs : List V) (E : XK) (t : TA) : TE := fun σ H Q => t σ H fun vs H1 => sp (vs ++ dvs) H1 Q E
/-- o.m(..) of an instance of the class at C -/
def tMeth (C : Addr) (m : Str) (sp : Sp) (dvs : List V) (E : XK) (ta : TE) (t : TA) : TE := fun σ H Q => ta σ H fun x H1 => ∃ a dx fs, x = .ref a ∧ H1 a = some (.ins C dx fs) ∧ fs.lookup m = none ∧
  t σ H1 fun vs H2 => sp (x :: (vs ++ dvs)) H2 Q E
/-- C(..): a new instance and its dict, then __init__ -/
def tMake (C : Addr) (sp : Sp) (dvs : List V) (E : XK) (t : TA) : TE := fun σ H Q => t σ H fun vs H1 => ∀ x dx, H1 x = none → H1 dx = none → dx ≠ x →
  sp (.ref x :: (vs ++ dvs)) (upd (upd H1 dx (.own x)) x (.ins C dx [])) (fun v H2 => v = .non ∧ Q (.ref x) H2) E

/-- how the parameters are bound: us the positional arguments, kw the keywords' values by name, ds the defaults that fill up -/
def Binds (K : PySem.W.Frag) (fd : FuncData) (ps : List Str) (ds : List Value) : Prop :=
  ∀ (s : Shared) (us : List Value), K.In s.heap → (us ++ ds).length = ps.length → BindsTo s fd ⟨us, []⟩ (ps.zip (us ++ ds))
/-- every parameter is given -/
theorem Binds.all {K : PySem.W.Frag} {fd : FuncData} {ps : List Str} (h : ∀ us : List Value, us.length = ps.length → bindArgs fd ⟨us, []⟩ = pure (ps.zip us)) : Binds K fd ps [] := fun s us _ hl => by
  rw [List.append_nil] at hl ⊢
  exact .of_eq (h us hl)

/-- an exception of a callee reaches what this body wants of exceptions -/
def Passes (CX : CXT) (X : Cx) (E : XK) : Prop := ∀ (pins : List (Addr × Obj)) (σ : St) (H : Hp) (s : Shared) (e : Value) (s' : Shared), Inv X pins σ H s → CX X.stack H s E e s' → X.xe e s'

section
variable {X : Cx} {CX : CXT} {k : Nat} {f C : Addr} {fd : FuncData} {ps : List Str} {sp : Sp} {dvs : List V} {ds : List Value} {E : XK} {x m : Str} {p pos apos : Pos} {e o : Expr} {es : List Expr} {ta : TE} {t : TA}

/-- the callee runs -/
theorem run_fn {pins : List (Addr × Obj)} {σ : St} {H : Hp} {s : Shared} {Q : VK} {us : List Value} {vs : List V} (F : FnOk X.prog X.w X.K X.mg X.base CX k f fd ps sp) (hr : Room k X.A) (hb : Binds X.K fd ps ds) (hd : Vals dvs ds) (hx : Passes CX X E)
    (I : Inv X pins σ H s) (r : Vals vs us) (h : sp (vs ++ dvs) H Q E) : wpAny (model X.prog X.w) X.A (call (.ref f) us) (EP X pins σ Q) X.xe s := by
  have r2 : Vals (vs ++ dvs) (us ++ ds) := r.append hd
  have hl : (us ++ ds).length = ps.length := by rw [← r2.length]; exact F.len _ _ _ _ h
  refine wpAny_call (codeAny_mono (F.run X.A X.stack s H ⟨us, []⟩ (us ++ ds) (vs ++ dvs) Q E hr I.env0 (hb s us I.kIn hl) r2 h) fun r s' hq => ?_)
  cases r with
  | error e => exact hx pins σ H s e s' I hq
  | ok fl =>
    cases fl with
    | ret u => exact I.after hq
    | next => exact False.elim hq
    | brk => exact False.elim hq
    | cont => exact False.elim hq

theorem pe_call (F : FnOk X.prog X.w X.K X.mg X.base CX k f fd ps sp) (hr : Room k X.A) (hg : Gl X x) (hm : X.mg x = some (.ref f)) (hk : PySem.W.keepIn X.K (.ref f) = true) (hb : Binds X.K fd ps ds) (hd : Vals dvs ds) (hx : Passes CX X E)
    (ha : PA X (e :: es) t) (hdb : (x == ("__debug__" : Str)) = false := by decide) (he : starEach (e :: es) X.env = (false, eval e X.env) :: starEach es X.env := by rfl) (hpl : (backTo pos (starEach es X.env)).any (·.1) = false := by rfl) :
    PE X (.Call (.Name x p) (e :: es) [] pos) (tCall sp dvs E t) := by
  intro pins s σ H Q I h
  refine wpAny_Call_Name_kw (ld_glob I hg hm ?_ hdb)
  refine PySem.W.callWith_K (h₀ := X.base) I.ok.mod.kin hk (thn (ha pos pins s σ H _ I h) fun us s1 ⟨vs, H1, I1, r, q⟩ => ⟨I1.kIn, ?_⟩) he hpl
  exact run_fn F hr hb hd hx I1 r q
/-- what a class must have to be made -/
structure Mk (K : PySem.W.Frag) (C f : Addr) : Prop where
  makes : PySem.W.makesIn K C = true
  init : PySem.W.findIn K (.ref C) "__init__" = some (some (.ref f))
  fn : PySem.W.isFn K (.ref f) = true
  kp : PySem.W.keepIn K (.ref C) = true

end

/-! ### keywords -/
/-- the values of the keywords, from the left -/
def PK (X : Cx) (kws : List Keyword) (t : TA) : Prop :=
  ∀ (pos : Pos) (pins : List (Addr × Obj)) (s : Shared) (σ : St) (H : Hp) (Q : List V → Hp → Prop), Inv X pins σ H s → t σ H Q → wpAny (model X.prog X.w) X.A (evalAll ((backToKw pos (keywordEach kws X.env)).map (·.2))) (AP X pins σ Q) X.xe s
section
variable {X : Cx} {CX : CXT} {k : Nat} {f C : Addr} {fd : FuncData} {ps ks : List Str} {sp : Sp} {E : XK} {x m : Str} {p pos apos kpos : Pos} {e o : Expr} {es : List Expr} {kws : List Keyword} {te ta : TE} {t tk : TA} {nm : Option Str}
/-- how a call with keywords binds: g puts the positional values us and the keywords' values ws (names ks) in the parameters' order, defaults among them -/
structure KBinds (K : PySem.W.Frag) (fd : FuncData) (ps ks : List Str) (g : List Value → List Value → List Value) (gV : List V → List V → List V) : Prop where
  to : ∀ (s : Shared) (us ws : List Value), K.In s.heap → (g us ws).length = ps.length → BindsTo s fd ⟨us, ks.zip ws⟩ (ps.zip (g us ws))
  rel : ∀ {vs : List V} {us : List Value} {zs : List V} {ws : List Value}, Vals vs us → Vals zs ws → Vals (gV vs zs) (g us ws)
def tCallK (sp : Sp) (gV : List V → List V → List V) (E : XK) (t tk : TA) : TE := fun σ H Q => t σ H fun vs H1 => tk σ H1 fun zs H2 => sp (gV vs zs) H2 Q E
variable {g : List Value → List Value → List Value} {gV : List V → List V → List V}
end

/-! ### a def's body keeps its promise -/
/-- names: the parameters first -/
structure FnScope (N P : List Str) (sc : Scope) : Prop where
  kind : sc.kind = .function
  co : sc.isCoroutine = false
  gen : sc.isGenerator = false
  nd : N.Nodup
  pre : N.take P.length = P
  par : ∀ x ∈ P, sc.names.lookup x = some .local ∨ sc.names.lookup x = some .cell
  nofree : ∀ y ∈ sc.names, y.2 ≠ .free

theorem bindL_out {kindOf : Str → Option NameKind} {x : Str} : ∀ {binds : List (Str × Value)} {m : Str → Option Value}, (∀ v, (x, v) ∉ binds) → bindL kindOf binds m x = m x
  | [], _, _ => rfl
  | (n, v) :: r, m, h => by
    unfold bindL
    rw [bindL_out fun w hw => h w (List.mem_cons_of_mem _ hw)]
    split
    · have : x ≠ n := by rintro rfl; exact h v List.mem_cons_self
      simp [this]
    · rfl
theorem bindC_out {kindOf : Str → Option NameKind} {x : Str} : ∀ {binds : List (Str × Value)} {m : Str → Option Value}, (∀ v, (x, v) ∉ binds) → bindC kindOf binds m x = m x
  | [], _, _ => rfl
  | (n, v) :: r, m, h => by
    unfold bindC
    rw [bindC_out fun w hw => h w (List.mem_cons_of_mem _ hw)]
    split
    · rfl
    · have : x ≠ n := by rintro rfl; exact h v List.mem_cons_self
      simp [this]
theorem bindL_get {kindOf : Str → Option NameKind} {x : Str} {v : Value} : ∀ {P : List Str} {vs : List Value} {i : Nat} {m : Str → Option Value}, P.Nodup → P[i]? = some x → vs[i]? = some v → kindOf x = some .local →
    bindL kindOf (P.zip vs) m x = some v
  | [], _, _, _, _, h, _, _ => by simp at h
  | _ :: _, [], _, _, _, _, h, _ => by simp at h
  | p :: P, w :: vs, 0, m, nd, h1, h2, hk => by
    simp at h1 h2; subst h1; subst h2
    show bindL kindOf ((p, w) :: P.zip vs) m p = _
    unfold bindL
    rw [bindL_out fun v hv => (List.nodup_cons.mp nd).1 (List.of_mem_zip hv).1, if_pos hk]
    simp
  | p :: P, w :: vs, i + 1, m, nd, h1, h2, hk => by
    show bindL kindOf ((p, w) :: P.zip vs) m x = _
    unfold bindL
    exact bindL_get (i := i) (List.nodup_cons.mp nd).2 (by simpa using h1) (by simpa using h2) hk
theorem bindC_get {kindOf : Str → Option NameKind} {x : Str} {v : Value} : ∀ {P : List Str} {vs : List Value} {i : Nat} {m : Str → Option Value}, P.Nodup → P[i]? = some x → vs[i]? = some v → kindOf x ≠ some .local →
    bindC kindOf (P.zip vs) m x = some v
  | [], _, _, _, _, h, _, _ => by simp at h
  | _ :: _, [], _, _, _, _, h, _ => by simp at h
  | p :: P, w :: vs, 0, m, nd, h1, h2, hk => by
    simp at h1 h2; subst h1; subst h2
    show bindC kindOf ((p, w) :: P.zip vs) m p = _
    unfold bindC
    rw [bindC_out fun v hv => (List.nodup_cons.mp nd).1 (List.of_mem_zip hv).1, if_neg hk]
    simp
  | p :: P, w :: vs, i + 1, m, nd, h1, h2, hk => by
    show bindC kindOf ((p, w) :: P.zip vs) m x = _
    unfold bindC
    exact bindC_get (i := i) (List.nodup_cons.mp nd).2 (by simpa using h1) (by simpa using h2) hk

/-- the names' values at the entry -/
def start (N : List Str) (vs : List V) : St := vs.map some ++ List.replicate (N.length - vs.length) none

/-- the context of a def's body, at its entry; an exception leaves the frame, then lies as CX says -/
def cxOf (CX : CXT) (P : Program) (w : World) (K : PySem.W.Frag) (mg : Str → Option Value) (base : Heap) (N : List Str) (qual : Str) (scope : Scope) (f : Addr) (cd : Value) (A : Around) (outer : List Env) (s : Shared) (H : Hp) (E : XK) : Cx where
  prog := P
  w := w
  K := K
  mg := mg
  base := base
  A := A.deeper (envOfC qual scope s.heap.objs.size f cd)
  N := N
  s₀ := s
  H₀ := H
  env := envOfC qual scope s.heap.objs.size f cd
  outer := outer
  stack := envOfC qual scope s.heap.objs.size f cd :: outer
  ex := []
  calm := true
  fn := fun _ => true
  pn := []
  xe := fun e s' => wpAny (model P w) (A.deeper (envOfC qual scope s.heap.objs.size f cd)) (leaving (envOfC qual scope s.heap.objs.size f cd) e) (fun _ s'' => CX outer H s E e s'') (fun e' s'' => CX outer H s E e' s'') s'

theorem cell_has {sc : Scope} {n : Nat} {x : Str} (h : sc.names.lookup x = some .cell) : ∃ c, (cellsFrom n sc.names []).lookup x = some c := by
  have q := PySem.W.cellsFrom_some sc.names n [] (.inl h)
  exact Option.isSome_iff_exists.mp q

theorem inv_start {CX : CXT} {P : Program} {w : World} {K : PySem.W.Frag} {mg : Str → Option Value} {base : Heap} {N ps : List Str} {qual : Str} {scope : Scope} {f : Addr} {cd : Value} {A : Around} {outer : List Env} {s s1 : Shared} {H : Hp} {E : XK} {us : List Value} {vs : List V}
    (S : FnScope N ps scope) (hd : A.handled = none) (e0 : Env0 P w K mg base A outer s H) (hl : vs.length = ps.length) (r : Vals vs us)
    (x : InCallC s s.heap.objs.size (bindL (envOfC qual scope s.heap.objs.size f cd).kindOf (ps.zip us) fun _ => none) (cellsFrom (s.heap.objs.size + 1) scope.names []) (bindC (envOfC qual scope s.heap.objs.size f cd).kindOf (ps.zip us) fun _ => none) s1) :
    Inv (cxOf CX P w K mg base N qual scope f cd A outer s H E) [] (start N vs) H s1 := by
  have hpl : ps.length ≤ N.length := by have := congrArg List.length S.pre; rw [List.length_take] at this; omega
  obtain ⟨h1, tk, rfl, hk⟩ := x.done
  have noA : ∀ b : Addr, b ∉ (cxOf CX P w K mg base N qual scope f cd A outer s H E).ex := fun b z => absurd (show b ∈ ([] : List Addr) from z) (by simp)
  refine ⟨⟨e0.mod, S.kind, rfl, rfl, Nat.le_refl _, fun y z c h1 h2 => ?_, fun y hy => ?_, fun y c _ h => ?_, fun _ => hd, Around.frames_deeper e0.frames, .inr ⟨rfl, rfl⟩, fun b z => absurd z (noA b), e0.bs, e0.bsz, fun b _ _ => noA b, fun b z => absurd z (noA b), e0.funs, e0.frf⟩,
    rfl, e0.bare, Un.kept hk, ⟨_, x.toInCall.ns, fun i y v h1 h2 h3 => ?_⟩, fun y c h => ⟨_, x.cell y c h⟩, e0.hok.fresh (Nat.le_refl _), fun y c h => ?_, fun p hp => absurd (show p ∈ ([] : List (Addr × Obj)) from hp) (by simp), e0.hok.kept hk, ?_⟩
  · exact name_of_addr x.apart (PySem.mem_of_lookup h1) (PySem.mem_of_lookup h2)
  · have hy : scope.names.lookup y = some .cell ∨ scope.names.lookup y = some .free := hy
    rcases hy with hy | hy
    · exact cell_has hy
    · exact absurd rfl (S.nofree _ (PySem.mem_of_lookup hy))
  · exact Nat.le_of_lt (x.above y c (PySem.mem_of_lookup h))
  · have hi : i < vs.length := by
      unfold start at h2
      by_cases hi : i < vs.length
      · exact hi
      · rw [List.getElem?_append_right (by simpa using hi)] at h2
        rw [List.getElem?_replicate] at h2
        split at h2 <;> cases h2
    have ha : vs[i]? = some v := by
      unfold start at h2
      rw [List.getElem?_append_left (by simpa using hi), List.getElem?_map] at h2
      cases e : vs[i]? with
      | none => rw [e] at h2; cases h2
      | some a => rw [e] at h2; cases h2; rfl
    obtain ⟨u, hu, rv⟩ := r.get ha
    have hp : ps[i]? = some y := by
      rw [← S.pre, List.getElem?_take_of_lt (by omega)]; exact h1
    have ndP : ps.Nodup := by rw [← S.pre]; exact S.nd.sublist (List.take_sublist _ _)
    refine ⟨u, rv, ?_⟩
    rcases S.par y (List.mem_of_getElem? hp) with k | k
    · exact .inl ⟨k, bindL_get ndP hp hu k⟩
    · obtain ⟨c, e⟩ := cell_has (n := s.heap.objs.size + 1) k
      refine .inr ⟨.inl k, c, e, ?_⟩
      have q := x.cell y c e
      rw [bindC_get ndP hp hu (by show scope.names.lookup y ≠ _; rw [k]; decide)] at q
      exact q
  · exact e0.hok.fresh (Nat.le_of_lt (x.above y c (PySem.mem_of_lookup h)))
  · unfold start
    show _ = N.length
    rw [List.length_append, List.length_map, List.length_replicate]
    omega

/-- THE RULE: a def (or a method) of the text, by its body. The body's reading t is chosen for each entry; it is run at the parameters' values -/
theorem fn_of {CX : CXT} {P : Program} {w : World} {K : PySem.W.Frag} {mg : Str → Option Value} {base : Heap} {k : Nat} {f : Addr} {name qual : Str} {params : Arguments} {body : List Stmt} {scope : Scope} {dV kV doc pm cdv ct oc : Value} {an od : Option Addr}
    {osl : Array (Option Value)} {N ps : List Str} {sp : Sp} (lk : K.lookup f = some ⟨oc, od, .func (PySem.W.fnOf name qual params body scope dV kV doc pm an cdv ct), osl⟩) (hcd : PySem.W.codeIn K cdv qual = true) (S : FnScope N ps scope)
    (len : ∀ vs H Q E, sp vs H Q E → vs.length = ps.length)
    (hbody : ∀ (A : Around) (outer : List Env) (s : Shared) (H : Hp) (vs : List V) (Q : VK) (E : XK), Room k (A.deeper (envOfC qual scope s.heap.objs.size f cdv)) → sp vs H Q E →
      ∃ t, PSs (cxOf CX P w K mg base N qual scope f cdv A outer s H E) body t ∧ t { nx := fun _ H' => Q .non H', rt := Q } (start N vs) H) :
    FnOk P w K mg base CX (k + 1) f (PySem.W.fnOf name qual params body scope dV kV doc pm an cdv ct) ps sp := by
  refine ⟨len, fun A outer s H args us vs Q E hr e0 hb r hsp => ?_⟩
  have hl := len _ _ _ _ hsp
  have KX : K.In s.heap := e0.mod.kin.keeps fun b o e => (e0.bs b o e).1
  have lim : s.heap.NoLimit := e0.mod.nolimit.keeps fun b o e => (e0.bs b o e).1
  have hkind : ∀ y ∈ ps.zip us, scope.names.lookup y.1 = some .local ∨ (scope.names.lookup y.1 = some .cell ∧ ((cellsFrom (s.heap.objs.size + 1) scope.names []).lookup y.1).isSome = true) := fun ⟨n, v⟩ hy => by
    rcases S.par n (List.of_mem_zip hy).1 with q | q
    · exact .inl q
    · exact .inr ⟨q, PySem.W.cellsFrom_some _ _ _ (.inl q)⟩
  refine codeAny_call_function hr.depth (KX _ _ lk) rfl S.co S.gen rfl (PySem.W.codeRec_of KX hcd) (hb _ _ _ _ ?_)
  refine wpAny_newFunctionEnv_cells S.kind hkind fun env he s1 x => ?_
  subst he
  refine ⟨lim.keeps x.toInCall.keep, codeAny_func ?_⟩
  obtain ⟨t, ht, hq⟩ := hbody A outer s H vs Q E (hr.deeper _) hsp
  have I : Inv (cxOf CX P w K mg base N qual scope f cdv A outer s H E) [] (start N vs) H s1 := inv_start S hr.hd e0 hl r x
  refine wpAny_mono (ht [] s1 (start N vs) H _ I hq) (fun fl s' hs => ?_) fun e s' hs => hs
  have fin : ∀ {σ' : St} {H' : Hp} {v : V} {u : Value}, Inv (cxOf CX P w K mg base N qual scope f cdv A outer s H E) [] σ' H' s' → RelV v u → Q v H' → CE outer P w H s Q u s' :=
    fun {σ' H' v u} J rv q => ⟨v, H', J.os, J.bare, J.base, J.hok, rv, q⟩
  cases fl with
  | ret u =>
    obtain ⟨v, σ', H', J, rv, q⟩ := hs
    exact fin J rv q
  | next =>
    obtain ⟨σ', H', J, q⟩ := hs
    exact fin (v := V.non) (u := Value.none) J rfl q
  | brk =>
    obtain ⟨_, _, _, q⟩ := hs
    exact False.elim q
  | cont =>
    obtain ⟨_, _, _, q⟩ := hs
    exact False.elim q
end L2

namespace L2
open PySem PySem.Spec PyProof.Rows
section
variable {X : Cx} {x : Str} {p pos : Pos} {e : Expr} {es : List Expr} {t : TA} {id T : String} {r : List V → Hp → VK → Prop}

def tCB (r : List V → Hp → VK → Prop) (t : TA) : TE := fun σ H Q => t σ H fun vs H1 => r vs H1 Q
/-- f(e, ..), f a built-in function -/
theorem pe_callB (hc : CallR X (.builtin id) r) (hg : Gl X x) (hm : X.mg x = none) (hv : bootBuiltins x = some (.builtin id)) (ha : PA X (e :: es) t) (hn : x ≠ "__name__" := by decide) (hdb : (x == ("__debug__" : Str)) = false := by decide)
    (he : starEach (e :: es) X.env = (false, eval e X.env) :: starEach es X.env := by rfl) (hpl : (backTo pos (starEach es X.env)).any (·.1) = false := by rfl) : PE X (.Call (.Name x p) (e :: es) [] pos) (tCB r t) := by
  intro pins s σ H Q I h
  refine wpAny_Call_Name_kw (ld_blt I hg hm hv ?_ hn hdb)
  exact PyProof.Rows.callWith_builtin1 (thn (ha pos pins s σ H _ I h) fun us s1 ⟨vs, H1, I1, r1, q1⟩ => hc pins s1 σ H1 vs us Q I1 r1 q1) he hpl
/-- T(e, ..), T a built-in type -/
theorem pe_callTy (hc : CallR X (.type T) r) (hg : Gl X x) (hm : X.mg x = none) (hv : bootBuiltins x = some (.type T)) (ha : PA X (e :: es) t) (hn : x ≠ "__name__" := by decide) (hdb : (x == ("__debug__" : Str)) = false := by decide)
    (he : starEach (e :: es) X.env = (false, eval e X.env) :: starEach es X.env := by rfl) (hpl : (backTo pos (starEach es X.env)).any (·.1) = false := by rfl) : PE X (.Call (.Name x p) (e :: es) [] pos) (tCB r t) := by
  intro pins s σ H Q I h
  refine wpAny_Call_Name_kw (ld_blt I hg hm hv ?_ hn hdb)
  exact PyProof.Rows.callWith_type1 (thn (ha pos pins s σ H _ I h) fun us s1 ⟨vs, H1, I1, r1, q1⟩ => hc pins s1 σ H1 vs us Q I1 r1 q1) he hpl
end
end L2

namespace HT
open PySem PyProof.Rows

/-- t < u of tuples of ints -/
def lexLt : List Int → List Int → Bool
  | [], [] => false
  | [], _ :: _ => true
  | _ :: _, [] => false
  | x :: xs, y :: ys => if x = y then lexLt xs ys else decide (x < y)
section
open PySem.SeqAt
open PySem.AutoSeq1 (wpAny_loadPart')
open PySem.MeetsSeq PySem.MeetsSeq2 PySem.MeetsSeq3

end

section
variable {prog : Program} {w : World} {A : Around} {E : Value → Shared → Prop} {s : Shared}

/-! ### t[a:b], not the whole -/
/-- a slice's bound as a place among n (d where it is left out) -/
def sIx (n d : Nat) : Option Int → Nat
  | none => d
  | some v => if v < 0 then (v + (n : Int)).toNat else min v.toNat n
end
end HT

namespace L2
open PySem PySem.Spec PyProof.Rows

/-! ### the parts of a slice -/
abbrev TO := St → Hp → (Option Int → Hp → Prop) → Prop
/-- a slice's part (left out, or an int) -/
def PO (X : Cx) (e : Option Expr) (t : TO) : Prop :=
  ∀ (pins : List (Addr × Obj)) (s : Shared) (σ : St) (H : Hp) (Q : Option Int → Hp → Prop), Inv X pins σ H s → t σ H Q →
    wpAny (model X.prog X.w) X.A (evalPart e X.env) (fun u s' => ∃ o H', Inv X pins σ H' s' ∧ IsPart u o ∧ Q o H') X.xe s
def tNoPart : TO := fun _ H Q => Q none H
def tPart (t : TE) : TO := fun σ H Q => t σ H fun x H1 => ∃ i, x = .int i ∧ Q (some i) H1

section
variable {X : Cx} {e : Expr} {te : TE} {lo hi : Option Expr} {tl th : TO} {pos p2 : Pos}

/-- what a slice of a value is, by values: the slice object stands at sl -/
def SlR (X : Cx) (r : V → Option Int → Option Int → Hp → VK → Prop) : Prop :=
  ∀ (pins : List (Addr × Obj)) (s : Shared) (σ : St) (H : Hp) (x : V) (v vl vu : Value) (lo hi : Option Int) (sl : Addr) (Q : VK), Inv X pins σ H s → RelV x v → s.heap.IsSliceOf sl vl vu .none → IsPart vl lo → IsPart vu hi → r x lo hi H Q →
    ∃ T id, typeLookup (.type T) "__getitem__" = pure (some (.builtin id)) ∧ s.TypeIs v T ∧ wpAny (model X.prog X.w) X.A (getItem v (.ref sl)) (EP X pins σ Q) X.xe s
theorem SlR.or {r r' : V → Option Int → Option Int → Hp → VK → Prop} (h : SlR X r) (h' : SlR X r') : SlR X (fun x lo hi H Q => r x lo hi H Q ∨ r' x lo hi H Q) := by
  intro pins s σ H x v vl vu lo hi sl Q I rx hs pl pu q
  rcases q with q | q
  · exact h pins s σ H x v vl vu lo hi sl Q I rx hs pl pu q
  · exact h' pins s σ H x v vl vu lo hi sl Q I rx hs pl pu q
def tSl (r : V → Option Int → Option Int → Hp → VK → Prop) (te : TE) (tl th : TO) : TE := fun σ H Q => te σ H fun x H1 => tl σ H1 fun l H2 => th σ H2 fun u H3 => r x l u H3 Q
/-- the items of xs[lo:hi] -/
def cutV (xs : List V) (lo hi : Option Int) : List V := (xs.drop (HT.sIx xs.length 0 lo)).take (HT.sIx xs.length xs.length hi - HT.sIx xs.length 0 lo)
/-- t[lo:hi], not the whole of it (the whole would be t itself) -/
def rSlT (K : PySem.W.Frag) : V → Option Int → Option Int → Hp → VK → Prop := fun x lo hi H Q => ∃ a xs, x = .ref a ∧ SqT K H a xs ∧
  ¬ (HT.sIx xs.length 0 lo = 0 ∧ HT.sIx xs.length xs.length hi = xs.length) ∧ ∀ p, H p = none → Q (.ref p) (upd H p (.tup (cutV xs lo hi)))
/-! ### t < u, t + u -/
def rLtT (K : PySem.W.Frag) : R2 := fun x y H Q => ∃ a b ns ms, x = .ref a ∧ y = .ref b ∧ SqT K H a (ns.map V.int) ∧ SqT K H b (ms.map V.int) ∧ Q (.bl (HT.lexLt ns ms)) H
/-- t + u, t not empty: u empty gives t itself -/
def rCatT (K : PySem.W.Frag) : R2 := fun x y H Q => ∃ a b xs ys, x = .ref a ∧ y = .ref b ∧ SqT K H a xs ∧ SqT K H b ys ∧ xs ≠ [] ∧ xs.length + ys.length ≤ sizeLine ∧
  (ys = [] → Q (.ref a) H) ∧ (ys ≠ [] → ∀ p, H p = none → Q (.ref p) (upd H p (.tup (xs ++ ys))))
end
end L2

namespace L2
open PySem PySem.Spec PyProof.Rows

/-! ### places -/
/-- the place that an index of any sign means -/
def ixN (n : Nat) (i : Int) : Option Nat := if 0 ≤ i then (if i < n then some i.toNat else none) else if -(n : Int) ≤ i then some (i + n).toNat else none
def atI {α : Type} (xs : List α) (i : Int) : Option α := (ixN xs.length i).bind fun j => xs[j]?
theorem ixN_seq {n : Nat} {i : Int} {j : Nat} (h : ixN n i = some j) : seqIndex? i n = some j ∧ j < n ∧ -(n : Int) ≤ i ∧ i < n := by
  unfold ixN at h
  by_cases h0 : 0 ≤ i
  · rw [if_pos h0] at h
    by_cases h1 : i < n
    · rw [if_pos h1] at h
      have e : i.toNat = j := Option.some.inj h
      exact ⟨by rw [seqIndex_of h0 h1, e], by omega, by omega, h1⟩
    · rw [if_neg h1] at h; cases h
  · rw [if_neg h0] at h
    by_cases h1 : -(n : Int) ≤ i
    · rw [if_pos h1] at h
      have e : (i + n).toNat = j := Option.some.inj h
      exact ⟨by rw [seqIndex_neg (by omega) h1, e], by omega, h1, by omega⟩
    · rw [if_neg h1] at h; cases h
theorem atI_get {α : Type} {xs : List α} {i : Int} {v : α} (h : atI xs i = some v) : ∃ j, seqIndex? i xs.length = some j ∧ xs[j]? = some v ∧ j < xs.length ∧ -(xs.length : Int) ≤ i ∧ i < xs.length := by
  unfold atI at h
  cases e : ixN xs.length i with
  | none => rw [e] at h; cases h
  | some j =>
    rw [e] at h
    obtain ⟨h1, h2, h3, h4⟩ := ixN_seq e
    exact ⟨j, h1, h, h2, h3, h4⟩
theorem atI_nat {α : Type} {xs : List α} {j : Nat} {v : α} (h : xs[j]? = some v) : atI xs (j : Int) = some v := by
  have hj : j < xs.length := (List.getElem?_eq_some_iff.mp h).1
  have e : ixN xs.length (j : Int) = some j := by
    unfold ixN
    rw [if_pos (by omega), if_pos (by omega)]; simp
  unfold atI; rw [e]; exact h
/-! ### what may be subscripted -/
/-- what stands as an index of a plain subscript -/
def PlainIx (b : Expr) : Prop := ∀ o i, subscripted b false o i = operate [o, i] (getItem o i)
/-- a subscript by values -/
def IxR (X : Cx) (r : R2) : Prop :=
  ∀ (value slice : Expr) (pins : List (Addr × Obj)) (s : Shared) (σ : St) (H : Hp) (x y : V) (v u : Value) (Q : VK), Inv X pins σ H s → RelV x v → RelV y u → r x y H Q →
    subscripted slice false v u = operate [v, u] (getItem v u) → wpAny (model X.prog X.w) X.A (subscriptTail value slice v u) (EP X pins σ Q) X.xe s
/-- a call of a builtin's method by values: the receiver, the arguments -/
def MtR (X : Cx) (id : String) (r : V → List V → Hp → VK → Prop) : Prop :=
  ∀ (pins : List (Addr × Obj)) (s : Shared) (σ : St) (H : Hp) (x : V) (xs : List V) (v : Value) (us : List Value) (Q : VK), Inv X pins σ H s → RelV x v → Vals xs us → r x xs H Q →
    wpAny (model X.prog X.w) X.A (call (.builtin id) (v :: us)) (EP X pins σ Q) X.xe s
section
variable {X : Cx} {a b : Expr} {ta tb : TE} {pos : Pos}
theorem IxR.or {r r' : R2} (h : IxR X r) (h' : IxR X r') : IxR X (fun x y H Q => r x y H Q ∨ r' x y H Q) := by
  intro value slice pins s σ H x y v u Q I rx ry q hs
  rcases q with q | q
  · exact h value slice pins s σ H x y v u Q I rx ry q hs
  · exact h' value slice pins s σ H x y v u Q I rx ry q hs
theorem MtR.or {id : String} {r r' : V → List V → Hp → VK → Prop} (h : MtR X id r) (h' : MtR X id r') : MtR X id (fun x xs H Q => r x xs H Q ∨ r' x xs H Q) := by
  intro pins s σ H x xs v us Q I rx rs q
  rcases q with q | q
  · exact h pins s σ H x xs v us Q I rx rs q
  · exact h' pins s σ H x xs v us Q I rx rs q
/-- a[b] -/
theorem pe_ix {r : R2} (hr : IxR X r) (ha : PE X a ta) (hb : PE X b tb) (hs : PlainIx b) : PE X (.Subscript a b pos) (tOp r ta tb) := by
  intro pins s σ H Q I h
  exact Subscript_ (binT ha hb I h fun v u s2 x y H2 I2 rx ry q => hr a b pins s2 σ H2 x y v u Q I2 rx ry q (hs _ _))

def rIxL (K : PySem.W.Frag) : R2 := fun x y H Q => ∃ p xs i v, x = .ref p ∧ y = .int i ∧ SqL K H p xs ∧ atI xs i = some v ∧ Q v H
def rIxT (K : PySem.W.Frag) : R2 := fun x y H Q => ∃ p xs i v, x = .ref p ∧ y = .int i ∧ SqT K H p xs ∧ atI xs i = some v ∧ Q v H
def rIxS : R2 := fun x y H Q => ∃ z i c, x = .str z ∧ y = .int i ∧ z.length ≤ sizeLine ∧ atI z.cps.toList i = some c ∧ Q (.str ⟨#[c]⟩) H
theorem ix_list : IxR X (rIxL X.K) := by
  intro value slice pins s σ H x y v u Q I rx ry h hs
  obtain ⟨p, xs, i, z, rfl, rfl, hq, he, q⟩ := h
  cases rx
  obtain ⟨t, rfl⟩ := ry
  obtain ⟨its, r, pl, hz⟩ := I.list hq
  obtain ⟨j, h1, h2, h3, h4, h5⟩ := atI_get he
  obtain ⟨w, ew, rw'⟩ := r.get h2
  have hl := r.length
  have hn := line63
  have fin : EP X pins σ Q w s := ⟨z, H, I, rw', q⟩
  by_cases h0 : 0 ≤ i
  · have hj : i.toNat = j := by
      rw [seqIndex_of h0 h5] at h1
      exact Option.some.inj h1
    exact item_listR pl.isList h0 (by omega) (by rw [hj]; simpa using ew) fin hs
  · have hj : (i + (its.toArray.size : Int)).toNat = j := by
      rw [seqIndex_neg (by omega) h4] at h1
      rw [List.size_toArray, ← hl]
      exact Option.some.inj h1
    exact subscriptTail_builtinR (x := w) pl.isList.typeIs slot_list_getitem.lookup
      (wpAny_getItem_list_neg (Q := fun r s' => r = w ∧ EP X pins σ Q r s') pl.isList (by omega) (by rw [List.size_toArray] <;> omega) (by omega) (by rw [hj]; simpa using ew) ⟨rfl, fin⟩) hs
theorem ix_tup : IxR X (rIxT X.K) := by
  intro value slice pins s σ H x y v u Q I rx ry h hs
  obtain ⟨p, xs, i, z, rfl, rfl, hq, he, q⟩ := h
  cases rx
  obtain ⟨t, rfl⟩ := ry
  obtain ⟨its, r, pl, hz⟩ := I.tuple hq
  obtain ⟨j, h1, h2, h3, h4, h5⟩ := atI_get he
  obtain ⟨w, ew, rw'⟩ := r.get h2
  have hl := r.length
  have hn := line63
  have fin : EP X pins σ Q w s := ⟨z, H, I, rw', q⟩
  exact subscriptTail_builtinR (x := w) pl.typeIs slot_tuple_getitem.lookup
    (getItem_tuple (j := j) (Q := fun r s' => r = w ∧ EP X pins σ Q r s') pl (by omega) (by omega) (by rw [List.size_toArray, ← hl]; exact h1) (by simpa using ew) ⟨rfl, fin⟩) hs
theorem ix_str : IxR X rIxS := by
  intro value slice pins s σ H x y v u Q I rx ry h hs
  obtain ⟨z, i, c, rfl, rfl, hz, he, q⟩ := h
  obtain ⟨t, rfl⟩ := rx
  obtain ⟨t', rfl⟩ := ry
  obtain ⟨j, h1, h2, h3, h4, h5⟩ := atI_get he
  have hl : z.cps.toList.length = z.length := by simp [Str.length]
  rw [hl] at h1 h4 h5
  have hn := line63
  exact tail_any (typeIs_str s z t) slot_str_getitem.lookup (getItem_str (c := c) (by
    have e1 : decide (i < -(2 ^ 63 : Int)) = false := decide_eq_false (by omega)
    have e2 : decide (i ≥ 2 ^ 63) = false := decide_eq_false (by omega)
    rw [e1, e2, Bool.or_false]) (by rw [h1]; simpa using h2) ⟨.str ⟨#[c]⟩, H, I.tok _, ⟨_, rfl⟩, q⟩) hs
/-- list, tuple or str -/
def rIx (K : PySem.W.Frag) : R2 := fun x y H Q => rIxL K x y H Q ∨ rIxT K x y H Q ∨ rIxS x y H Q
theorem ix_seq : IxR X (rIx X.K) := ix_list.or (ix_tup.or ix_str)

/-! ### xs[i] = v, any sign -/
/-- the list's object behind a store -/
theorem mapSeq_set (its : List Value) (n j : Nat) (u : Value) : Obj.mapSeq (·.setIfInBounds j u) { cls := .type "list", data := .seq its.toArray n } = { cls := .type "list", data := .seq (its.set j u).toArray n } := by
  simp [Obj.mapSeq]
theorem Inv.lst {pins : List (Addr × Obj)} {σ : St} {H : Hp} {s : Shared} {p : Addr} {xs : List V} (I : Inv X pins σ H s) (h : H p = some (.lst xs)) :
    ∃ (its : List Value) (n : Nat), Vals xs its ∧ s.heap.get? p = some { cls := .type "list", data := .seq its.toArray n } ∧ xs.length ≤ sizeLine := by
  obtain ⟨z, its, n, r, e⟩ := I.hok p _ h
  exact ⟨its, n, r, e, z⟩
/-- the list at p is written by an update of its object -/
theorem Inv.lstUpd {pins : List (Addr × Obj)} {σ : St} {H : Hp} {s : Shared} {p : Addr} {xs ys : List V} {its its' : List Value} {n n' : Nat} {f : Obj → Obj} (I : Inv X pins σ H s) (h : H p = some (.lst xs))
    (ho : s.heap.get? p = some { cls := .type "list", data := .seq its.toArray n }) (hf : f { cls := .type "list", data := .seq its.toArray n } = { cls := .type "list", data := .seq its'.toArray n' }) (r : Vals ys its') (hz : ys.length ≤ sizeLine) (t : Nat) :
    Inv X pins σ (upd H p (.lst ys)) { s with heap := s.heap.update p f, toks := t } := by
  have e : (s.heap.update p f).get? p = some { cls := .type "list", data := .seq its'.toArray n' } := by
    rw [Heap.get?_update_self f ho (by rw [hf] <;> rfl), hf]
  refine I.write (x := p) (e := p) (by rw [h]; trivial) (.inl rfl) (fun b u hb q => (Heap.get?_update_other _ _ (Ne.symm hb)).trans q) ⟨_, e⟩ ?_
  exact ⟨hz, its', n', r, e⟩
def rSetL : V → V → V → Hp → (Hp → Prop) → Prop := fun o i v H Q => ∃ p xs k j, o = .ref p ∧ i = .int k ∧ H p = some (.lst xs) ∧ ixN xs.length k = some j ∧ Q (upd H p (.lst (xs.set j v)))
theorem set_list : PSet X rSetL := by
  intro pins s σ H o i v ov iv u Q I ro ri rv h
  obtain ⟨p, xs, k, j, rfl, rfl, hp, hj, q⟩ := h
  cases ro
  obtain ⟨t, rfl⟩ := ri
  obtain ⟨its, n, r, ho, hz⟩ := I.lst hp
  obtain ⟨h1, h2, h3, h4⟩ := ixN_seq hj
  have hl := r.length
  have hn := line63
  have I' : Inv X pins σ (upd H p (.lst (xs.set j v))) { s with heap := s.heap.update p (Obj.mapSeq (·.setIfInBounds j u)) } :=
    I.lstUpd hp ho (mapSeq_set its n j u) (r.set rv j) (by rw [List.length_set]; exact hz) s.toks
  by_cases h0 : 0 ≤ k
  · have hk : k.toNat = j := by
      rw [seqIndex_of h0 h4] at h1
      exact Option.some.inj h1
    exact PySem.W.ki_setAt ho h0 (by omega) (by rw [List.size_toArray, ← hl]; exact h4) (by rw [hk]; exact ⟨_, I', q⟩)
  · have hk : (k + (its.toArray.size : Int)).toNat = j := by
      rw [seqIndex_neg (by omega) h3] at h1
      rw [List.size_toArray, ← hl]
      exact Option.some.inj h1
    exact PySem.W.ki_setBack ho (by omega) (by rw [List.size_toArray, ← hl]; exact h3) (by omega) (by rw [hk]; exact ⟨_, I', q⟩)

/-! ### slices -/
/-- xs[lo:hi] of a list: a new list -/
def rSlL (K : PySem.W.Frag) : V → Option Int → Option Int → Hp → VK → Prop := fun x lo hi H Q => ∃ a xs, x = .ref a ∧ SqL K H a xs ∧ ∀ p, H p = none → Q (.ref p) (upd H p (.lst (cutV xs lo hi)))
/-! ### in, not in: flat items -/
def flatV : V → Bool
  | .non => true
  | .bl _ => true
  | .int _ => true
  | .str _ => true
  | _ => false
/-- == of flat values -/
def eqV : V → V → Bool
  | .non, .non => true
  | .bl a, .bl b => a == b
  | .bl a, .int b => (if a then 1 else 0) == b
  | .int a, .bl b => a == (if b then 1 else 0)
  | .int a, .int b => a == b
  | .str a, .str b => a == b
  | _, _ => false
/-- the items' answers, read off the values (a value's own answer does not lean on its token) -/
def eqU (x : V) (u : Value) : Bool := match u with
  | .none => eqV .non x
  | .bool b => eqV (.bl b) x
  | .int i _ => eqV (.int i) x
  | .str z _ => eqV (.str z) x
  | _ => false
def inV (x : V) (xs : List V) : Bool := xs.any fun y => eqV y x
/-- x in a list or tuple of flat items -/
def rIn (K : PySem.W.Frag) (neg : Bool) : R2 := fun x y H Q => ∃ p xs, y = .ref p ∧ (SqL K H p xs ∨ SqT K H p xs) ∧ flatV x = true ∧ xs.all flatV = true ∧ Q (.bl (if neg then !inV x xs else inV x xs)) H
/-! ### len, list(x), tuple(x) of any list or tuple that is read -/
theorem call_len_seq : CallR X (.builtin "len") (fun xs H Q => ∃ p ys, xs = [.ref p] ∧ (SqL X.K H p ys ∨ SqT X.K H p ys) ∧ Q (.int ys.length) H) := by
  intro pins s σ H xs us Q I r h
  obtain ⟨p, ys, rfl, hq, q⟩ := h
  obtain ⟨u, rfl, rx⟩ := vals1 r
  cases rx
  have hn := line63
  rcases hq with hq | hq
  · obtain ⟨its, r', pl, hz⟩ := I.list hq
    have hlen := r'.length
    exact Calls.call_len_list pl.isList (by simp only [List.size_toArray] <;> omega) ⟨.int ys.length, H, I.tok _, ⟨s.toks + 1, by rw [List.size_toArray, hlen]⟩, q⟩
  · obtain ⟨its, r', pl, hz⟩ := I.tuple hq
    have hlen := r'.length
    exact len_tuple pl (by simp only [List.size_toArray] <;> omega) ⟨.int ys.length, H, I.tok _, ⟨s.toks + 1, by rw [List.size_toArray, hlen]⟩, q⟩
theorem CallR.or {f : Value} {r r' : List V → Hp → VK → Prop} (h : CallR X f r) (h' : CallR X f r') : CallR X f (fun xs H Q => r xs H Q ∨ r' xs H Q) := by
  intro pins s σ H xs us Q I rs q
  rcases q with q | q
  · exact h pins s σ H xs us Q I rs q
  · exact h' pins s σ H xs us Q I rs q
theorem call_list_of : CallR X (.type "list") (fun xs H Q => ∃ p ys, xs = [.ref p] ∧ (SqL X.K H p ys ∨ SqT X.K H p ys) ∧ ∀ l, H l = none → Q (.ref l) (upd H l (.lst ys))) := by
  intro pins s σ H xs us Q I r h
  obtain ⟨p, ys, rfl, hq, q⟩ := h
  obtain ⟨u, rfl, rx⟩ := vals1 r
  cases rx
  have fin : ∀ (its : List Value), Vals ys its → ys.length ≤ sizeLine → ∀ (h' : Heap) (c' : Nat), (∀ b o', s.heap.get? b = some o' → h'.get? b = some o') →
      h'.get? s.heap.objs.size = some { cls := .type "list", dict := none, data := .seq its.toArray c', slots := #[] } → EP X pins σ Q (.ref s.heap.objs.size) { s with heap := h' } := fun its r' hz h' c' kp e =>
    ⟨.ref s.heap.objs.size, _, I.laid (t' := s.toks) kp (Nat.le_refl _) (show ObjOk X.prog X.w _ h' _ (.lst ys) from ⟨hz, its, c', r', e⟩), rfl, q _ (I.hok.fresh (Nat.le_refl _))⟩
  rcases hq with hq | hq
  · obtain ⟨its, r', pl, hz⟩ := I.list hq
    have hlen := r'.length
    obtain ⟨o, ho, hc, n, hd⟩ := pl.isList
    exact call_list_seq p (.inl rfl) ho hc hd (fun h' c' kp e => fin its r' hz h' c' kp e) (by simp only [List.size_toArray] <;> omega)
  · obtain ⟨its, r', pl, hz⟩ := I.tuple hq
    have hlen := r'.length
    obtain ⟨o, ho, hc, n, hd⟩ := pl
    exact call_list_seq p (.inr rfl) ho hc hd (fun h' c' kp e => fin its r' hz h' c' kp e) (by simp only [List.size_toArray] <;> omega)
theorem call_tuple_of : CallR X (.type "tuple") (fun xs H Q => ∃ p ys, xs = [.ref p] ∧ ((SqL X.K H p ys ∧ ∀ l, H l = none → Q (.ref l) (upd H l (.tup ys))) ∨ (SqT X.K H p ys ∧ Q (.ref p) H))) := by
  intro pins s σ H xs us Q I r h
  obtain ⟨p, ys, rfl, h⟩ := h
  obtain ⟨u, rfl, rx⟩ := vals1 r
  cases rx
  rcases h with ⟨hq, q⟩ | ⟨hq, q⟩
  · obtain ⟨its, r', pl, hz⟩ := I.list hq
    have hlen := r'.length
    refine call_tuple_list pl.isList (fun h' kp => ?_) (by simp only [List.size_toArray] <;> omega)
    have I1 : Inv X pins σ H { s with heap := h' } := I.kept (t' := s.toks) kp
    have I2 : Inv X pins σ (upd H h'.objs.size (.tup ys)) { s with heap := h'.push { cls := .type "tuple", data := .seq its.toArray } } :=
      I1.laid (t' := s.toks) (fun b o e => Heap.get?_push_of_some _ e) (Nat.le_refl _) (show ObjOk X.prog X.w _ _ _ (.tup ys) from ⟨hz, its, r', IsTup.new _ _⟩)
    exact ⟨.ref h'.objs.size, _, I2, rfl, q _ (I1.hok.fresh (Nat.le_refl _))⟩
  · obtain ⟨its, r', pl, hz⟩ := I.tuple hq
    exact call_tuple_same pl ⟨.ref p, H, I, rfl, q⟩

/-! ### the call of a builtin's method: o.m(..) -/
/-- the value is of that builtin type -/
def tyV (K : PySem.W.Frag) (T : String) (x : V) (H : Hp) : Prop := match x with
  | .str _ => T = "str"
  | .int _ => T = "int"
  | .ref p => (T = "list" ∧ ∃ xs, SqL K H p xs) ∨ (T = "tuple" ∧ ∃ o, K.lookup p = some o ∧ o.cls = .type "tuple" ∧ o.dict = none) ∨
      (T = "dict" ∧ ((∃ kvs, H p = some (.dK kvs)) ∨ ∃ kvs, H p = some (.dT kvs))) ∨ (T = "set" ∧ ∃ S n, H p = some (.set S n))
  | _ => False
theorem tyV_is {pins : List (Addr × Obj)} {σ : St} {H : Hp} {s : Shared} {T : String} {x : V} {v : Value} (I : Inv X pins σ H s) (r : RelV x v) (ty : tyV X.K T x H) :
    s.TypeIs v T ∧ ∀ a, v = .ref a → ∃ ob, s.heap.get? a = some ob ∧ ob.dict = none := by
  cases x with
  | str z =>
    obtain ⟨t, rfl⟩ := r
    cases (show T = "str" from ty)
    exact ⟨typeIs_str s z t, fun _ e => nomatch e⟩
  | int i =>
    obtain ⟨t, rfl⟩ := r
    cases (show T = "int" from ty)
    exact ⟨typeIs_int s i t, fun _ e => nomatch e⟩
  | ref p =>
    cases r
    rcases ty with ⟨rfl, xs, hq⟩ | ⟨rfl, o, hk, hc, hd⟩ | ⟨rfl, hk⟩ | ⟨rfl, S, n, hk⟩
    · obtain ⟨its, _, pl, _⟩ := I.list hq
      refine ⟨pl.isList.typeIs, fun a e => ?_⟩
      cases e
      obtain ⟨o, n, e, c, hd, _⟩ := pl
      exact ⟨o, e, hd⟩
    · refine ⟨⟨o, I.kIn p o hk, hc⟩, fun a e => ?_⟩
      cases e
      exact ⟨o, I.kIn _ o hk, hd⟩
    · have z : ∃ o, s.heap.get? p = some o ∧ o.ExactDict := by
        rcases hk with ⟨kvs, hk⟩ | ⟨kvs, hk⟩
        · obtain ⟨_, _, _, _, o, _, _, e, ex, _⟩ := I.hok p _ hk
          exact ⟨o, e, ex⟩
        · obtain ⟨_, _, _, _, o, _, _, e, ex, _⟩ := I.hok p _ hk
          exact ⟨o, e, ex⟩
      obtain ⟨o, e, ex⟩ := z
      refine ⟨⟨o, e, ex.1⟩, fun a e2 => ?_⟩
      cases e2
      exact ⟨o, e, ex.2.1⟩
    · obtain ⟨o, _, _, _, e, ex, _⟩ := I.hok p _ hk
      refine ⟨⟨o, e, ex.1⟩, fun a e2 => ?_⟩
      cases e2
      exact ⟨o, e, ex.2.1⟩
  | _ => exact False.elim ty
def tBM0 (K : PySem.W.Frag) (T : String) (r : V → List V → Hp → VK → Prop) (to : TE) : TE := fun σ H Q => to σ H fun x H1 => tyV K T x H1 ∧ r x [] H1 Q
def tBM (K : PySem.W.Frag) (T : String) (r : V → List V → Hp → VK → Prop) (to : TE) (t : TA) : TE := fun σ H Q => to σ H fun x H1 => tyV K T x H1 ∧ t σ H1 fun xs H2 => r x xs H2 Q
variable {o e : Expr} {es : List Expr} {to : TE} {t : TA} {name : Str} {apos cpos : Pos} {T id : String} {r : V → List V → Hp → VK → Prop}
theorem pe_bm (pa : PlainAttrs T) (slot : Slot T name id) (hty : typeOf (.builtin id) = pure (.type "method_descriptor")) (hm : MtR X id r) (ho : PE X o to) (ha : PA X (e :: es) t)
    (hbase : attributeBase o name X.env (eval o X.env) = eval o X.env := by rfl)
    (hfew : ((backTo cpos (starEach (e :: es) X.env)).all (fun x => !x.1) && (backToKw cpos (keywordEach [] X.env)).all (fun x => x.1.isSome)
      && decide ((e :: es).length + ([] : List Keyword).length + (if ([] : List Keyword).isEmpty then 0 else 1) < 30)) = true := by rfl)
    (hline : (apos.endLine == cpos.line) = true := by rfl) (hs : starEach (e :: es) X.env = (false, eval e X.env) :: starEach es X.env := by rfl) (hplain : (backTo cpos (starEach es X.env)).any (·.1) = false := by rfl) :
    PE X (.Call (.Attribute o name apos) (e :: es) [] cpos) (tBM X.K T r to t) := by
  intro pins s σ H Q I h
  refine wpAny_Call_method_late hbase hfew hline rfl (thn (ho pins s σ H _ I h) fun v s1 ⟨x, H1, I1, r1, ty, q1⟩ => ?_)
  obtain ⟨h1, h2⟩ := tyV_is I1 r1 ty
  refine ⟨T, id, pa, slot, hty, h1, h2, ?_⟩
  have hA := ha cpos pins s1 σ H1 _ I1 q1
  rw [hs] at hA ⊢
  refine Calls.callWith_builtin (by show (false || (backTo cpos (starEach es X.env)).any (·.1)) = false; rw [hplain] <;> rfl) (Calls.evalArgs_plain ?_)
  exact thn hA fun us s2 ⟨vs, H2, I2, r2, q2⟩ => hm pins s2 σ H2 x vs v us Q I2 r1 r2 q2
/- xs.append(e), list.index on a module's tuple .. are MtR facts of 06m -/
end
end L2

namespace L2
open PySem PySem.Spec PyProof.Rows

def MtM (X : Cx) (id : String) (r : V → List V → Hp → VK → Prop) : Prop :=
  ∀ (pins : List (Addr × Obj)) (s : Shared) (σ : St) (H : Hp) (x : V) (xs : List V) (v : Value) (us : List Value) (Q : VK), Inv X pins σ H s → RelV x v → Vals xs us → r x xs H Q →
    wpAny (model X.prog X.w) X.A (call (.builtin id) (v :: us)) (EP X pins σ Q) X.xe s

/-! ### lists of values -/
theorem Vals.one : ∀ {x : V} {us : List Value}, Vals [x] us → ∃ u, us = [u] ∧ RelV x u
  | _, _, .cons r .nil => ⟨_, rfl, r⟩
theorem Vals.two : ∀ {x y : V} {us : List Value}, Vals [x, y] us → ∃ u v, us = [u, v] ∧ RelV x u ∧ RelV y v
  | _, _, _, .cons r (.cons q .nil) => ⟨_, _, rfl, r, q⟩
theorem Vals.zero : ∀ {us : List Value}, Vals [] us → us = []
  | _, .nil => rfl
theorem Vals.dropLast {xs : List V} {us : List Value} (h : Vals xs us) : Vals xs.dropLast us.dropLast := by
  induction h with
  | nil => exact .nil
  | cons r t ih =>
    cases t with
    | nil => exact .nil
    | cons q t' => exact .cons r ih
theorem Vals.eraseIdx : ∀ {xs : List V} {us : List Value} (i : Nat), Vals xs us → Vals (xs.eraseIdx i) (us.eraseIdx i)
  | _, _, _, .nil => .nil
  | _, _, 0, .cons _ t => t
  | _, _, i + 1, .cons r t => .cons r (Vals.eraseIdx i t)
theorem Vals.reverse {xs : List V} {us : List Value} (h : Vals xs us) : Vals xs.reverse us.reverse := by
  induction h with
  | nil => exact .nil
  | cons r t ih => rw [List.reverse_cons, List.reverse_cons]; exact Vals.append ih (.cons r .nil)
theorem Vals.rep {xs : List V} {us : List Value} (h : Vals xs us) : ∀ k : Nat, Vals (List.replicate k xs).flatten (List.replicate k us).flatten
  | 0 => .nil
  | k + 1 => by
    rw [List.replicate_succ, List.replicate_succ, List.flatten_cons, List.flatten_cons]
    exact Vals.append h (Vals.rep h k)
theorem len_erase {α : Type} : ∀ (l : List α) (i : Nat), (l.eraseIdx i).length ≤ l.length
  | [], _ => Nat.le_refl _
  | _ :: _, 0 => Nat.le_succ _
  | _ :: r, i + 1 => Nat.succ_le_succ (len_erase r i)
theorem foldl_rep (its : List Value) : ∀ (k : Nat) (acc : List Value),
    List.foldl (fun x1 x2 => x1 ++ x2) acc.toArray (List.replicate k its.toArray) = (acc ++ (List.replicate k its).flatten).toArray
  | 0, acc => by simp
  | k + 1, acc => by
    have e : acc.toArray ++ its.toArray = (acc ++ its).toArray := by simp
    have e2 : (acc ++ its) ++ (List.replicate k its).flatten = acc ++ (List.replicate (k + 1) its).flatten := by
      rw [List.replicate_succ, List.flatten_cons, List.append_assoc]
    rw [← e2, ← foldl_rep its k (acc ++ its), ← e, List.replicate_succ, List.foldl_cons]

section
variable {X : Cx} {pins : List (Addr × Obj)} {σ : St} {H : Hp} {s : Shared} {l b : Addr} {xs ys zs : List V}

/-! ### the two steps: a tracked list is rewritten, a new list is laid -/
theorem Inv.lset {its its' : List Value} {n : Nat} {f : Array Value → Array Value} {t' : Nat} (I : Inv X pins σ H s) (hH : H l = some (.lst xs))
    (e : s.heap.get? l = some { cls := .type "list", data := .seq its.toArray n }) (hf : f its.toArray = its'.toArray) (hv : Vals ys its') (hz : ys.length ≤ sizeLine) :
    Inv X pins σ (upd H l (.lst ys)) { s with heap := s.heap.update l (Obj.mapSeq f), toks := t' } := by
  have q := PySem.IsL.update e f
  rw [hf] at q
  refine I.write (x := l) (e := l) (by rw [hH]; exact trivial) (.inl rfl) (fun b' u hb hu => (Heap.get?_update_other s.heap (Obj.mapSeq f) (Ne.symm hb)).trans hu) ⟨_, q⟩ ?_
  exact ⟨hz, its', _, hv, q⟩
theorem Inv.lnew {its : List Value} {t' : Nat} (I : Inv X pins σ H s) (hv : Vals ys its) (hz : ys.length ≤ sizeLine) :
    Inv X pins σ (upd H s.heap.objs.size (.lst ys)) { s with heap := s.heap.push { cls := .type "list", data := .seq its.toArray }, toks := t' } :=
  I.laid (fun _ _ q => Heap.get?_push_of_some _ q) (Nat.le_refl _) ⟨hz, its, 0, hv, Heap.get?_push_size _ rfl⟩
theorem Inv.fresh (I : Inv X pins σ H s) : H s.heap.objs.size = none := I.hok.fresh (Nat.le_refl _)
theorem Inv.lstM (I : Inv X pins σ H s) (hH : H l = some (.lst xs)) : xs.length ≤ sizeLine ∧ ∃ (its : List Value) (n : Nat), Vals xs its ∧ xs.length = its.length ∧ s.heap.get? l = some { cls := .type "list", data := .seq its.toArray n } := by
  obtain ⟨z, its, n, r, e⟩ := I.hok l _ hH
  exact ⟨z, its, n, r, r.length, e⟩

theorem notLongL {n : Nat} (h : n ≤ sizeLine) : Builtin.List.listTooLong n = false := by
  unfold Builtin.List.listTooLong
  exact decide_eq_false (by omega)
end

section
variable {X : Cx}

/-! ### methods -/
def rAppend : V → List V → Hp → VK → Prop := fun x vs H Q => ∃ l xs y, x = .ref l ∧ vs = [y] ∧ H l = some (.lst xs) ∧ xs.length < sizeLine ∧ Q .non (upd H l (.lst (xs ++ [y])))
theorem mt_append : MtM X "list.append" rAppend := by
  intro pins s σ H x vs v us Q I rx rv h
  obtain ⟨l, xs, y, rfl, rfl, hH, hz, q⟩ := h
  cases rx
  obtain ⟨u, rfl, ru⟩ := rv.one
  obtain ⟨z, its, n, r, hl, e⟩ := I.lstM hH
  refine call_meets F.slot_list_append ⟨_, e, rfl⟩ F.entry_list_append (F.args_list_append_2 _ _) (PySem.list_append l its.toArray n u (by rw [List.size_toArray]; omega)) ⟨e, ?_⟩
  refine ⟨.non, _, I.lset (its' := its ++ [u]) hH e (by simp) (r.append (.cons ru .nil)) ?_, rfl, q⟩
  rw [List.length_append, List.length_singleton]
  omega

def rExtend : V → List V → Hp → VK → Prop := fun x vs H Q => ∃ l b xs zs, x = .ref l ∧ vs = [.ref b] ∧ H l = some (.lst xs) ∧ H b = some (.lst zs) ∧ xs.length + zs.length ≤ sizeLine ∧ Q .non (upd H l (.lst (xs ++ zs)))
def rPop : V → List V → Hp → VK → Prop := fun x vs H Q => ∃ l xs y, x = .ref l ∧ vs = [] ∧ H l = some (.lst xs) ∧ xs[xs.length - 1]? = some y ∧ Q y (upd H l (.lst xs.dropLast))
def rPopAt : V → List V → Hp → VK → Prop := fun x vs H Q => ∃ l xs i k y, x = .ref l ∧ vs = [.int i] ∧ H l = some (.lst xs) ∧ -(2 ^ 63) ≤ i ∧ i < 2 ^ 63 ∧ seqIndex? i xs.length = some k ∧ xs[k]? = some y ∧ Q y (upd H l (.lst (xs.eraseIdx k)))
theorem mt_popAt : MtM X "list.pop" rPopAt := by
  intro pins s σ H x vs v us Q I rx rv h
  obtain ⟨l, xs, i, k, y, rfl, rfl, hH, h1, h2, hk, hy, q⟩ := h
  cases rx
  obtain ⟨u, rfl, ru⟩ := rv.one
  obtain ⟨t, rfl⟩ := ru
  obtain ⟨z, its, n, r, hl, e⟩ := I.lstM hH
  obtain ⟨w, hw, rw'⟩ := r.get hy
  refine call_meets F.slot_list_pop ⟨_, e, rfl⟩ F.entry_list_pop (F.args_list_pop_2 _ _)
    (MeetsSeq.list_pop_at l its.toArray n i t k w (fitsIndex_both h1 h2) (by rw [List.size_toArray, ← hl]; exact hk) (by rw [← Array.getElem?_toList]; exact hw) (by rw [List.size_toArray]; omega)) ⟨e, ?_⟩
  refine ⟨y, _, I.lset (its' := its.eraseIdx k) hH e ?_ (r.eraseIdx k) ?_, rw', q⟩
  · show its.toArray.eraseIdxIfInBounds k = (its.eraseIdx k).toArray
    rw [List.eraseIdxIfInBounds_toArray]
  · have := len_erase xs k
    omega

def rReverse : V → List V → Hp → VK → Prop := fun x vs H Q => ∃ l xs, x = .ref l ∧ vs = [] ∧ H l = some (.lst xs) ∧ Q .non (upd H l (.lst xs.reverse))
def rClear : V → List V → Hp → VK → Prop := fun x vs H Q => ∃ l xs, x = .ref l ∧ vs = [] ∧ H l = some (.lst xs) ∧ Q .non (upd H l (.lst []))
/-! ### list + list, list += list, list * int -/
def rCat : R2 := fun x y H Q => ∃ l b xs zs, x = .ref l ∧ y = .ref b ∧ H l = some (.lst xs) ∧ H b = some (.lst zs) ∧ xs.length + zs.length ≤ sizeLine ∧ ∀ p, H p = none → Q (.ref p) (upd H p (.lst (xs ++ zs)))
theorem op_cat : OpR X (binaryOp .Add) rCat := by
  intro pins s σ H x y v u Q I rx ry h
  obtain ⟨l, b, xs, zs, rfl, rfl, hH, hB, hz, q⟩ := h
  cases rx
  cases ry
  obtain ⟨z, its, n, r, hl, e⟩ := I.lstM hH
  obtain ⟨z2, its2, n2, r2, hl2, e2⟩ := I.lstM hB
  refine PySem.P.add_list e e2 ?_ (by rw [List.size_toArray, List.size_toArray]; omega)
  have ea : its.toArray ++ its2.toArray = (its ++ its2).toArray := by simp
  rw [ea]
  exact ⟨.ref _, _, I.lnew (t' := s.toks) (r.append r2) (by rw [List.length_append]; omega), rfl, q _ I.fresh⟩
/-- a list times an int (a negative one is nothing) -/
def rRep : R2 := fun x y H Q => ∃ l k xs, x = .ref l ∧ y = .int k ∧ H l = some (.lst xs) ∧ -(2 ^ 63) ≤ k ∧ k < 2 ^ 63 ∧ xs.length * k.toNat ≤ sizeLine ∧
  ∀ p, H p = none → Q (.ref p) (upd H p (.lst (List.replicate k.toNat xs).flatten))
theorem len_rep {α : Type} (xs : List α) (k : Nat) : (List.replicate k xs).flatten.length = k * xs.length := by
  induction k with
  | zero => simp
  | succ k ih => rw [List.replicate_succ, List.flatten_cons, List.length_append, ih, Nat.succ_mul, Nat.add_comm]
theorem op_rep : OpR X (binaryOp .Mult) rRep := by
  intro pins s σ H x y v u Q I rx ry h
  obtain ⟨l, k, xs, rfl, rfl, hH, h1, h2, hz, q⟩ := h
  cases rx
  obtain ⟨t, rfl⟩ := ry
  obtain ⟨z, its, n, r, hl, e⟩ := I.lstM hH
  have hlen : its.toArray.size * k.toNat ≤ sizeLine := by rw [List.size_toArray, ← hl]; exact hz
  have hcap : ¬ its.toArray.size * k.toNat > (2 ^ 63 - 1) / 8 := by
    have : (sizeLine : Nat) ≤ (2 ^ 63 - 1) / 8 := by decide
    omega
  have hfit : ¬ (!Builtin.List.listFitsIndex k) = true := by
    rw [fitsIndex_both h1 h2]
    exact Bool.false_ne_true
  have hlong : ¬ Builtin.List.listTooLong (its.toArray.size * k.toNat) = true := by
    rw [notLongL hlen]
    exact Bool.false_ne_true
  have hnew : List.foldl (fun x1 x2 => x1 ++ x2) #[] (List.replicate (if its.toArray.isEmpty = true then 0 else k.toNat) its.toArray) = (List.replicate k.toNat its).flatten.toArray := by
    have f0 : ∀ m : Nat, List.foldl (fun x1 x2 => x1 ++ x2) #[] (List.replicate m its.toArray) = (List.replicate m its).flatten.toArray := fun m => by
      have := foldl_rep its m []
      rw [List.nil_append] at this
      exact this
    rw [f0]
    cases its with
    | nil => simp
    | cons a r' => rw [if_neg (by simp)]
  refine wpAny_binaryOp_repeat_ref (T := "list") (U := "int") (by decide) ⟨_, e, rfl⟩ (fun s' => typeIs_int s' k t) noFill_list_mul F.fills_int_mul F.slot_int_rmul repeat_list F.slot_int_index.lookup
    (call_meets F.slot_int_rmul (typeIs_int s k t) F.entry_int_rmul (F.args_int_rmul_2 _ _) (int___rmul___int_list k t l its.toArray n)
      ⟨e, rfl, ⟨_, e, rfl⟩, call_meets F.slot_list_mul ⟨_, e, rfl⟩ F.entry_list_mul (F.args_list_mul_2 _ _) (AutoListH.list___mul___list_int_3 l its.toArray n k t hfit hcap hlong) ⟨e, ?_⟩⟩)
  rw [hnew]
  exact ⟨.ref _, _, I.lnew (t' := s.toks) (r.rep k.toNat) (by rw [len_rep, Nat.mul_comm]; exact hz), rfl, q _ I.fresh⟩

/-! ### del xs[i] -/
end

/-! ### xs[a:b] = ys -/
section
variable {prog : Program} {w : World} {A : Around} {E : Value → Shared → Prop} {s : Shared}
end

section
variable {X : Cx}
end
end L2

namespace L2
open PySem PySem.Spec PyProof.Rows

/-! ### lists of pairs as tables -/
section
variable {κ : Type} [DecidableEq κ]
def valV (kvs : List (κ × V)) (k : κ) : Option V := (kvs.find? fun kv => decide (kv.1 = k)).map (·.2)
/-- in its place, or at the end -/
def putK (kvs : List (κ × V)) (k : κ) (v : V) : List (κ × V) :=
  if (kvs.any fun kv => decide (kv.1 = k)) = true then kvs.map (fun kv => if kv.1 = k then (kv.1, v) else kv) else kvs ++ [(k, v)]
def dropK (kvs : List (κ × V)) (k : κ) : List (κ × V) := kvs.filter fun kv => decide (kv.1 ≠ k)

theorem valV_pos {p : κ × V} {r : List (κ × V)} {k : κ} (e : p.1 = k) : valV (p :: r) k = some p.2 := by simp [valV, List.find?_cons, e]
theorem valV_neg {p : κ × V} {r : List (κ × V)} {k : κ} (e : ¬ p.1 = k) : valV (p :: r) k = valV r k := by simp [valV, List.find?_cons, e]
theorem valV_any (k : κ) : ∀ kvs : List (κ × V), (kvs.any fun kv => decide (kv.1 = k)) = (valV kvs k).isSome
  | [] => rfl
  | p :: r => by
    rw [List.any_cons]
    by_cases e : p.1 = k
    · simp only [valV_pos e, decide_eq_true e, Bool.true_or, Option.isSome_some]
    · rw [valV_neg e, decide_eq_false e, Bool.false_or]; exact valV_any k r
theorem length_putK (kvs : List (κ × V)) (k : κ) (v : V) : (putK kvs k v).length ≤ kvs.length + 1 := by
  unfold putK
  split
  · rw [List.length_map]; omega
  · rw [List.length_append, List.length_cons, List.length_nil]; omega
theorem RelO.isSome_eq {o : Option V} {u : Option Value} (r : RelO o u) : o.isSome = u.isSome := by
  cases o with
  | none => cases u with
    | none => rfl
    | some _ => exact (show False from r).elim
  | some _ => cases u with
    | none => exact (show False from r).elim
    | some _ => rfl
theorem RelO.getD {o : Option V} {u : Option Value} {d : V} {d' : Value} (r : RelO o u) (rd : RelV d d') : RelV (o.getD d) (u.getD d') := by
  cases o with
  | none => cases u with
    | none => exact rd
    | some _ => exact (show False from r).elim
  | some _ => cases u with
    | none => exact (show False from r).elim
    | some _ => exact r

/-- raw tables of the same keys -/
theorem KV.val {kvs : List (κ × V)} {vs : List (κ × Value)} (r : KV kvs vs) (k : κ) : RelO (valV kvs k) (valueAt vs k) := by
  unfold KV at r
  induction r with
  | nil => exact True.intro
  | @cons p q ps qs h t ih =>
    obtain ⟨h1, h2⟩ := h
    by_cases e : p.1 = k
    · have e' : q.1 = k := h1.symm.trans e
      have b : valueAt (q :: qs) k = some q.2 := by simp [valueAt, List.find?_cons, e']
      rw [valV_pos e, b]; exact h2
    · have e' : ¬ q.1 = k := fun z => e (h1.trans z)
      have b : valueAt (q :: qs) k = valueAt qs k := by simp [valueAt, List.find?_cons, e']
      rw [valV_neg e, b]; exact ih
theorem KV.any {kvs : List (κ × V)} {vs : List (κ × Value)} (r : KV kvs vs) (k : κ) : (kvs.any fun kv => decide (kv.1 = k)) = vs.any fun kv => decide (kv.1 = k) := by
  unfold KV at r
  induction r with
  | nil => rfl
  | cons h t ih => rw [List.any_cons, List.any_cons, ih, h.1]
theorem KV.repl {kvs : List (κ × V)} {vs : List (κ × Value)} (r : KV kvs vs) (k : κ) {y : V} {u : Value} (ry : RelV y u) :
    KV (kvs.map fun kv => if kv.1 = k then (kv.1, y) else kv) (vs.map fun kv => if kv.1 = k then (kv.1, u) else kv) := by
  unfold KV at r ⊢
  induction r with
  | nil => exact .nil
  | @cons p q ps qs h t ih =>
    rw [List.map_cons, List.map_cons]
    refine .cons ?_ ih
    obtain ⟨h1, h2⟩ := h
    by_cases e : p.1 = k
    · rw [if_pos e, if_pos (h1.symm.trans e)]; exact ⟨h1, ry⟩
    · rw [if_neg e, if_neg (fun z => e (h1.trans z))]; exact ⟨h1, h2⟩
theorem KV.put {kvs : List (κ × V)} {vs : List (κ × Value)} (r : KV kvs vs) (k : κ) {y : V} {u : Value} (ry : RelV y u) : KV (putK kvs k y) (stored vs k u) := by
  unfold putK stored
  rw [r.any k]
  by_cases e : (vs.any fun kv => decide (kv.1 = k)) = true
  · rw [if_pos e, if_pos e]; exact r.repl k ry
  · rw [if_neg e, if_neg e]; exact Paired.snoc r ⟨rfl, ry⟩
theorem KV.drop {kvs : List (κ × V)} {vs : List (κ × Value)} (r : KV kvs vs) (k : κ) : KV (dropK kvs k) (without vs k) := by
  unfold KV at r ⊢
  unfold dropK without
  induction r with
  | nil => exact .nil
  | @cons p q ps qs h t ih =>
    obtain ⟨h1, h2⟩ := h
    rw [List.filter_cons, List.filter_cons]
    by_cases e : p.1 = k
    · have a : ¬ decide (p.1 ≠ k) = true := by simp [e]
      have b : ¬ decide (q.1 ≠ k) = true := by simp [h1.symm.trans e]
      rw [if_neg a, if_neg b]; exact ih
    · have e' : ¬ q.1 = k := fun z => e (h1.trans z)
      have a : decide (p.1 ≠ k) = true := by simp [e]
      have b : decide (q.1 ≠ k) = true := by simp [e']
      rw [if_pos a, if_pos b]; exact .cons ⟨h1, h2⟩ ih
theorem KV.keys {kvs : List (κ × V)} {vs : List (κ × Value)} (r : KV kvs vs) : kvs.map (·.1) = vs.map (·.1) := by
  unfold KV at r
  induction r with
  | nil => rfl
  | cons h t ih => rw [List.map_cons, List.map_cons, ih, h.1]
theorem KV.length {kvs : List (κ × V)} {vs : List (κ × Value)} (r : KV kvs vs) : kvs.length = vs.length := Paired.length r
end


/-! ### a tracked dict, its keys ints and texts or tuples of these -/
theorem kV_is {P : Program} {w : World} {k : Key} {u : Value} (r : RelV (kV k) u) : (mixKind P w).is k u = true := by
  cases k with
  | inl i => obtain ⟨t, e⟩ := (show ∃ t, u = Value.int i t from r); subst e; exact mixKind_int P w i t
  | inr x => obtain ⟨t, e⟩ := (show ∃ t, u = Value.str x t from r); subst e; exact mixKind_str P w x t
/-- raw entries of a dict with tuple keys -/
abbrev KT (H : Hp) : List (List Key × V) → List (List Key × Addr × Value) → Prop := Paired fun p q => p.1 = q.1 ∧ H q.2.1 = some (.tup (p.1.map kV)) ∧ RelV p.2 q.2.2
theorem KT.val {H : Hp} {kvs : List (List Key × V)} {xs : List (List Key × Addr × Value)} (r : KT H kvs xs) (k : List Key) : RelO (valV kvs k) ((atKey xs k).map (·.2)) := by
  induction r with
  | nil => exact True.intro
  | @cons p q ps qs h t ih =>
    obtain ⟨h1, _, h2⟩ := h
    by_cases e : p.1 = k
    · have e' : q.1 = k := h1.symm.trans e
      have b : atKey (q :: qs) k = some q.2 := by simp [atKey, List.find?_cons, e']
      rw [valV_pos e, b]; exact h2
    · have e' : ¬ q.1 = k := fun z => e (h1.trans z)
      have b : atKey (q :: qs) k = atKey qs k := by simp [atKey, List.find?_cons, e']
      rw [valV_neg e, b]; exact ih
theorem KT.repl {H : Hp} {kvs : List (List Key × V)} {xs : List (List Key × Addr × Value)} (r : KT H kvs xs) (k : List Key) {y : V} {u : Value} (ry : RelV y u) :
    KT H (kvs.map fun kv => if kv.1 = k then (kv.1, y) else kv) (xs.map (putAt k u)) := by
  induction r with
  | nil => exact .nil
  | @cons p q ps qs h t ih =>
    rw [List.map_cons, List.map_cons]
    refine .cons ?_ ih
    obtain ⟨h1, h2, h3⟩ := h
    unfold putAt
    by_cases e : p.1 = k
    · rw [if_pos e, if_pos (h1.symm.trans e)]; exact ⟨h1, h2, ry⟩
    · rw [if_neg e, if_neg (fun z => e (h1.trans z))]; exact ⟨h1, h2, h3⟩
theorem KT.put {H : Hp} {kvs : List (List Key × V)} {xs : List (List Key × Addr × Value)} (r : KT H kvs xs) (k : List Key) {b : Addr} {y : V} {u : Value} (hb : H b = some (.tup (k.map kV))) (ry : RelV y u) :
    KT H (putK kvs k y) (storedH xs k b u) := by
  have e : (kvs.any fun kv => decide (kv.1 = k)) = (atKey xs k).isSome := by
    rw [valV_any, (r.val k).isSome_eq, Option.isSome_map]
  unfold putK storedH
  rw [e]
  by_cases q : (atKey xs k).isSome = true
  · rw [if_pos q, if_pos q]; exact r.repl k ry
  · rw [if_neg q, if_neg q]; exact Paired.snoc r ⟨rfl, hb, ry⟩
theorem KT.keeps {H H' : Hp} {kvs : List (List Key × V)} {xs : List (List Key × Addr × Value)} (r : KT H kvs xs) (ht : ∀ b ys, H b = some (.tup ys) → H' b = some (.tup ys)) : KT H' kvs xs :=
  Paired.mapP r fun _ _ z => ⟨z.1, ht _ _ z.2.1, z.2.2⟩

section
variable {P : Program} {w : World} {H : Hp} {h : Heap} {a : Addr}
theorem rd_of {u : HO} (ok : HOk P w H h) (e : Rd H a u) : ObjOk P w H h a u := e.ok ok
theorem dk_rd {kvs : List (Key × V)} (ok : HOk P w H h) (e : Rd H a (.dK kvs)) : kvs.length ≤ sizeLine ∧ (a == sysModules) = false ∧ ∃ vs, KV kvs vs ∧ h.DictOf (mixKind P w) a vs :=
  show ObjOk P w H h a (.dK kvs) from rd_of ok e
theorem dk_of {kvs : List (Key × V)} (ok : HOk P w H h) (e : H a = some (.dK kvs)) : kvs.length ≤ sizeLine ∧ (a == sysModules) = false ∧ ∃ vs, KV kvs vs ∧ h.DictOf (mixKind P w) a vs := dk_rd ok (.inl e)
end

/-- what the dict at a holds at the key y -/
def DGet (H : Hp) (a : Addr) (y : V) (r : Option V) : Prop :=
  (∃ kvs k, Rd H a (.dK kvs) ∧ y = kV k ∧ r = valV kvs k) ∨ ∃ kvs k b, Rd H a (.dT kvs) ∧ y = .ref b ∧ H b = some (.tup (k.map kV)) ∧ r = valV kvs k
/-- the heap behind a[y] = v -/
def DPut (H : Hp) (a : Addr) (y v : V) (H' : Hp) : Prop :=
  (∃ kvs k, H a = some (.dK kvs) ∧ y = kV k ∧ kvs.length < sizeLine ∧ H' = upd H a (.dK (putK kvs k v))) ∨
  ∃ kvs k b, H a = some (.dT kvs) ∧ y = .ref b ∧ H b = some (.tup (k.map kV)) ∧ kvs.length < sizeLine ∧ H' = upd H a (.dT (putK kvs k v))
theorem DGet.k {H : Hp} {a : Addr} {kvs : List (Key × V)} {k : Key} (e : H a = some (.dK kvs)) : DGet H a (kV k) (valV kvs k) := .inl ⟨kvs, k, .inl e, rfl, rfl⟩
theorem DGet.t {H : Hp} {a b : Addr} {kvs : List (List Key × V)} {k : List Key} (e : H a = some (.dT kvs)) (eb : H b = some (.tup (k.map kV))) : DGet H a (.ref b) (valV kvs k) := .inr ⟨kvs, k, b, .inl e, rfl, eb, rfl⟩
theorem DPut.k {H : Hp} {a : Addr} {kvs : List (Key × V)} {k : Key} {v : V} (e : H a = some (.dK kvs)) (hl : kvs.length < sizeLine) : DPut H a (kV k) v (upd H a (.dK (putK kvs k v))) := .inl ⟨kvs, k, e, rfl, hl, rfl⟩
theorem DPut.t {H : Hp} {a b : Addr} {kvs : List (List Key × V)} {k : List Key} {v : V} (e : H a = some (.dT kvs)) (eb : H b = some (.tup (k.map kV))) (hl : kvs.length < sizeLine) :
    DPut H a (.ref b) v (upd H a (.dT (putK kvs k v))) := .inr ⟨kvs, k, b, e, rfl, eb, hl, rfl⟩


section
variable {X : Cx} {pins : List (Addr × Obj)} {σ : St} {H : Hp} {s : Shared} {a : Addr} {y v : V} {u r : Value} {o : Option V} {A : Around} {E : Value → Shared → Prop}

theorem Inv.big (I : Inv X pins σ H s) : sysModules < s.heap.objs.size := by
  have h : mainGlobals < s.heap.objs.size := (I.mod.glob.keeps I.bk).lt
  exact Nat.lt_trans (by decide) h

/-- a dict's object is replaced -/
theorem d_write {h' : Heap} {t' : Nat} {ob : HO} (I : Inv X pins σ H s) (mu : Mut (H a)) (hs : Heap.SameBut a s.heap h') (he : ∃ q, h'.get? a = some q) (new : ObjOk X.prog X.w (upd H a ob) h' a ob) :
    Inv X pins σ (upd H a ob) { s with heap := h', toks := t' } :=
  I.write (x := a) (e := a) mu (.inl rfl) (fun b q hb z => (hs.2 b hb).trans z) he new
theorem dk_new {P : Program} {w : World} {H' : Hp} {h' : Heap} {kvs : List (Key × V)} {vs : List (Key × Value)} (z : kvs.length ≤ sizeLine) (hd : (a == sysModules) = false) (rel : KV kvs vs) (dd : h'.DictOf (mixKind P w) a vs) :
    ObjOk P w H' h' a (.dK kvs) := ⟨z, hd, vs, rel, dd⟩
end

section
variable {X : Cx} {pins : List (Addr × Obj)} {σ : St} {H : Hp} {s : Shared} {a : Addr} {kvs : List (Key × V)} {k : Key} {u : Value} {A : Around} {E : Value → Shared → Prop}
end


/-! ### readings and rules -/
/-- the element of a subscription, not a slice -/
def NoSl (i : Expr) : Prop := ∀ ov iv, subscripted i false ov iv = operate [ov, iv] (getItem ov iv)
/-- d[y] -/
def tDGet (td ty : TE) : TE := fun σ H Q => td σ H fun x H1 => ty σ H1 fun y H2 => ∃ a v, x = .ref a ∧ DGet H2 a y (some v) ∧ Q v H2
/-- y in d, y not in d -/
def tDIn (ty td : TE) : TE := fun σ H Q => ty σ H fun y H1 => td σ H1 fun x H2 => ∃ a o, x = .ref a ∧ DGet H2 a y o ∧ Q (.bl o.isSome) H2
def tDNotIn (ty td : TE) : TE := fun σ H Q => ty σ H fun y H1 => td σ H1 fun x H2 => ∃ a o, x = .ref a ∧ DGet H2 a y o ∧ Q (.bl (!o.isSome)) H2
/-- d[y] = v -/
def sDPut (td ty tv : TE) : TS := fun D σ H => tv σ H fun v H1 => td σ H1 fun x H2 => ty σ H2 fun y H3 => ∃ a H4, x = .ref a ∧ DPut H3 a y v H4 ∧ D.nx σ H4
/-- d[y] op= v -/
def sDAug (td ty tv : TE) (rd : V → V → Hp → VK → Prop) : TS := fun D σ H => td σ H fun x H1 => ty σ H1 fun y H2 => ∃ a v, x = .ref a ∧ DGet H2 a y (some v) ∧
  tv σ H2 fun y2 H3 => rd v y2 H3 fun z H4 => ∃ H5, DPut H4 a y z H5 ∧ D.nx σ H5
/-- del d[y] -/
def sDDel (td ty : TE) : TS := fun D σ H => td σ H fun x H1 => ty σ H1 fun y H2 => ∃ a kvs k, x = .ref a ∧ H2 a = some (.dK kvs) ∧ y = kV k ∧ (valV kvs k).isSome = true ∧ D.nx σ (upd H2 a (.dK (dropK kvs k)))

section
variable {X : Cx} {o i e value : Expr} {pos pos' tpos : Pos} {td ty tv : TE}
end


/-! ### displays -/
theorem dk_empty {P : Program} {w : World} {H : Hp} (h : Heap) (hb : sysModules < h.objs.size) : ObjOk P w H (h.push { cls := .type "dict", data := .dict #[] }) h.objs.size (.dK []) :=
  ⟨Nat.zero_le _, beq_eq_false_iff_ne.mpr (Ne.symm (Nat.ne_of_lt hb)), [], .nil, Heap.DictOf.new h⟩
/-- {}, to be a dict of the kind that is wanted -/
def tDNewK : TE := fun _ H Q => ∀ p, H p = none → Q (.ref p) (upd H p (.dK []))
def tDNewT : TE := fun _ H Q => ∀ p, H p = none → Q (.ref p) (upd H p (.dT []))
section
variable {X : Cx} {pos : Pos}
theorem pe_dnewK : PE X (.Dict [] [] pos) tDNewK := fun pins s σ H Q I h =>
  wpAny_Dict_empty ⟨.ref s.heap.objs.size, _, I.laid (a := s.heap.objs.size) (o := .dK []) (t' := s.toks) (fun _ _ q => Heap.get?_push_of_some _ q) (Nat.le_refl _) (dk_empty s.heap I.big), rfl, h _ (I.hok.fresh (Nat.le_refl _))⟩
end

/-- the pairs of a display, from the left -/
def tPairs : List (TE × TE) → St → Hp → (List (V × V) → Hp → Prop) → Prop
  | [], _, H, Q => Q [] H
  | (tk, tv) :: r, σ, H, Q => tk σ H fun x H1 => tv σ H1 fun y H2 => tPairs r σ H2 fun ps H3 => Q ((x, y) :: ps) H3
abbrev VV : List (V × V) → List (Value × Value) → Prop := Paired fun p q => RelV p.1 q.1 ∧ RelV p.2 q.2
def PPs (X : Cx) (pos : Pos) (keys : List (Option Expr)) (values : List Expr) (trs : List (TE × TE)) : Prop :=
  ∀ (pins : List (Addr × Obj)) (s : Shared) (σ : St) (H : Hp) (Q : List (V × V) → Hp → Prop), Inv X pins σ H s → tPairs trs σ H Q →
    wpAny (model X.prog X.w) X.A (evalPairs (pairTrees keys values X.env pos)) (fun vs s' => ∃ ps H', Inv X pins σ H' s' ∧ VV ps vs ∧ Q ps H') X.xe s
theorem pps_nil {X : Cx} {pos : Pos} : PPs X pos [] [] [] := fun pins s σ H Q I h => pairTrees_nil_walk ⟨[], H, I, .nil, h⟩
theorem pps_cons {X : Cx} {pos : Pos} {k v : Expr} {ks : List (Option Expr)} {vs : List Expr} {tk tv : TE} {trs : List (TE × TE)} (hk : PE X k tk) (hv : PE X v tv) (hr : PPs X pos ks vs trs) :
    PPs X pos (some k :: ks) (v :: vs) ((tk, tv) :: trs) := fun pins s σ H Q I h =>
  pairTrees_cons_walk (thn (hk pins s σ H _ I h) fun u s1 ⟨x, H1, I1, rx, q1⟩ => thn (hv pins s1 σ H1 _ I1 q1) fun w2 s2 ⟨y, H2, I2, ry, q2⟩ =>
    thn (hr pins s2 σ H2 _ I2 q2) fun ws s3 ⟨ps, H3, I3, rel, q3⟩ => ⟨(x, y) :: ps, H3, I3, .cons ⟨rx, ry⟩ rel, q3⟩)

def mergeK (kvs more : List (Key × V)) : List (Key × V) := more.foldl (fun acc kv => putK acc kv.1 kv.2) kvs
theorem KV.merge : ∀ {more : List (Key × V)} {rs : List (Key × Value)} {kvs : List (Key × V)} {vs : List (Key × Value)}, KV more rs → KV kvs vs → KV (mergeK kvs more) (merged vs rs) := by
  intro more rs kvs vs r
  unfold KV at r
  induction r generalizing kvs vs with
  | nil => intro q; exact q
  | @cons p q ps qs h t ih =>
    intro r0
    have e : KV (putK kvs p.1 p.2) (stored vs q.1 q.2) := by
      have := r0.put p.1 h.2
      rw [← h.1]; exact this
    exact ih e
theorem length_mergeK : ∀ (more kvs : List (Key × V)), (mergeK kvs more).length ≤ kvs.length + more.length
  | [], kvs => by show kvs.length ≤ kvs.length + 0; omega
  | p :: r, kvs => by
    have h1 := length_mergeK r (putK kvs p.1 p.2)
    have h2 := length_putK kvs p.1 p.2
    show (mergeK (putK kvs p.1 p.2) r).length ≤ _
    rw [List.length_cons]; omega
theorem carries_of {P : Program} {w : World} : ∀ {kvs : List (Key × V)} {ws : List (Value × Value)}, VV (kvs.map fun kv => (kV kv.1, kv.2)) ws → ∃ rs, Carries (mixKind P w) ws rs ∧ KV kvs rs
  | [], _, r => by rw [List.map_nil] at r; cases r; exact ⟨[], True.intro, .nil⟩
  | p :: kvs, _, r => by
    rw [List.map_cons] at r
    cases r with
    | @cons a b as bs h t =>
      obtain ⟨rs, c, q⟩ := carries_of (P := P) (w := w) t
      obtain ⟨b1, b2⟩ := b
      exact ⟨(p.1, b2) :: rs, ⟨kV_is h.1, rfl, c⟩, .cons ⟨rfl, h.2⟩ q⟩
/-- {k: v, ..} with keys ints and texts; the new dict stands empty while the pairs are made -/
def tDisp (trs : List (TE × TE)) : TE := fun σ H Q => ∀ p, H p = none → tPairs trs σ (upd H p (.dK [])) fun ps H2 => H2 p = some (.dK []) ∧ ∃ kvs : List (Key × V), ps = kvs.map (fun kv => (kV kv.1, kv.2)) ∧ kvs.length ≤ 15 ∧ Q (.ref p) (upd H2 p (.dK (mergeK [] kvs)))
theorem pe_disp {X : Cx} {pos : Pos} {keys : List (Option Expr)} {values : List Expr} {trs : List (TE × TE)} (h : PPs X pos keys values trs) (hall : keys.all (·.isSome) = true) (hl : keys.length = values.length) (h0 : keys ≠ [])
    (h15 : keys.length ≤ 15) : PE X (.Dict keys values pos) (tDisp trs) := by
  intro pins s σ H Q I q
  have hn := I.hok.fresh (Nat.le_refl s.heap.objs.size)
  have I1 := I.laid (a := s.heap.objs.size) (o := .dK []) (h' := s.heap.push { cls := .type "dict", data := .dict #[] }) (t' := s.toks) (fun _ _ q => Heap.get?_push_of_some _ q) (Nat.le_refl _) (dk_empty s.heap I.big)
  refine wpAny_Dict_walk (knd := mixKind X.prog X.w) hall hl h0 h15 (thn (h pins _ σ _ _ I1 (q _ hn)) fun ws s2 ⟨ps, H2, I2, rel, e, kvs, ep, lk, q2⟩ => ?_)
  subst ep
  obtain ⟨rs, c, rk⟩ := carries_of (P := X.prog) (w := X.w) rel
  obtain ⟨z, hd, vs0, r0, dd⟩ := dk_of I2.hok e
  cases r0
  refine ⟨rs, c, dd, fun h' dd' hs => ⟨.ref s.heap.objs.size, _, ?_, rfl, q2⟩⟩
  have hz : (mergeK [] kvs).length ≤ sizeLine := by
    have h1 := length_mergeK kvs []
    rw [List.length_nil] at h1
    rw [sizeLine_eq]; omega
  have he : ∃ q, h'.get? s.heap.objs.size = some q := let ⟨q, _, _, hq, _⟩ := dd'; ⟨q, hq⟩
  exact d_write I2 (by rw [e]; exact True.intro) hs he (dk_new hz hd (rk.merge .nil) dd')


/-! ### methods -/
/-- a method call o.m(e) of a built-in, with one argument: what must be seen of the text -/
structure M1 (X : Cx) (o : Expr) (m : Str) (apos : Pos) (e : Expr) (cpos : Pos) : Prop where
  base : attributeBase o m X.env (eval o X.env) = eval o X.env
  few : ((backTo cpos (starEach [e] X.env)).all (fun x => !x.1) && (backToKw cpos (keywordEach [] X.env)).all (fun x => x.1.isSome)
    && decide (([e] : List Expr).length + ([] : List Keyword).length + (if ([] : List Keyword).isEmpty then 0 else 1) < 30)) = true
  line : (apos.endLine == cpos.line) = true
  trees : backTo cpos (starEach [e] X.env) = [(false, eval e X.env)]
structure M2 (X : Cx) (o : Expr) (m : Str) (apos : Pos) (e f : Expr) (cpos : Pos) : Prop where
  base : attributeBase o m X.env (eval o X.env) = eval o X.env
  few : ((backTo cpos (starEach [e, f] X.env)).all (fun x => !x.1) && (backToKw cpos (keywordEach [] X.env)).all (fun x => x.1.isSome)
    && decide (([e, f] : List Expr).length + ([] : List Keyword).length + (if ([] : List Keyword).isEmpty then 0 else 1) < 30)) = true
  line : (apos.endLine == cpos.line) = true
  trees : backTo cpos (starEach [e, f] X.env) = [(false, eval e X.env), (false, eval f X.env)]

/-- a is a dict, whatever its keys -/
def IsD (H : Hp) (a : Addr) : Prop := (∃ kvs, Rd H a (.dK kvs)) ∨ ∃ kvs, Rd H a (.dT kvs)
section
variable {X : Cx} {pins : List (Addr × Obj)} {σ : St} {H : Hp} {s : Shared} {a : Addr} {y d : V} {u r : Value} {o : Option V} {A : Around} {E : Value → Shared → Prop}
end

def tDGet1 (td ty : TE) : TE := fun σ H Q => td σ H fun x H1 => ∃ a, x = .ref a ∧ IsD H1 a ∧ ty σ H1 fun y H2 => ∃ o, DGet H2 a y o ∧ Q (o.getD .non) H2
def tDGet2 (td ty tx : TE) : TE := fun σ H Q => td σ H fun x H1 => ∃ a, x = .ref a ∧ IsD H1 a ∧ ty σ H1 fun y H2 => tx σ H2 fun z H3 => ∃ o, DGet H3 a y o ∧ Q (o.getD z) H3
/-- d.pop(k): there; d.pop(k, x): there or not -/
def tDPop1 (td ty : TE) : TE := fun σ H Q => td σ H fun x H1 => ∃ a, x = .ref a ∧ IsD H1 a ∧ ty σ H1 fun y H2 => ∃ kvs k v, H2 a = some (.dK kvs) ∧ y = kV k ∧ valV kvs k = some v ∧ Q v (upd H2 a (.dK (dropK kvs k)))
def tDPop2 (td ty tx : TE) : TE := fun σ H Q => td σ H fun x H1 => ∃ a, x = .ref a ∧ IsD H1 a ∧ ty σ H1 fun y H2 => tx σ H2 fun z H3 => ∃ kvs k, H3 a = some (.dK kvs) ∧ y = kV k ∧
  (∀ v, valV kvs k = some v → Q v (upd H3 a (.dK (dropK kvs k)))) ∧ (valV kvs k = none → Q z H3)
section
variable {X : Cx} {o e f : Expr} {apos cpos : Pos} {td ty tx : TE}
end

/-! ### dict(d): a copy -/
section
variable {X : Cx} {pins : List (Addr × Obj)} {σ : St} {H : Hp} {s : Shared} {a : Addr} {kvs : List (Key × V)} {A : Around} {E : Value → Shared → Prop}
end


section
variable {X : Cx} {pins : List (Addr × Obj)} {σ : St} {H : Hp} {s : Shared} {a : Addr} {y : V} {u : Value} {A : Around} {E : Value → Shared → Prop}
end
end L2

namespace Att
open PySem PySem.W PySem.Calls PyProof.Rows

/-! ### the script -/
theorem ints_of_wellAll {P : Params} {h : Heap} : ∀ (ns : List Int) (vs : List Value), WellAll P h vs (ns.map WData.int) → IntsAre vs ns := by
  intro ns
  induction ns with
  | nil =>
    intro vs w
    rw [List.map_nil] at w
    cases w
    exact .nil
  | cons n ns ih =>
    intro vs w
    rw [List.map_cons] at w
    cases w with
    | cons a b =>
      cases a
      exact .cons _ _ (ih _ b)

theorem script_of {l : OpenLaw} {n : Nat} (hn : l.most = some n) {P : Params} {h : Heap} {args : List WData} {vals : List Value}
    (hpre : l.row.toRowW.claim.pre args = true) (hwl : WellAll P h vals args) :
    ∃ a vs ns, vals = [Value.ref a] ∧ args = [WData.list (ns.map WData.int)] ∧ h.get? a = some { cls := .type "list", data := .seq vs.toArray } ∧ IntsAre vs ns ∧ ns.length ≤ n := by
  have hsh : WShape.hasAll [] args [.list .int] = true := (pre_splitW hpre).1
  have hc : l.pre.holds [] { args := args } = true := (pre_splitW hpre).2
  obtain ⟨d, r, rfl, h1, h2⟩ := hasAllW_cons hsh
  obtain rfl := hasAllW_nil h2
  obtain ⟨xs, rfl, h3⟩ := hasW_list h1
  obtain ⟨ns, rfl⟩ := items_int h3
  have hlen : ns.length ≤ n := by
    unfold OpenLaw.pre at hc
    have h4 : (WTm.not (.lt (.lit (.int (n : Int))) (.len (.arg 0)))).holds [] { args := [.list (ns.map .int)] } = true := by
      have h4 := (holds_andW hc).1
      rw [hn] at h4
      exact h4
    have h5 := condW_of h4 (w_not (w_lt w_lit (w_len_list (w_arg rfl))))
    rw [List.length_map] at h5
    refine Nat.le_of_not_lt fun q => ?_
    have q' : (n : Int) < ((ns.length : Nat) : Int) := by omega
    first
      | (rw [decide_eq_true q'] at h5; exact absurd h5 (by decide))
      | (simp at h5; omega)
  cases hwl with
  | cons w1 w2 =>
    cases w2
    cases w1 with
    | list ho hall => exact ⟨_, _, ns, rfl, rfl, ho, ints_of_wellAll ns _ hall, hlen⟩

theorem post_true (l : OpenLaw) (args : List WData) : l.row.toRowW.claim.post args (.bool true) args = true :=
  postW_of (r := l.row.toRowW) (X := (true == true))
    (show WShape.has [] (.bool true) .bool = true by first | rfl | decide | simp [WShape.has, WShape.arms, WShape.armsAll])
    (show (WTm.eq .res (.lit (.bool true))).value [] { args := args, res := some (.bool true), after := args } = some (.bool (true == true)) from w_eq_bool (w_res rfl) w_lit) rfl

/-! ### the attachment: holds_open's last premise (the goal 'hc' behind k_head) from a wpAny of the law's body -/
/-- the same from a codeAny of the CALL (for a layer whose function contracts speak of calls) -/
theorem attach_call {l : OpenLaw} {n : Nat} {q : Program} {loose : List Str} {XP : (Str → Option Value) → Heap → Prop} {YP : World → Heap → Prop} {d : DefRec}
    (hn : l.most = some n) (hdf : d.params.defaults = [])
    (call : ∀ (w : World) (s₀ s₁ : Shared) (mg mb : Str → Option Value) (fa : Addr) (o : Obj) (pm cd doc : Value) (a : Addr) (vs : List Value) (ns : List Int),
      Ground q loose [] XP w s₀ mg mb s₁.heap → YP w s₁.heap →
      s₁.heap.get? fa = some o → o.data = .func (docDef d.name d.params d.body d.scope pm cd doc) → s₁.heap.CodeRec cd d.name → mg d.name = some (.ref fa) →
      s₁.heap.get? a = some { cls := .type "list", data := .seq vs.toArray } → IntsAre vs ns → ns.length ≤ n → s₁.gens = #[] →
      codeAny (model l.prog w) callerA (.call (.ref fa) ⟨[.ref a], []⟩) (fun r s' => r = .ok (.ret (.bool true)) ∧ OldK s₁.heap s'.heap ∧ s'.os = s₁.os ∧ AllBare s'.gens) s₁) :
    WalkO q loose XP YP l.row.toRowW d [] (fun f vs => PySem.call f vs) := by
  intro w s₀ s₁ mg mb G Y fa o pm cd doc dV kV ho hd hcd hD hmg hg args vals as hpre hlay hrd hwl hlo
  obtain rfl : dV = .none := Dflts.none hD hdf
  obtain rfl : kV = .none := Dflts.noKw hD
  obtain ⟨a, vs, ns, rfl, rfl, hobj, hints, hlen⟩ := script_of hn hpre hwl
  refine enter_call (codeAny_mono (call w s₀ s₁ mg mb fa o pm cd doc a vs ns G Y ho (fd_plain hd) hcd hmg hobj hints hlen hg) fun r s' hq => ?_)
  obtain ⟨rfl, h2, h3, h4⟩ := hq
  exact ⟨.inl ⟨.bool true, .bool true, [], rfl, fun _ => rfl, .bool true, post_true l _, fun _ => ⟨List.Pairwise.nil, fun _ hm => (nomatch hm)⟩⟩, h2, h3, h4⟩

/-! ### rules over ANY heap (no ledger) from facts about the written part K: the library's own take a ledger (News) for what they write -/
section
variable {prog : Program} {w : World} {A : Around} {E : Value → Shared → Prop} {s : Shared} {K : Frag}

/-! the whole heap as the ledger: makes every rule that writes through a ledger a rule over any heap -/
def noObjs (h : Heap) : Heap := { h with objs := #[] }
def ledger (h : Heap) (L d : Addr) : List (Addr × Obj) := (List.range h.objs.size).filterMap fun a => if a = L ∨ a = d then none else (h.get? a).map fun o => (a, o)
end
end Att

namespace L2
open PySem PySem.Spec PyProof.Rows

theorem vals_ints : ∀ {vs : List Value} {ns : List Int}, IntsAre vs ns → Vals (ns.map V.int) vs
  | _, _, .nil => .nil
  | _, _, .cons n t h => .cons ⟨t, rfl⟩ (vals_ints h)

/-- nothing is tracked but the script, known to the object (or it is an object of the module) -/
def Only (H : Hp) : Prop := ∀ b, H b = none ∨ ∃ o xs, H b = some (.frz o (.lst xs))

/-- THE HEAD: the law's promise, at the heap behind the top. F, the promise of the law's def, may use that base is part of the heap (so K.In base, base.Ns mainGlobals mg stand in Mod) -/
theorem law_call {P : Program} {w : World} {K : PySem.W.Frag} {mg mb : Str → Option Value} {CX : CXT} {k : Nat} {fa a : Addr} {fd : FuncData} {x : Str} {sp : Sp} {s₁ : Shared} {vs : List Value} {ns : List Int}
    (KX : K.In s₁.heap) (hns : s₁.heap.Ns mainGlobals mg) (hb : s₁.heap.Ns builtinsNs mb) (hbb : ∀ x : Str, x ≠ "__name__" → mb x = bootBuiltins x) (hlim : s₁.heap.NoLimit) (hg : s₁.gens = #[])
    (ha : s₁.heap.get? a = some { cls := .type "list", data := .seq vs.toArray }) (hi : IntsAre vs ns) (hl : ns.length ≤ sizeLine) (hr : Room k callerA)
    (F : ∀ base : Heap, K.In base → base.Ns mainGlobals mg → FnOk P w K mg base CX k fa fd [x] sp) (hbind : ∀ (s : Shared) (u : Value), BindsTo s fd ⟨[u], []⟩ [(x, u)])
    (hsp : ∀ H : Hp, Only H → SqL K H a (ns.map V.int) → sp [.ref a] H (fun v _ => v = .bl true) fun _ _ _ => False)
    (hCX : ∀ H e s', CX [] H s₁ (fun _ _ _ => False) e s' → False) :
    codeAny (model P w) callerA (.call (.ref fa) ⟨[.ref a], []⟩) (fun r s' => r = .ok (.ret (.bool true)) ∧ OldK s₁.heap s'.heap ∧ s'.os = s₁.os ∧ AllBare s'.gens) s₁ := by
  have rv := vals_ints hi
  have lenV := hi.length
  -- from an abstract heap in which nothing but the script may be tracked
  have core : ∀ H : Hp, Only H → SqL K H a (ns.map V.int) → HOk P w H s₁.heap → (∀ b, H b ≠ none → b = a) → (H a ≠ none → K.lookup a = none) →
      codeAny (model P w) callerA (.call (.ref fa) ⟨[.ref a], []⟩) (fun r s' => r = .ok (.ret (.bool true)) ∧ OldK s₁.heap s'.heap ∧ s'.os = s₁.os ∧ AllBare s'.gens) s₁ := by
    intro H hO hS hok hA hK
    have base_of : ∀ {b : Addr} {o : Obj}, s₁.heap.get? b = some o → H b = none → (hidT s₁.heap H).get? b = some o := fun e n => hidT_get e n
    have noA : ∀ {b : Addr} {o : Obj} {es : Array DictEntry} {ep : Nat}, s₁.heap.get? b = some o → o.data = .dict es ep → H b = none := fun {b o es ep} e d => by
      cases q : H b with
      | none => rfl
      | some u =>
        have e' : b = a := hA b (by rw [q]; simp)
        subst e'
        rw [ha] at e; cases e
        have d' : Data.seq vs.toArray _ = Data.dict es ep := d
        cases d'
    have nsK : ∀ {b : Addr} {m : Str → Option Value}, s₁.heap.Ns b m → (hidT s₁.heap H).Ns b m := fun {b m} ⟨o, es, ep, e, d, r⟩ => ⟨o, es, ep, base_of e (noA e d), d, r⟩
    have hKb : K.In (hidT s₁.heap H) := fun b o e => base_of (KX b o e) (by
      cases q : H b with
      | none => rfl
      | some u =>
        have e' : b = a := hA b (by rw [q]; simp)
        subst e'
        rw [hK (by rw [q]; simp)] at e; cases e)
    have hM : Mod K mg (hidT s₁.heap H) := ⟨hKb, nsK hns, ⟨mb, nsK hb, hbb⟩, let ⟨mc, h1, h2⟩ := hlim; ⟨mc, nsK h1, h2⟩⟩
    have e0 : Env0 P w K mg (hidT s₁.heap H) callerA [] s₁ H := ⟨rfl, hM, fun b o e => of_hidT e, Nat.le_of_eq (hidT_size _ _), trivial, fun b hb => absurd (show b ∈ ([] : List Addr) from hb) (by simp), hok, .of_eq hg⟩
    refine codeAny_mono ((F _ hKb (nsK hns)).run callerA [] s₁ H ⟨[.ref a], []⟩ [.ref a] [.ref a] _ _ hr e0 (hbind s₁ (.ref a)) (.cons rfl .nil) (hsp H hO hS)) fun r s' h => ?_
    cases r with
    | error e => exact (hCX H e s' h).elim
    | ok fl =>
      cases fl with
      | next => exact False.elim h
      | brk => exact False.elim h
      | cont => exact False.elim h
      | ret u =>
        obtain ⟨v, H', os, bare, un, hok', r', q⟩ := h
        have q' : v = .bl true := q
        subst q'
        obtain rfl : u = Value.bool true := r'
        refine ⟨rfl, OldK.of_keep fun b o e => ?_, os, bare⟩
        cases q : H b with
        | none => exact un.keep b o e q (by intro z; exact absurd (show b ∈ ([] : List Addr) from z) (by simp)) (by simp)
        | some u =>
          rcases hO b with z | ⟨ob, xs, z⟩
          · rw [q] at z; cases z
          · have z2 := un.frzs b ob _ z
            obtain ⟨e1, _⟩ := hok b _ z
            obtain ⟨e2, _⟩ := hok' b _ z2
            rw [e] at e1; cases e1
            exact e2
  cases hk : K.lookup a with
  | some o =>
    -- the script is one of the module's own objects
    have e := KX a o hk
    rw [ha] at e
    cases e
    refine core (fun _ => none) (fun _ => .inl rfl) (.inr ⟨_, vs.toArray, _, hk, rfl, rfl, rfl, by rw [List.size_toArray, lenV]; exact hl, by simpa using rv⟩) (fun b u z => by have z' : (none : Option HO) = some u := z; cases z') (fun b z => absurd rfl z) fun z => absurd rfl z
  | none =>
    refine core (fun b => if b = a then some (.frz { cls := .type "list", data := .seq vs.toArray } (.lst (ns.map V.int))) else none) (fun b => ?_) (.inl (.inr ⟨{ cls := .type "list", data := .seq vs.toArray }, if_pos rfl⟩)) (fun b u z => ?_) (fun b z => ?_) fun _ => hk
    · by_cases hb : b = a
      · exact .inr ⟨_, _, if_pos hb⟩
      · exact .inl (if_neg hb)
    · by_cases hb : b = a
      · have z' := (if_pos hb).symm.trans z
        cases z'
        subst hb
        exact ⟨ha, by rw [List.length_map]; exact hl, vs, _, rv, ha⟩
      · have z' := (if_neg hb).symm.trans z
        cases z'
    · by_cases hb : b = a
      · exact hb
      · exact absurd (if_neg hb) z
end L2

namespace L2
open PySem PySem.Spec PyProof.Rows

abbrev KOf {K : PySem.W.Frag} {h : Heap} (_ : K.In h) : PySem.W.Frag := K

/-- the goal that k_head leaves (case hc), from the law's promise. F gives the function object fd (K's own) once, then the promise over every base -/
theorem walk_of {l : PySem.W.OpenLaw} {n k : Nat} {q : Program} {loose : List Str} {XP : (Str → Option Value) → Heap → Prop} {YP : World → Heap → Prop} {d : DefRec} {K : Params → PySem.W.Frag} {CX : World → CXT} {sp : World → Sp} {x : Str}
    (hn : l.most = some n) (hn2 : n ≤ sizeLine) (hdf : d.params.defaults = []) (hr : Room k callerA)
    (hY : ∀ (w : World) (h : Heap), YP w h → (K w.params).In h)
    (F : ∀ (w : World) (mg : Str → Option Value) (fa : Addr) (h : Heap), (K w.params).In h → h.Ns mainGlobals mg → mg d.name = some (.ref fa) →
      ∃ fd : FuncData, (∀ (s : Shared) (u : Value), BindsTo s fd ⟨[u], []⟩ [(x, u)]) ∧
        ∀ base : Heap, (K w.params).In base → base.Ns mainGlobals mg → FnOk l.prog w (K w.params) mg base (CX w) k fa fd [x] (sp w))
    (hsp : ∀ (w : World) (H : Hp) (a : Addr) (ns : List Int), ns.length ≤ n → Only H → SqL (K w.params) H a (ns.map V.int) → sp w [.ref a] H (fun v _ => v = .bl true) fun _ _ _ => False)
    (hCX : ∀ (w : World) (H : Hp) (s : Shared) (e : Value) (s' : Shared), CX w [] H s (fun _ _ _ => False) e s' → False) :
    PySem.W.WalkO q loose XP YP l.row.toRowW d [] (fun f vs => PySem.call f vs) := by
  refine Att.attach_call hn hdf fun w s₀ s₁ mg mb fa o pm cd doc a vs ns G Y ho hd hcd hmg hobj hints hlen hg => ?_
  have KX := hY w _ Y
  obtain ⟨fd, hb, hF⟩ := F w mg fa _ KX G.T.g hmg
  exact law_call KX G.T.g G.T.b G.T.builtins G.T.nolimit hg hobj hints (Nat.le_trans hlen hn2) hr hF hb (fun H hO hS => hsp w H a ns hlen hO hS) fun H e s' => hCX w H s₁ e s'
end L2

/- THE LAST THEOREM (shape; LID, My.* are yours):
   My.Adr: a structure of the addresses that your layer names (classes, functions); My.Txt K t: a structure (Prop) of the equations over K;
   My.txt_mk : {K} {implicit addresses ..} (e1 : nsIn K mainGlobals "law" = some (some (.ref f))) (e2 : K.lookup f = some ⟨oc, od, .func (fnOf "law" "law" params body scope dV kV doc pm an cdv ct), sl⟩) (e3 : codeIn K cdv "law" = true) .. : ∃ t, My.Txt K t

set_option maxRecDepth 100000 in
set_option maxHeartbeats 0 in
theorem PySem.Challenge.cw_LID_holds : PySem.Challenge.rw_LID.Holds := by
  w_on; o_law; k_head; (case hw => w_witness2)
  k_fill
  refine L2.walk_of (l := PySem.Challenge.rw_LID) (n := 63) (k := 40) (x := "script") (CX := fun w => ..) (sp := fun _ => My.sp_law) rfl (by decide) rfl ⟨rfl, by decide, by decide⟩ (fun w h Y => PySem.W.kIn_of Y) ?F ?S ?C
  case F =>
    intro w mg fa h KX G hmg
    have T : ∃ t, My.Txt (L2.KOf KX) t := by
      dsimp only [L2.KOf]                          -- K must stand as «<heap const> w.params» for k_is
      refine' My.txt_mk ?e1 ?e2 ?e3 ..
      (case e1 => PySem.W.k_is)                    -- in the order: a name -> its address -> its object -> its parts
      (case e2 => PySem.W.k_is)
      ..
    obtain ⟨t, T⟩ := T
    have e0 := hmg.symm.trans (PySem.W.mg_of KX G T.law)
    cases e0                                       -- fa is the law's own address
    exact ⟨_, fun s u => .of_eq rfl, fun base kb nb => My.law_fn T kb nb⟩     -- if «.of_eq rfl» comes too early: refine' ⟨_, ?b, fun base kb nb => My.law_fn T kb nb⟩; exact fun s u => .of_eq rfl
  case S => exact fun w H a ns hl hO hS => ..
  case C => exact ..
(the tactic k_is has no namespace: write k_is) -/

/-! SHORT WORDS over the layer: a def of the text, its body, what a loop and a test want. -/
namespace L2
open PySem PySem.Spec PyProof.Rows

/-! ### the text by places -/
/-- the j-th statement of a class's body -/
def inClass (s : Stmt) (j : Nat) : Stmt := match s with
  | .ClassDef _ _ _ body _ _ _ _ _ _ _ => body.getD j (.Pass ⟨0, 0, 0, 0⟩)
  | _ => .Pass ⟨0, 0, 0, 0⟩
def defArgs (s : Stmt) : Arguments := match s with
  | .FunctionDef _ a _ _ _ _ _ _ _ _ => a
  | _ => { posonlyargs := [], args := [], vararg := none, kwonlyargs := [], kw_defaults := [], kwarg := none, defaults := [] }
def defBody (s : Stmt) : List Stmt := match s with
  | .FunctionDef _ _ b _ _ _ _ _ _ _ => b
  | _ => []
def defScope (s : Stmt) : Scope := match s with
  | .FunctionDef _ _ _ _ _ _ sc _ _ _ => sc
  | _ => { kind := .function, names := [], isGenerator := false, isCoroutine := false }

/-! ### no exception leaves a def -/
abbrev CX0 : CXT := fun _ _ _ _ _ _ => False
abbrev E0 : XK := fun _ _ _ => False
theorem pass0 {X : Cx} : Passes CX0 X E0 := fun _ _ _ _ _ _ _ h => h.elim

/-! ### a def (or method) of the text as it stands behind the top -/
structure Fun (K : PySem.W.Frag) (x qual : Str) (st : Stmt) (f : Addr) (fd : FuncData) : Prop where
  ex : ∃ (oc : Value) (od : Option Addr) (kV doc pm : Value) (an : Option Addr) (cdv ct : Value) (osl : Array (Option Value)),
    fd = PySem.W.fnOf x qual (defArgs st) (defBody st) (defScope st) .none kV doc pm an cdv ct ∧ K.lookup f = some ⟨oc, od, .func fd, osl⟩ ∧ PySem.W.codeIn K cdv qual = true
  kp : PySem.W.keepIn K (.ref f) = true
section
variable {P : Program} {w : World} {K : PySem.W.Frag} {mg : Str → Option Value} {base : Heap}
/-- THE RULE for a def: its body as a term of rules, and the reading of that term -/
theorem Fun.ok {x qual : Str} {st : Stmt} {f : Addr} {fd : FuncData} {N ps : List Str} {k : Nat} {sp : Sp} (F : Fun K x qual st f fd) (S : FnScope N ps (defScope st)) (len : ∀ vs H Q E, sp vs H Q E → vs.length = ps.length)
    (hbody : ∀ (cdv : Value) (A : Around) (outer : List Env) (s : Shared) (H : Hp) (vs : List V) (Q : VK) (E : XK), Room k (A.deeper (envOfC qual (defScope st) s.heap.objs.size f cdv)) → sp vs H Q E →
      ∃ t, PSs (cxOf CX0 P w K mg base N qual (defScope st) f cdv A outer s H E).nox (defBody st) t ∧ t { nx := fun _ H' => Q .non H', rt := Q } (start N vs) H) : FnOk P w K mg base CX0 (k + 1) f fd ps sp := by
  obtain ⟨oc, od, kV, doc, pm, an, cdv, ct, osl, rfl, lk, hcd⟩ := F.ex
  refine fn_of lk hcd S len fun A outer s H vs Q E hr hsp => ?_
  obtain ⟨t, h, q⟩ := hbody cdv A outer s H vs Q E hr hsp
  exact ⟨t, h.nox, q⟩
/-- how its arguments bind (no defaults): h is «fun _ _ _ _ _ _ us hl => match us, hl with | [_, _], _ => rfl», one _ a parameter -/
theorem Fun.binds {x qual : Str} {st : Stmt} {f : Addr} {fd : FuncData} {ps : List Str} (F : Fun K x qual st f fd)
    (h : ∀ (kV doc pm : Value) (an : Option Addr) (cdv ct : Value) (us : List Value), us.length = ps.length → bindArgs (PySem.W.fnOf x qual (defArgs st) (defBody st) (defScope st) .none kV doc pm an cdv ct) ⟨us, []⟩ = pure (ps.zip us)) : Binds K fd ps [] := by
  obtain ⟨oc, od, kV, doc, pm, an, cdv, ct, osl, rfl, lk, hcd⟩ := F.ex
  exact .all (h kV doc pm an cdv ct)
theorem fun_mk {x qual : Str} {st : Stmt} {f : Addr} {oc : Value} {od an : Option Addr} {osl : Array (Option Value)} {kV doc pm cdv ct : Value} (l : K.lookup f = some ⟨oc, od, .func (PySem.W.fnOf x qual (defArgs st) (defBody st) (defScope st) .none kV doc pm an cdv ct), osl⟩)
    (c : PySem.W.codeIn K cdv qual = true) (k : PySem.W.keepIn K (.ref f) = true) : Fun K x qual st f (PySem.W.fnOf x qual (defArgs st) (defBody st) (defScope st) .none kV doc pm an cdv ct) := ⟨⟨oc, od, kV, doc, pm, an, cdv, ct, osl, rfl, l, c⟩, k⟩
end
theorem hu_of {A : Around} {k : Nat} (hr : Room k A) : A.units + 1 < cLine := Nat.lt_of_le_of_lt (Nat.add_le_add_left (by decide : 1 ≤ 64) _) hr.units
theorem small1000 {n : Nat} (h : n ≤ 1000) : n < sizeLine := Nat.lt_of_le_of_lt h (by decide)

/-! ### expressions in short: the name that stands in the i-th slot -/
section
variable {X : Cx}
theorem pv (i : Nat) {x : Str} {pos : Pos} (hN : X.N[i]? = some x := by rfl) (hv : Vis X.env.scope x := by first | exact Or.inl rfl | exact Or.inr (Or.inl rfl) | exact Or.inr (Or.inr rfl)) (hd : (x == ("__debug__" : Str)) = false := by decide)
    (hcd : (x == ("__classdict__" : Str)) = false := by decide) : PE X (.Name x pos) (tVar i) := pe_var hN hv hd hcd
end

/-! ### tests -/
theorem iteF {A B : Prop} (h : B) : if false = true then A else B := by
  rw [if_neg Bool.false_ne_true]
  exact h
theorem iteT {A B : Prop} (h : A) : if true = true then A else B := by
  rw [if_pos rfl]
  exact h
theorem ite2 {c A B : Prop} [Decidable c] (h1 : c → A) (h2 : ¬ c → B) : if c then A else B := by
  by_cases h : c
  · rw [if_pos h]
    exact h1 h
  · rw [if_neg h]
    exact h2 h
/-! ### heaps -/
/-- all that was tracked is as it was -/
def Same (H H' : Hp) : Prop := ∀ b o, H b = some o → H' b = some o
theorem Same.refl (H : Hp) : Same H H := fun _ _ h => h
theorem Same.trans {H H1 H2 : Hp} (a : Same H H1) (b : Same H1 H2) : Same H H2 := fun c o h => b c o (a c o h)
theorem Same.free {H H' : Hp} (e : Same H H') {l : Addr} (h : H' l = Option.none) : H l = Option.none := by
  cases q : H l with
  | none => rfl
  | some o =>
    rw [e l o q] at h
    cases h
theorem Same.seq {K : PySem.W.Frag} {H H' : Hp} {a : Addr} {xs : List V} (e : Same H H') (h : SqL K H a xs) : SqL K H' a xs := by
  rcases h with (h | ⟨o, h⟩) | h
  · exact .inl (.inl (e _ _ h))
  · exact .inl (.inr ⟨o, e _ _ h⟩)
  · exact .inr h

/-! ### a dict's pairs: keys that differ -/
section
variable {κ : Type} [DecidableEq κ]
end
end L2

set_option maxHeartbeats 4000000
/-! OWN: a def of the top as one fact; small words. -/
namespace L2
open PySem PySem.Spec PyProof.Rows
structure Df (K : PySem.W.Frag) (mg : Str → Option Value) (x : Str) (st : Stmt) (ps : List Str) (f : Addr) (fd : FuncData) : Prop where
  F : Fun K x x st f fd
  b : Binds K fd ps []
  m : mg x = some (.ref f)
/-- a law's own promise: handed a list of at most 63 ints, True comes out -/
def spLaw (K : PySem.W.Frag) : Sp := fun vs H Q _ => ∃ (a : Addr) (ns : List Int), vs = [.ref a] ∧ SqL K H a (ns.map V.int) ∧ ns.length ≤ 63 ∧ ∀ H', Q (.bl true) H'
theorem Same.new {H : Hp} {l : Addr} {o : HO} (h : H l = none) : Same H (upd H l o) := fun b u e => by
  rw [upd_ne (ne_of_none e h)]
  exact e
theorem Same.tup {K : PySem.W.Frag} {H H' : Hp} {a : Addr} {xs : List V} (e : Same H H') (h : SqT K H a xs) : SqT K H' a xs := by
  rcases h with (h | ⟨o, h⟩) | h
  · exact .inl (.inl (e _ _ h))
  · exact .inl (.inr ⟨o, e _ _ h⟩)
  · exact .inr h
theorem ints_mem {ns : List Int} {x : V} (h : x ∈ ns.map V.int) : ∃ z, x = .int z := by
  obtain ⟨z, _, e⟩ := List.mem_map.mp h
  exact ⟨z, e.symm⟩
theorem iteFb {b : Bool} {A B : Prop} (hb : b = false) (h : B) : if b = true then A else B := by
  subst hb
  exact iteF h
theorem iteTb {b : Bool} {A B : Prop} (hb : b = true) (h : A) : if b = true then A else B := by
  subst hb
  exact iteT h
end L2

/-! OWN RULES beyond the hand layer, part 1: truths by 'is', isinstance by a table, comprehensions, all, sum. -/
namespace L2
open PySem PySem.Spec PyProof.Rows
section
variable {X : Cx}
/-! ### is, is not of two truths -/
def rIsB : R2 := fun x y H Q => ∃ b c, x = V.bl b ∧ y = V.bl c ∧ Q (.bl (b == c)) H
def rIsNotB : R2 := fun x y H Q => ∃ b c, x = V.bl b ∧ y = V.bl c ∧ Q (.bl (b != c)) H
/-! ### isinstance against built-in classes, by a table -/
/-- the built-in class of a value, as the abstract heap tells it -/
def tyS (H : Hp) : V → Option String
  | .non => some "NoneType"
  | .bl _ => some "bool"
  | .int _ => some "int"
  | .str _ => some "str"
  | .ref a => match H a with
    | some (.lst _) => some "list"
    | some (.frz _ (.lst _)) => some "list"
    | some (.tup _) => some "tuple"
    | some (.dK _) => some "dict"
    | some (.dT _) => some "dict"
    | _ => none
  | _ => none
theorem tyS_of {K : PySem.W.Frag} {H : Hp} {x : V} {T : String} (h : tyS H x = some T) : TyOf K H x (.type T) := by
  cases x with
  | non => cases h; exact .non
  | bl b => cases h; exact .bl b
  | int i => cases h; exact .int i
  | str z => cases h; exact .str z
  | byt b => cases h
  | flt b => cases h
  | ty n => cases h
  | ref a =>
    simp only [tyS] at h
    split at h
    · rename_i e; cases h; exact .lst e
    · rename_i e; cases h; exact .frz e
    · rename_i e; cases h; exact .tup e
    · rename_i e; cases h; exact .dK e
    · rename_i e; cases h; exact .dT e
    · cases h
/-- is a value of the class T one of the class c, of those here -/
def isiB (T c : String) : Bool := T == c || (T == "bool" && c == "int")
def tysL : List String := ["NoneType", "bool", "int", "str", "list", "tuple", "dict"]
theorem isi_table : ∀ T ∈ tysL, ∀ c ∈ tysL, (if (Value.type T == Value.type c) = true then some true else if PySem.W.kitMeta c = true then (PySem.fastBuiltinMro T).map (·.contains (.type c)) else none) = some (isiB T c) := by decide +kernel
theorem kit_isi {K : PySem.W.Frag} {T c : String} (hT : T ∈ tysL) (hc : c ∈ tysL) : PySem.W.kitOne K (.type T) (.type c) = some (isiB T c) := isi_table T hT c hc
theorem tyS_mem {H : Hp} {x : V} {T : String} (h : tyS H x = some T) : T ∈ tysL := by
  cases x with
  | non => cases h; decide
  | bl b => cases h; decide
  | int i => cases h; decide
  | str z => cases h; decide
  | byt b => cases h
  | flt b => cases h
  | ty n => cases h
  | ref a =>
    simp only [tyS] at h
    split at h <;> first | (cases h; decide) | cases h
/-- isinstance(x, c), c a built-in class of the table -/
theorem call_isi : CallR X (.builtin "isinstance") (fun xs H Q => ∃ x c T, xs = [x, .ty c] ∧ c ∈ tysL ∧ tyS H x = some T ∧ Q (.bl (isiB T c)) H) := by
  intro pins s σ H xs us Q I r h
  obtain ⟨x, c, T, rfl, hc, ht, q⟩ := h
  obtain ⟨v, w', rfl, rx, ry⟩ := vals2 r
  cases (show w' = Value.type c from ry)
  exact isinst_ok I rx (tyS_of ht) (kit_isi (tyS_mem ht) hc) fun tk => ⟨.bl (isiB T c), H, I.tok tk, rfl, q⟩
theorem kit_of {pins : List (Addr × Obj)} {σ : St} {H : Hp} {s : Shared} {x : V} {u : Value} {T : String} (I : Inv X pins σ H s) (rx : RelV x u) (h : tyS H x = some T) :
    ∃ P : Heap → Prop, PySem.W.KitX X.K u (.type T) P ∧ P s.heap ∧ u ≠ .builtin "__main__.__loader__#opaque" := by
  cases x with
  | non => cases h; cases (show u = Value.none from rx); exact ⟨_, PySem.W.kitx_none, trivial, fun z => nomatch z⟩
  | bl b => cases h; cases (show u = Value.bool b from rx); exact ⟨_, PySem.W.kitx_bool, trivial, fun z => nomatch z⟩
  | int i => cases h; obtain ⟨t, q⟩ := (show ∃ t, u = Value.int i t from rx); cases q; exact ⟨_, PySem.W.kitx_int, trivial, fun z => nomatch z⟩
  | str y => cases h; obtain ⟨t, q⟩ := (show ∃ t, u = Value.str y t from rx); cases q; exact ⟨_, PySem.W.kitx_str, trivial, fun z => nomatch z⟩
  | byt b => cases h
  | flt b => cases h
  | ty n => cases h
  | ref a =>
    cases (show u = Value.ref a from rx)
    simp only [tyS] at h
    split at h
    · rename_i xs e
      cases h
      obtain ⟨_, _, n, _, h1⟩ := (show ObjOk X.prog X.w H s.heap a (.lst xs) from I.hok a _ e)
      exact ⟨_, PySem.W.kitx_list, ⟨_, h1, rfl⟩, fun z => nomatch z⟩
    · rename_i ob xs e
      cases h
      obtain ⟨_, _, _, n, _, h1⟩ := (show ObjOk X.prog X.w H s.heap a (.frz ob (.lst xs)) from I.hok a _ e)
      exact ⟨_, PySem.W.kitx_list, ⟨_, h1, rfl⟩, fun z => nomatch z⟩
    · rename_i xs e
      cases h
      obtain ⟨_, _, _, o, h1, h2, _⟩ := (show ObjOk X.prog X.w H s.heap a (.tup xs) from I.hok a _ e)
      exact ⟨_, PySem.W.kitx_tuple, ⟨o, h1, h2⟩, fun z => nomatch z⟩
    · rename_i kvs e
      cases h
      obtain ⟨_, _, vs, _, o, es, ep, h1, h2, _⟩ := (show ObjOk X.prog X.w H s.heap a (.dK kvs) from I.hok a _ e)
      exact ⟨_, PySem.W.kitx_dict, ⟨o, h1, h2.1⟩, fun z => nomatch z⟩
    · rename_i kvs e
      cases h
      obtain ⟨_, _, xs, _, o, es, ep, h1, h2, _⟩ := (show ObjOk X.prog X.w H s.heap a (.dT kvs) from I.hok a _ e)
      exact ⟨_, PySem.W.kitx_dict, ⟨o, h1, h2.1⟩, fun z => nomatch z⟩
    · cases h
theorem vals_ty : ∀ {Ts : List String} {us : List Value}, Vals (Ts.map V.ty) us → us = Ts.map Value.type
  | [], _, .nil => rfl
  | T :: r, _, .cons q t => by
    cases (show _ = Value.type T from q)
    rw [vals_ty t]
    rfl
theorem any_isi {K : PySem.W.Frag} {T : String} (hT : T ∈ tysL) : ∀ {Ts : List String}, (∀ c ∈ Ts, c ∈ tysL) → PySem.W.kitAny K (.type T) (Ts.map Value.type) = some (Ts.any (isiB T))
  | [], _ => rfl
  | c :: r, h => by
    have e := kit_isi (K := K) hT (h c List.mem_cons_self)
    have ih := any_isi (K := K) hT fun d hd => h d (List.mem_cons_of_mem _ hd)
    rw [List.map_cons, PySem.W.kitAny, e, List.any_cons]
    cases isiB T c with
    | true => rfl
    | false => exact ih
/-- isinstance(x, (c, d, ..)), built-in classes of the table -/
theorem call_isiT : CallR X (.builtin "isinstance") (fun xs H Q => ∃ (x : V) (p : Addr) (Ts : List String) (T : String), xs = [x, .ref p] ∧ SqT X.K H p (Ts.map V.ty) ∧ (∀ c ∈ Ts, c ∈ tysL) ∧ tyS H x = some T ∧ Q (.bl (Ts.any (isiB T))) H) := by
  intro pins s σ H xs us Q I r h
  obtain ⟨x, p, Ts, T, rfl, hp, hc, ht, q⟩ := h
  obtain ⟨v, w', rfl, rx, ry⟩ := vals2 r
  cases (show w' = Value.ref p from ry)
  obtain ⟨its, rv, tp, _⟩ := I.tuple hp
  have e := vals_ty rv
  subst e
  obtain ⟨⟨oc, od, dt, sl⟩, h1, h2, n, h3⟩ := tp
  cases (show oc = Value.type "tuple" from h2)
  cases (show dt = Data.seq _ n from h3)
  obtain ⟨P, Z, pz, ne⟩ := kit_of I rx ht
  exact PySem.W.kia_tup Z I.kIn pz h1 (any_isi (tyS_mem ht) hc) ne fun tk => ⟨.bl _, H, I.tok tk, rfl, q⟩
end
end L2

/-! OWN RULES, part 2: a list comprehension of one clause, its block a context of its own. -/
namespace L2
open PySem PySem.Spec PyProof.Rows

/-! ### the closure of the block -/
theorem clos_fold {cells : List (Str × Addr)} {f : Str × NameKind → List (Str × Addr) → Sem (ForInStep (List (Str × Addr)))}
    (hf : ∀ n k r c, k = NameKind.free → cells.lookup n = some c → f (n, k) r = pure (.yield ((n, c) :: r))) (hg : ∀ n k r, k ≠ NameKind.free → f (n, k) r = pure (.yield r)) :
    ∀ (names : List (Str × NameKind)) (acc : List (Str × Addr)), (∀ y ∈ names, y.2 = .free → ∃ c, cells.lookup y.1 = some c) → (∀ x c, acc.lookup x = some c → cells.lookup x = some c) →
      ∃ cl, forIn names acc f = (pure cl : Sem _) ∧ (∀ x c, cl.lookup x = some c → cells.lookup x = some c) ∧ (∀ x c, acc.lookup x = some c → ∃ d, cl.lookup x = some d) ∧ ∀ y ∈ names, y.2 = .free → ∃ d, cl.lookup y.1 = some d
  | [], acc, _, ha => ⟨acc, by rw [List.forIn_nil], ha, fun x c e => ⟨c, e⟩, fun _ hy => nomatch hy⟩
  | (n, k) :: r, acc, hn, ha => by
    have hr : ∀ y ∈ r, y.2 = .free → ∃ c, cells.lookup y.1 = some c := fun y hy => hn y (List.mem_cons_of_mem _ hy)
    by_cases hk : k = .free
    · obtain ⟨c, hc⟩ := hn (n, k) List.mem_cons_self hk
      have ha' : ∀ x d, ((n, c) :: acc).lookup x = some d → cells.lookup x = some d := fun x d e => by
        rw [List.lookup_cons] at e
        cases hx : x == n with
        | true =>
          rw [hx] at e
          cases e
          rw [beq_iff_eq.mp hx]
          exact hc
        | false =>
          rw [hx] at e
          exact ha x d e
      obtain ⟨cl, e, h1, h2, h3⟩ := clos_fold hf hg r ((n, c) :: acc) hr ha'
      have hh : ∀ x d, acc.lookup x = some d → ∃ d', cl.lookup x = some d' := fun x d q => by
        cases hx : x == n with
        | true => exact h2 x c (by rw [List.lookup_cons, hx])
        | false => exact h2 x d (by rw [List.lookup_cons, hx]; exact q)
      refine ⟨cl, ?_, h1, hh, fun y hy e' => ?_⟩
      · rw [List.forIn_cons, hf n k acc c hk hc, pure_bind]
        exact e
      · rcases List.mem_cons.mp hy with rfl | hy
        · exact h2 n c (by rw [List.lookup_cons, beq_self_eq_true])
        · exact h3 y hy e'
    · obtain ⟨cl, e, h1, h2, h3⟩ := clos_fold hf hg r acc hr ha
      refine ⟨cl, ?_, h1, h2, fun y hy e' => ?_⟩
      · rw [List.forIn_cons, hg n k acc hk, pure_bind]
        exact e
      · rcases List.mem_cons.mp hy with rfl | hy
        · exact absurd e' hk
        · exact h3 y hy e'
theorem clos_ok {sc : Scope} {env : Env} (hfree : ∀ y ∈ sc.names, y.2 = .free → ∃ c, env.cells.lookup y.1 = some c) :
    ∃ cl : List (Str × Addr), closureFor sc env = pure cl ∧ (∀ x c, cl.lookup x = some c → env.cells.lookup x = some c) ∧ ∀ y ∈ sc.names, y.2 = .free → ∃ c, cl.lookup y.1 = some c := by
  obtain ⟨cl, e, h1, _, h3⟩ := clos_fold (cells := env.cells) (f := fun (y : Str × NameKind) r => if (y.2 == NameKind.free) = true then (do let a ← cellOf env y.1; pure (ForInStep.yield ((y.1, a) :: r))) else pure (ForInStep.yield r))
    (fun n k r c hk hc => by
      subst hk
      show (if (NameKind.free == NameKind.free) = true then (cellOf env n >>= fun a => pure (ForInStep.yield ((n, a) :: r))) else pure (ForInStep.yield r)) = _
      rw [if_pos (show (NameKind.free == NameKind.free) = true by decide)]
      have e : cellOf env n = pure c := by unfold cellOf; rw [hc]
      rw [e, pure_bind])
    (fun n k r hk => by
      show (if (k == NameKind.free) = true then (cellOf env n >>= fun a => pure (ForInStep.yield ((n, a) :: r))) else pure (ForInStep.yield r)) = _
      rw [if_neg (by simpa using hk)])
    sc.names [] hfree (fun x c q => nomatch q)
  refine ⟨cl, ?_, h1, h3⟩
  unfold closureFor
  first
    | (rw [e]; rfl)
    | (refine Eq.trans (congrArg (fun t => t >>= fun cs => pure cs) e) ?_; rw [pure_bind])
    | (simp only [bind_pure]; exact e)

theorem lookup_relabel_free {env : Env} : ∀ {names : List (Str × NameKind)} {x : Str}, names.lookup x = some .free →
    ((names.map fun (n, k) => if (k == NameKind.free && env.scope.kind == .function && env.kindOf n == some .cell) then (n, NameKind.cell) else (n, k)).lookup x = some .cell) ∨
    ((names.map fun (n, k) => if (k == NameKind.free && env.scope.kind == .function && env.kindOf n == some .cell) then (n, NameKind.cell) else (n, k)).lookup x = some .free)
  | [], _, h => by cases h
  | (n, k) :: r, x, h => by
    have ih := @lookup_relabel_free env r x
    rw [List.map_cons]
    cases hx : x == n with
    | true =>
      rw [List.lookup_cons, hx] at h
      cases h
      by_cases hc : (NameKind.free == NameKind.free && env.scope.kind == .function && env.kindOf n == some .cell) = true
      · left
        show List.lookup x ((if (NameKind.free == NameKind.free && env.scope.kind == .function && env.kindOf n == some .cell) = true then (n, NameKind.cell) else (n, NameKind.free)) :: _) = _
        rw [if_pos hc, List.lookup_cons, hx]
      · right
        show List.lookup x ((if (NameKind.free == NameKind.free && env.scope.kind == .function && env.kindOf n == some .cell) = true then (n, NameKind.cell) else (n, NameKind.free)) :: _) = _
        rw [if_neg hc, List.lookup_cons, hx]
    | false =>
      rw [List.lookup_cons, hx] at h
      have z : ∀ (y : Str × NameKind) (t : List (Str × NameKind)), y.1 = n → List.lookup x (y :: t) = List.lookup x t := fun y t e => by
        obtain ⟨y1, y2⟩ := y
        cases (show y1 = n from e)
        rw [List.lookup_cons, hx]
      rw [z _ _ (by
        show (if (k == NameKind.free && env.scope.kind == .function && env.kindOf n == some .cell) = true then (n, NameKind.cell) else (n, k)).1 = n
        split <;> rfl)]
      exact ih h
/-- what is a cell or free in the block's scope was free in the text's -/
theorem free_of_relabel {env : Env} : ∀ {names : List (Str × NameKind)} {x : Str}, (∀ y ∈ names, y.2 ≠ .cell) →
    (((names.map fun (n, k) => if (k == NameKind.free && env.scope.kind == .function && env.kindOf n == some .cell) then (n, NameKind.cell) else (n, k)).lookup x = some .cell) ∨
    ((names.map fun (n, k) => if (k == NameKind.free && env.scope.kind == .function && env.kindOf n == some .cell) then (n, NameKind.cell) else (n, k)).lookup x = some .free)) → ∃ y ∈ names, y.1 = x ∧ y.2 = .free
  | [], _, _, h => by rcases h with h | h <;> cases h
  | (n, k) :: r, x, hc, h => by
    have ih := @free_of_relabel env r x fun y hy => hc y (List.mem_cons_of_mem _ hy)
    rw [List.map_cons] at h
    cases hx : x == n with
    | true =>
      have e : x = n := beq_iff_eq.mp hx
      by_cases hk : k = .free
      · exact ⟨(n, k), List.mem_cons_self, e.symm, hk⟩
      · exfalso
        have q : (if (k == NameKind.free && env.scope.kind == .function && env.kindOf n == some .cell) = true then (n, NameKind.cell) else (n, k)) = (n, k) := by
          rw [if_neg]
          intro z
          rw [Bool.and_eq_true, Bool.and_eq_true] at z
          exact hk (by simpa using z.1.1)
        have h' : List.lookup x ((n, k) :: (r.map fun (n, k) => if (k == NameKind.free && env.scope.kind == .function && env.kindOf n == some .cell) then (n, NameKind.cell) else (n, k))) = some .cell ∨
            List.lookup x ((n, k) :: (r.map fun (n, k) => if (k == NameKind.free && env.scope.kind == .function && env.kindOf n == some .cell) then (n, NameKind.cell) else (n, k))) = some .free := by
          rw [← q]
          exact h
        rw [List.lookup_cons, hx] at h'
        rcases h' with z | z
        · exact hc (n, k) List.mem_cons_self (Option.some.inj z)
        · exact hk (Option.some.inj z)
    | false =>
      have z : ∀ (y : Str × NameKind) (t : List (Str × NameKind)), y.1 = n → List.lookup x (y :: t) = List.lookup x t := fun y t e => by
        obtain ⟨y1, y2⟩ := y
        cases (show y1 = n from e)
        rw [List.lookup_cons, hx]
      rw [z _ _ (by
        show (if (k == NameKind.free && env.scope.kind == .function && env.kindOf n == some .cell) = true then (n, NameKind.cell) else (n, k)).1 = n
        split <;> rfl)] at h
      obtain ⟨y, hy, e⟩ := ih h
      exact ⟨y, List.mem_cons_of_mem _ hy, e⟩

/-! ### the block's context -/
/-- its names: its own locals, then the names at the places ix of the def -/
def blkN (X : Cx) (locs : List Str) (ix : List Nat) : List Str := locs ++ ix.map fun i => X.N.getD i Str.empty
def blkS (k : Nat) (ix : List Nat) (σ : St) : St := List.replicate k none ++ ix.map fun i => (σ[i]?).join
abbrev cxC (X : Cx) (sc : Scope) (cl : List (Str × Addr)) (C : Addr) (N : List Str) (fp : List Addr) (s2 : Shared) (H2 : Hp) (pn : List (Addr × Obj)) : Cx :=
  { X with N := N, s₀ := s2, H₀ := H2, env := compEnvC sc cl C X.env, outer := X.stack, ex := fp, fn := fun _ => false, pn := pn, xe := fun _ _ => False }
/-- what of the text a comprehension's scope must have: no cells of its own, each free name a cell of the def's, its locals as they are looked up -/
structure BlkSc (X : Cx) (sc : Scope) (locs : List Str) (ix : List Nat) : Prop where
  kind : sc.kind = .function
  cell : ∀ y ∈ sc.names, y.2 ≠ .cell
  free : ∀ y ∈ sc.names, y.2 = .free → X.env.kindOf y.1 = some .cell ∨ X.env.kindOf y.1 = some .free
  names : ∀ y ∈ sc.names, y.2 = .local → sc.names.lookup y.1 = some .local
  fr : ∀ i ∈ ix, ∃ x, X.N[i]? = some x ∧ sc.names.lookup x = some .free

section
variable {X : Cx} {pins : List (Addr × Obj)} {σ : St} {H2 : Hp} {s2 : Shared} {sc : Scope} {cl : List (Str × Addr)} {locs : List Str} {ix : List Nat} {fp : List Addr}
theorem mem_of_lookup' {names : List (Str × NameKind)} {x : Str} {k : NameKind} : names.lookup x = some k → (x, k) ∈ names := by
  induction names with
  | nil => intro h; cases h
  | cons y r ih =>
    obtain ⟨n, j⟩ := y
    intro h
    rw [List.lookup_cons] at h
    cases hx : x == n with
    | true =>
      rw [hx] at h
      cases h
      rw [beq_iff_eq.mp hx]
      exact List.mem_cons_self
    | false =>
      rw [hx] at h
      exact List.mem_cons_of_mem _ (ih h)
theorem blk_ok (I : Inv X pins σ H2 s2) (B : BlkSc X sc locs ix) (hcl : ∀ x c, cl.lookup x = some c → X.env.cells.lookup x = some c) (hcl' : ∀ y ∈ sc.names, y.2 = .free → ∃ c, cl.lookup y.1 = some c)
    (hf : ∀ b ∈ fp, FpOk X pins H2 b) {C : Addr} (hC : s2.heap.objs.size ≤ C) (hfC : ∀ b ∈ fp, b ≠ C) {N : List Str} {pn : List (Addr × Obj)} : (cxC X sc cl C N fp s2 H2 pn).Ok where
  mod := I.ok.mod
  kind := B.kind
  glob := I.ok.glob
  blt := I.ok.blt
  above := hC
  inj := fun x y c h1 h2 => I.ok.inj x y c (hcl x c h1) (hcl y c h2)
  has := fun x h => by
    obtain ⟨y, hy, e, hk⟩ := free_of_relabel (env := X.env) B.cell h
    subst e
    exact hcl' y hy hk
  cab := fun x c h _ => nomatch h
  hd := I.ok.hd
  frames := I.ok.frames
  stk := .inl rfl
  exf := fun b hb => ⟨hfC b hb, fun x c e => (hf b hb).2.2.2.2.1 x c (hcl x c e)⟩
  bs := fun b o e => I.bs b o e
  bsz := Nat.le_trans I.ok.bsz I.sz
  noex := fun b o e hb => by
    obtain ⟨_, _, _, h4, _⟩ := hf b hb
    rcases h4 with h | h
    · exact I.ok.noex b o e h
    · exact absurd (Nat.lt_of_lt_of_le (Nat.lt_of_lt_of_le (Heap.lt_size e) I.ok.bsz) h) (Nat.lt_irrefl _)
  exfs := fun b hb z => by
    obtain ⟨_, h2, h3, _⟩ := hf b hb
    rcases List.mem_cons.mp (I.stkSub b z) with e | e
    · exact h2 e
    · exact h3 e
  funs := I.stack
  frf := I.stkFree
/-- the block begins -/
theorem blk_start (I : Inv X pins σ H2 s2) (B : BlkSc X sc locs ix) (hcl : ∀ x c, cl.lookup x = some c → X.env.cells.lookup x = some c) (hcl' : ∀ y ∈ sc.names, y.2 = .free → ∃ c, cl.lookup y.1 = some c)
    (hf : ∀ b ∈ fp, FpOk X pins H2 b) (hfl : ∀ b ∈ fp, b < s2.heap.objs.size) {h1 : Heap} {tk : Nat} {m0 : Str → Option Value} {D C : Addr} {oD : Obj} (hD : s2.heap.objs.size ≤ D) (hC : s2.heap.objs.size ≤ C) (hDC : D ≠ C)
    (old : ∀ b o, s2.heap.get? b = some o → h1.get? b = some o) (ns : h1.Ns C m0) (gD : h1.get? D = some oD) (dD : ∀ v, oD.data ≠ .cell v) :
    Inv (cxC X sc cl C (blkN X locs ix) fp s2 H2 (X.pn ++ pins)) [(D, oD)] (blkS locs.length ix σ) H2 { s2 with heap := h1, toks := tk } := by
  have low : ∀ b o, s2.heap.get? b = some o → b < s2.heap.objs.size := fun b o e => Heap.lt_size e
  have nst : ∀ b, s2.heap.objs.size ≤ b → b ∉ frs X.stack := fun b hb z => by
    obtain ⟨_, o, ho, _⟩ := I.stack.mem z
    exact absurd (Nat.lt_of_lt_of_le (low b o ho) hb) (Nat.lt_irrefl _)
  refine ⟨blk_ok I B hcl hcl' hf hC fun b hb => Nat.ne_of_lt (Nat.lt_of_lt_of_le (hfl b hb) hC), rfl, I.bare, Un.kept old, ⟨m0, ns, fun i x v e1 e2 e3 => ?_⟩, fun x c e => ?_, I.hok.fresh hC, fun x c e => I.freeC x c (hcl x c e), fun p hp => ?_, I.hok.kept old, ?_⟩
  · have e2' : (blkS locs.length ix σ)[i]? = some (some v) := e2
    have e1' : (blkN X locs ix)[i]? = some x := e1
    unfold blkS at e2'
    unfold blkN at e1'
    by_cases hi : i < locs.length
    · rw [List.getElem?_append_left (by rw [List.length_replicate]; exact hi), List.getElem?_replicate, if_pos hi] at e2'
      cases e2'
    · rw [List.getElem?_append_right (by rw [List.length_replicate]; omega), List.length_replicate, List.getElem?_map] at e2'
      rw [List.getElem?_append_right (by omega), List.getElem?_map] at e1'
      cases hj : ix[i - locs.length]? with
      | none =>
        rw [hj] at e2'
        cases e2'
      | some j =>
        rw [hj] at e2' e1'
        have e4 : (σ[j]?).join = some v := Option.some.inj e2'
        have e5 : X.N.getD j Str.empty = x := Option.some.inj e1'
        obtain ⟨x', hx', hfree⟩ := B.fr j (List.mem_of_getElem? hj)
        have e6 : x' = x := by
          rw [← e5, List.getD_eq_getElem?_getD, hx']
          rfl
        subst e6
        have e7 : σ[j]? = some (some v) := by
          cases hs : σ[j]? with
          | none => rw [hs] at e4; cases e4
          | some o =>
            rw [hs] at e4
            cases o with
            | none => cases e4
            | some w => cases e4; rfl
        have hk := B.free (x', .free) (mem_of_lookup' hfree) rfl
        obtain ⟨m, _, hl⟩ := I.loc
        obtain ⟨u, r, l⟩ := hl j x' v hx' e7 (hk.elim (fun z => .inr (.inl z)) fun z => .inr (.inr z))
        refine ⟨u, r, .inr ⟨lookup_relabel_free (env := X.env) hfree, ?_⟩⟩
        obtain ⟨c, hc⟩ := hcl' (x', .free) (mem_of_lookup' hfree) rfl
        rcases l with ⟨k, _⟩ | ⟨_, c', hc', z⟩
        · rcases hk with hk | hk
          · rw [hk] at k; cases k
          · rw [hk] at k; cases k
        · have q := hcl x' c hc
          rw [hc'] at q
          cases q
          obtain ⟨o, ho, hd⟩ := z
          exact ⟨_, hc, o, old _ _ ho, hd⟩
  · obtain ⟨v, o, ho, hd⟩ := I.cell x c (hcl x c e)
    exact ⟨v, o, old _ _ ho, hd⟩
  · rcases List.mem_append.mp hp with hp | hp
    · obtain ⟨e, n, ne, nf, d⟩ := I.pin p hp
      refine ⟨old _ _ e, n, Nat.ne_of_lt (Nat.lt_of_lt_of_le (low _ _ e) hC), fun z => ?_, d⟩
      rcases List.mem_cons.mp (I.stkSub p.1 z) with q | q
      · exact ne q
      · exact nf q
    · have e : p = (D, oD) := by simpa using hp
      subst e
      exact ⟨gD, I.hok.fresh hD, hDC, nst D hD, dD⟩
  · show (blkS locs.length ix σ).length = (blkN X locs ix).length
    unfold blkS blkN
    rw [List.length_append, List.length_append, List.length_replicate, List.length_map, List.length_map]
/-- the block has ended: the list is tracked -/
theorem blk_back {N : List Str} {pn : List (Addr × Obj)} {C D : Addr} {s' : Shared} {σ' : St} {H' : Hp} {ys : List V} {its : List Value} {n : Nat} (I : Inv X pins σ H2 s2) (hf : ∀ b ∈ fp, FpOk X pins H2 b) (hD : s2.heap.objs.size ≤ D)
    (I' : Inv (cxC X sc cl C N fp s2 H2 pn) [(D, { cls := .type "list", data := .seq its.toArray n })] σ' H' s') (hv : Vals ys its) (hz : ys.length ≤ sizeLine) : H' D = none ∧ Inv X pins σ (upd H' D (.lst ys)) s' := by
  obtain ⟨gD, nD, _⟩ := I'.pin (D, { cls := .type "list", data := .seq its.toArray n }) (List.mem_append_right _ List.mem_cons_self)
  have low : ∀ b o, s2.heap.get? b = some o → b ≠ D := fun b o e => Nat.ne_of_lt (Nat.lt_of_lt_of_le (Heap.lt_size e) hD)
  have lowH : ∀ b o, H2 b = some o → b ≠ D := fun b o e => Nat.ne_of_lt (Nat.lt_of_lt_of_le (I.hok.lt e) hD)
  have U : Un (frs X.stack) fp H2 H' s2.heap s'.heap := I'.base
  refine ⟨nD, I.call' (ch := fp) I'.os ⟨U.keep, U.slot, fun b o e hn hx => ?_, U.there, fun b xs e => ?_, fun b o u e => ?_, fun b ps e => ?_⟩ (fun b u e => ?_) I'.bare fun b hb => ?_⟩
  · rw [upd_ne (low b o e)]
    exact U.free b o e hn hx
  · rw [upd_ne (lowH b _ e)]
    exact U.tups b xs e
  · rw [upd_ne (lowH b _ e)]
    exact U.frzs b o u e
  · rw [upd_ne (lowH b _ e)]
    exact U.tbls b ps e
  · by_cases hb : b = D
    · subst hb
      rw [upd_same] at e
      cases e
      exact ⟨hz, its, n, hv, gD⟩
    · rw [upd_ne hb] at e
      exact (I'.hok b u e).stay (fun _ _ _ q => q) (fun c q => by rw [upd_ne (ne_of_none q nD)]; exact q) fun c xs q => by rw [upd_ne (ne_of_none q nD)]; exact q
  · obtain ⟨_, f1, _, f3, f4, f5⟩ := hf b hb
    exact ⟨f3, f1, f4, f5⟩
end

/-! ### the loop -/
section
variable {prog : Program} {w : World} {A : Around} {R : Result → Shared → Prop} {s : Shared}
theorem comp_loop {elt tgt src : Expr} {tests : List Expr} {sc : Scope} {p : Pos} {itv acc : Value} {ev : Env} (J : Nat → Shared → Prop)
    (turn : ∀ n s, J n s → wpAny (model prog w) A (pyNext itv) (fun r s1 => match r with
      | none => R (.ok .next) s1
      | some v => wpAny (model prog w) A (letOwnedTupleGo tgt itv v) (fun _ s2 => wpAny (model prog w) A (assign tgt ev v) (fun _ s3 =>
          wpAny (model prog w) A (forIn tests true fun c r => if r = true then do let ok ← isTrue c ev (eval c ev); pure (ForInStep.yield ok) else pure (ForInStep.yield r)) (fun ok s4 =>
            if ok = true then wpAny (model prog w) A (eval elt ev) (fun x s5 => wpAny (model prog w) A (call (.builtin "list.append") [acc, x]) (fun _ s6 => ∃ m, m < n ∧ J m s6) (fun _ _ => False) s5) (fun _ _ => False) s4
            else ∃ m, m < n ∧ J m s4) (fun _ _ => False) s3) (fun _ _ => False) s2) (fun _ _ => False) s1) (fun _ _ => False) s)
    (n : Nat) (h : J n s) : codeAny (model prog w) A (.compLoop (.ListComp elt [⟨tgt, src, tests, 0⟩] sc p) 0 itv acc ev) R s := by
  refine codeAny_loop rfl J (fun n s hJ => ?_) n h
  show wpAny _ A ((compTurn (.ListComp elt [⟨tgt, src, tests, 0⟩] sc p) 0 itv acc ev).onRaise (fun x => do noteFrame x ev; theTreesLotGoes x)) _ _ s
  refine wpAny_noted (wpAny_noRaise ?_)
  rw [compTurn_list]
  refine wpAny_bind (wpAny_standAt (wpAny_bind (thn (turn n s hJ) fun r s1 h1 => ?_)))
  cases r with
  | none => exact wpAny_pure h1
  | some v =>
    refine wpAny_bind (thn h1 fun _ s2 h2 => wpAny_bind (thn h2 fun _ s3 h3 => wpAny_bind (thn h3 fun ok s4 h4 => ?_)))
    cases ok with
    | false => exact wpAny_pure ⟨rfl, h4⟩
    | true => exact wpAny_bind (wpAny_bind (thn h4 fun x s5 h5 => wpAny_bind (thn h5 fun _ s6 h6 => wpAny_pure (wpAny_pure ⟨rfl, h6⟩))))
end

/-! ### the rules -/
/-- the tests of a clause -/
def PTs (X : Cx) (tests : List Expr) (t : TT) : Prop :=
  ∀ (pins : List (Addr × Obj)) (s : Shared) (σ : St) (H : Hp) (Q : Bool → Hp → Prop), Inv X pins σ H s → t σ H Q →
    wpAny (model X.prog X.w) X.A (forIn tests true fun c r => if r = true then do let ok ← isTrue c X.env (eval c X.env); pure (ForInStep.yield ok) else pure (ForInStep.yield r)) (TP X pins σ Q) X.xe s
def tYes : TT := fun _ H Q => Q true H
theorem pts_nil {X : Cx} : PTs X [] tYes := fun _ _ _ H _ I h => wpAny_tests_nil ⟨H, I, h⟩
/-- what the block is to do: W by the turn, a measure, the block's names, the list so far -/
def CompW (J : It) (g : TG) (tt : TT) (te : TE) (Fin : List V → Hp → Prop) (W : Nat → Nat → St → List V → Hp → Prop) : Prop :=
  ∀ i m σ ys H, W i m σ ys H → (J.stop i H ∧ ys.length ≤ sizeLine ∧ Fin ys H) ∨
    (J.go i H ∧ ys.length < sizeLine ∧ ∀ x H', J.yld i H x H' → g x σ H' fun σ2 H2 => tt σ2 H2 fun b H3 => if b = true then te σ2 H3 fun y H4 => ∃ m', m' < m ∧ W (i + 1) m' σ2 (ys ++ [y]) H4 else ∃ m', m' < m ∧ W (i + 1) m' σ2 ys H3)
def tComp (wi : TI) (k : Nat) (ix : List Nat) (g : TG) (tt : TT) (te : TE) : TE := fun σ H Q => wi σ H fun J H1 =>
  ∃ W : Nat → Nat → St → List V → Hp → Prop, (∃ m, W 0 m (blkS k ix σ) [] H1) ∧ CompW J g tt te (fun ys H => ∀ l, H l = none → Q (.ref l) (upd H l (.lst ys))) W
section
variable {X : Cx} {elt tgt iter : Expr} {tests : List Expr} {sc : Scope} {pos : Pos} {locs : List Str} {ix : List Nat} {wi : TI} {g : TG} {tt : TT} {te : TE}
theorem comp_block {pins : List (Addr × Obj)} {σ : St} {H2 : Hp} {s2 : Shared} {cl : List (Str × Addr)} {fp : List Addr} {it : Addr} {tn : Nat → Heap → Prop} {J : It} {W : Nat → Nat → St → List V → Hp → Prop} {Fin : List V → Hp → Prop} {RR : Value → Addr → Result → Shared → Prop} {m0 : Nat} {E : Value → Shared → Prop}
    (hc : X.calm = true) (B : BlkSc X sc locs ix)
    (hg : ∀ cl C fp s2 H2 pn, PG (cxC X sc cl C (blkN X locs ix) fp s2 H2 pn) tgt g) (ht : ∀ cl C fp s2 H2 pn, PTs (cxC X sc cl C (blkN X locs ix) fp s2 H2 pn) tests tt) (he : ∀ cl C fp s2 H2 pn, PE (cxC X sc cl C (blkN X locs ix) fp s2 H2 pn) elt te)
    (I : Inv X pins σ H2 s2) (T : Turn X.prog X.w X.K tgt J fp it tn) (st2 : tn 0 s2.heap) (hf : ∀ b ∈ fp, FpOk X pins H2 b)
    (hcl : ∀ x c, cl.lookup x = some c → X.env.cells.lookup x = some c) (hcl' : ∀ y ∈ sc.names, y.2 = .free → ∃ c, cl.lookup y.1 = some c)
    (w0 : W 0 m0 (blkS locs.length ix σ) [] H2) (turn : CompW J g tt te Fin W)
    (hR : ∀ D C s' H' ys m, H' D = none → s2.heap.objs.size ≤ C → H' C = none → C ≠ D → Inv X pins σ (upd H' D (.lst ys)) s' → Fin ys H' → s'.heap.Ns C m → RR (.ref D) C (.ok .next) s') :
    wpAny (model X.prog X.w) X.A (newList []) (fun acc s₃ => wpAny (model X.prog X.w) X.A (newFunctionEnv sc X.env.globals cl [] X.env.qual none .none (some X.env)) (fun cenv s₄ =>
      codeAny (model X.prog X.w) X.A (.compStart (.ListComp elt [⟨tgt, iter, tests, 0⟩] sc pos) 0 (.ref it) acc { cenv with scope := relabel sc X.env }) (RR acc cenv.locals) s₄) E s₃) E s2 := by
  refine wpAny_newObj_type (wpAny_newFunctionEnv B.cell (by intro y hy; cases hy) (fun h1 ns1 sb1 => ?_) B.kind)
  dsimp only at ns1 sb1 ⊢
  generalize eH : s2.heap.push { cls := .type "list", dict := none, data := .seq ([] : List Value).toArray } = G at ns1 sb1 ⊢
  have zG : G.objs.size = s2.heap.objs.size + 1 := by rw [← eH, Heap.size_push]
  have hDC : s2.heap.objs.size ≠ G.objs.size := by omega
  have old : ∀ b o, s2.heap.get? b = some o → h1.get? b = some o := fun b o e => sb1.extBut b o (Nat.ne_of_lt (Nat.lt_of_lt_of_le (Heap.lt_size e) (by omega))) (Heap.get?_push_of_some _ (eH ▸ Heap.get?_push_of_some _ e))
  have gD : h1.get? s2.heap.objs.size = some { cls := .type "list", data := .seq ([] : List Value).toArray 0 } := sb1.extBut _ _ hDC (Heap.get?_push_of_some _ (eH ▸ Heap.get?_push_size _ rfl))
  have hfl : ∀ b ∈ fp, b < s2.heap.objs.size := fun b hb => by
    obtain ⟨o, e, _⟩ := T.obj 0 s2.heap st2 b hb
    exact Heap.lt_size e
  have Y := fun tk => blk_start (tk := tk) (locs := locs) I B hcl hcl' hf hfl (Nat.le_refl _) (by omega : s2.heap.objs.size ≤ G.objs.size) hDC old ns1 gD (fun v z => by cases z)
  have st1 : tn 0 h1 := T.keep 0 _ _ st2 fun b _ o e => old b o e
  -- what stays true of the iterator's records
  have stat : ∀ {oD : Obj} {H' : Hp}, (∀ b ∈ fp, H' b = none) → ∀ b ∈ fp, FpOk (cxC X sc cl G.objs.size (blkN X locs ix) fp s2 H2 (X.pn ++ pins)) [(s2.heap.objs.size, oD)] H' b := fun {oD H'} hn b hb => by
    obtain ⟨_, f1, f2, _, f4, f5⟩ := hf b hb
    refine ⟨hn b hb, Nat.ne_of_lt (Nat.lt_of_lt_of_le (hfl b hb) (by show s2.heap.objs.size ≤ G.objs.size; omega)), fun z => ?_, .inl hb, fun x c e => f4 x c (hcl x c e), fun p hp => ?_⟩
    · rcases List.mem_cons.mp (I.stkSub b z) with q | q
      · exact f1 q
      · exact f2 q
    · rcases List.mem_append.mp hp with hp | hp
      · exact f5 p hp
      · have e : p = (s2.heap.objs.size, oD) := by simpa using hp
        rw [e]
        exact Nat.ne_of_gt (hfl b hb)
  have loop : ∀ tk, codeAny (model X.prog X.w) X.A (.compLoop (.ListComp elt [⟨tgt, iter, tests, 0⟩] sc pos) 0 (.ref it) (.ref s2.heap.objs.size) (compEnvC sc cl G.objs.size X.env)) (RR (.ref s2.heap.objs.size) G.objs.size) { s2 with heap := h1, toks := tk } := by
    intro tk
    refine comp_loop (fun n s => ∃ i σ' ys its nn H', Inv (cxC X sc cl G.objs.size (blkN X locs ix) fp s2 H2 (X.pn ++ pins)) [(s2.heap.objs.size, { cls := .type "list", data := .seq (List.toArray its) nn })] σ' H' s ∧ tn i s.heap ∧ (∀ b ∈ fp, H' b = none) ∧ Vals ys its ∧ W i n σ' ys H') ?_ m0
      ⟨0, _, [], [], 0, H2, Y tk, st1, fun b hb => (hf b hb).1, .nil, w0⟩
    rintro n s ⟨i, σ', ys, its, nn, H', I1, st, fr, hv, hw⟩
    rcases turn i n σ' ys H' hw with ⟨stop, hz, fin⟩ | ⟨go, hz, step⟩
    · refine thn (T.done (cxC X sc cl G.objs.size (blkN X locs ix) fp s2 H2 (X.pn ++ pins)) rfl rfl rfl hc i _ s σ' H' (fun _ _ => False) I1 (stat fr) st stop) fun r s1 ⟨er, I2⟩ => ?_
      subst er
      obtain ⟨nD, I3⟩ := blk_back I hf (Nat.le_refl _) I2 hv hz
      obtain ⟨m, ns, _⟩ := I2.loc
      exact hR _ _ s1 H' ys m nD (by omega) I2.free (Ne.symm hDC) I3 fin ns
    · refine thn (T.item (cxC X sc cl G.objs.size (blkN X locs ix) fp s2 H2 (X.pn ++ pins)) rfl rfl rfl hc i _ s σ' H' (fun _ _ => False) I1 (stat fr) st go) fun r s3 ⟨u, er, h3⟩ => ?_
      subst er
      refine thn h3 fun _ s5 ⟨x, H5, I5, r5, y5, st5, fr5⟩ => ?_
      have I5' := I5.pinned (stat fr5) (T.obj _ _ st5)
      refine thn (hg cl G.objs.size fp s2 H2 (X.pn ++ pins) _ s5 σ' H5 x u _ I5' r5 (step x H5 y5)) fun _ s6 ⟨σ6, H6, I6, q6⟩ => ?_
      refine thn (ht cl G.objs.size fp s2 H2 (X.pn ++ pins) _ s6 σ6 H6 _ I6 q6) fun b s7 ⟨H7, I7, q7⟩ => ?_
      have tn7 : ∀ {s' : Shared} {σ'' : St} {H'' : Hp}, Inv (cxC X sc cl G.objs.size (blkN X locs ix) fp s2 H2 (X.pn ++ pins)) ([(s2.heap.objs.size, { cls := .type "list", data := .seq (List.toArray its) nn })] ++ pinsAt fp s5.heap) σ'' H'' s' → tn (i + 1) s'.heap ∧ ∀ b ∈ fp, H'' b = none := fun J => by
        refine ⟨T.keep _ _ _ st5 fun b hb o e => (J.pin (b, o) (List.mem_append_right _ (List.mem_append_right _ (mem_pinsAt hb e)))).1, fun b hb => ?_⟩
        obtain ⟨o, e, d⟩ := T.obj _ _ st5 b hb
        exact (J.pin (b, o) (List.mem_append_right _ (List.mem_append_right _ (mem_pinsAt hb e)))).2.1
      cases b with
      | false =>
        obtain ⟨m', hm, w'⟩ := q7
        exact ⟨m', hm, i + 1, σ6, ys, its, nn, H7, I7.unpinned, (tn7 I7).1, (tn7 I7).2, hv, w'⟩
      | true =>
        refine thn (he cl G.objs.size fp s2 H2 (X.pn ++ pins) _ s7 σ6 H7 _ I7 q7) fun y s8 ⟨yv, H8, I8, r8, q8⟩ => ?_
        obtain ⟨m', hm, w'⟩ := q8
        obtain ⟨gD8, nD8, _⟩ := I8.pin (s2.heap.objs.size, { cls := .type "list", data := .seq (List.toArray its) nn }) (List.mem_append_right _ (List.mem_append_left _ List.mem_cons_self))
        have hl := hv.length
        refine append_at (hsz := by rw [List.size_toArray]; omega) gD8 fun h9 sb9 gD9 => ?_
        -- the list is ours: it turns, then it is pinned again
        have Iu : Inv (cxC X sc cl G.objs.size (blkN X locs ix) fp s2 H2 (X.pn ++ pins)) [] σ6 H8 s8 := I8.pins_of fun p hp => nomatch hp
        have It : Inv (cxC X sc cl G.objs.size (blkN X locs ix) fp s2 H2 (X.pn ++ pins)) [] σ6 H8 { s8 with heap := h9, toks := s8.toks } := Iu.turned (fun b o hb e => (sb9.2 b hb).trans e) nD8 hDC (.inr (Nat.le_refl _))
          (fun x c e => by
            obtain ⟨v, o, ho, _⟩ := I.cell x c (hcl x c e)
            exact Nat.ne_of_lt (Heap.lt_size ho))
          (fun p hp => by
            rcases List.mem_append.mp hp with hp | hp
            · exact Nat.ne_of_lt (Heap.lt_size (I.pin p hp).1)
            · cases hp)
        have gD9' : h9.get? s2.heap.objs.size = some { cls := .type "list", data := .seq (its ++ [y]).toArray (nn + 1) } := by
          rw [gD9, List.push_toArray]
        have In : Inv (cxC X sc cl G.objs.size (blkN X locs ix) fp s2 H2 (X.pn ++ pins)) [(s2.heap.objs.size, { cls := .type "list", data := .seq (its ++ [y]).toArray (nn + 1) })] σ6 H8 { s8 with heap := h9, toks := s8.toks } := It.pins_of fun p hp => by
          have e : p = (s2.heap.objs.size, { cls := .type "list", data := .seq (its ++ [y]).toArray (nn + 1) }) := by simpa using hp
          subst e
          refine ⟨gD9', nD8, hDC, fun z => ?_, fun v z => by cases z⟩
          obtain ⟨_, o, ho, _⟩ := I.stack.mem z
          exact absurd (Heap.lt_size ho) (Nat.lt_irrefl _)
        refine ⟨m', hm, i + 1, σ6, ys ++ [yv], its ++ [y], nn + 1, H8, In, ?_, (tn7 I8).2, Vals.append hv (.cons r8 .nil), w'⟩
        exact T.keep _ _ _ (tn7 I8).1 fun b hb o e => (sb9.2 b (Nat.ne_of_lt (hfl b hb))).trans e
  exact codeAny_compStart_list (loop _) (T.self X.A 0 _ _ _ st1 (loop _))
/-- [elt for tgt in iter if tests] as a value -/
theorem pe_comp (hc : X.calm = true) (B : BlkSc X sc locs ix) (hi : PI X tgt iter wi)
    (hg : ∀ cl C fp s2 H2 pn, PG (cxC X sc cl C (blkN X locs ix) fp s2 H2 pn) tgt g) (ht : ∀ cl C fp s2 H2 pn, PTs (cxC X sc cl C (blkN X locs ix) fp s2 H2 pn) tests tt) (he : ∀ cl C fp s2 H2 pn, PE (cxC X sc cl C (blkN X locs ix) fp s2 H2 pn) elt te)
    (hs : ∀ x, foldedSetIterable iter X.env x = pure x := by intro _; rfl) : PE X (.ListComp elt [⟨tgt, iter, tests, 0⟩] sc pos) (tComp wi locs.length ix g tt te) := by
  intro pins s σ H Q I h
  obtain ⟨cl, ecl, hcl, hcl'⟩ := clos_ok (sc := sc) (env := X.env) fun y hy hk => I.ok.has y.1 (B.free y hy hk)
  rw [eval_ListComp]
  refine wpAny_comprehension_free (use := none) rfl hs ecl B.kind B.names ?_
  refine thn (hi pins s σ H _ I h) fun v s1 h1 => thn h1 fun itv s2 h2 => ?_
  obtain ⟨it, fp, tn, J, H2, e, I2, T, st2, f2, W, ⟨m0, w0⟩, turn⟩ := h2
  subst e
  refine comp_block (iter := iter) (pos := pos) (RR := fun acc C => compPost (model X.prog X.w) X.A X.xe none (EP X pins σ Q) acc C) hc B hg ht he I2 T st2 f2 hcl hcl' w0 turn ?_
  intro D C s' H' ys m nD hC nC hCD I3 fin ns
  refine ⟨m, ns, fun h' hs' => ⟨.ref D, _, I3.turned (t' := s'.toks) (fun b o hb e => (hs'.2 b hb).trans e) (by rw [upd_ne hCD]; exact nC) (Nat.ne_of_gt (Nat.lt_of_lt_of_le I2.lt hC)) (.inr (Nat.le_trans I2.sz hC)) (fun x c e => ?_) (fun p hp => Nat.ne_of_lt (Nat.lt_of_lt_of_le (Heap.lt_size (I2.pin p hp).1) hC)), rfl, fin D nD⟩⟩
  obtain ⟨v, o, ho, _⟩ := I2.cell x c e
  exact Nat.ne_of_lt (Nat.lt_of_lt_of_le (Heap.lt_size ho) hC)
/-- name = [elt for tgt in iter if tests], where the store comes ahead of the block's end -/
def sComp (i : Nat) (wi : TI) (k : Nat) (ix : List Nat) (g : TG) (tt : TT) (te : TE) : TS := fun D σ H => wi σ H fun J H1 =>
  ∃ W : Nat → Nat → St → List V → Hp → Prop, (∃ m, W 0 m (blkS k ix σ) [] H1) ∧ CompW J g tt te (fun ys H => ∀ l, H l = none → D.nx (σ.set i (some (.ref l))) (upd H l (.lst ys))) W
theorem ps_comp {i : Nat} {y : Str} {py spos : Pos} (hc : X.calm = true) (hN : X.N.Nodup) (hiy : X.N[i]? = some y) (hy : X.env.scope.names.lookup y = some .local) (B : BlkSc X sc locs ix) (hi : PI X tgt iter wi)
    (hg : ∀ cl C fp s2 H2 pn, PG (cxC X sc cl C (blkN X locs ix) fp s2 H2 pn) tgt g) (ht : ∀ cl C fp s2 H2 pn, PTs (cxC X sc cl C (blkN X locs ix) fp s2 H2 pn) tests tt) (he : ∀ cl C fp s2 H2 pn, PE (cxC X sc cl C (blkN X locs ix) fp s2 H2 pn) elt te)
    (hsw : swapsWith (.ListComp elt [⟨tgt, iter, tests, 0⟩] sc pos) (some (.Name y py)) spos.line X.env = pure true)
    (hs : ∀ x, foldedSetIterable iter X.env x = pure x := by intro _; rfl) : PS X (.Assign [.Name y py] (.ListComp elt [⟨tgt, iter, tests, 0⟩] sc pos) spos) (sComp i wi locs.length ix g tt te) := by
  intro pins s σ H D I h
  obtain ⟨cl, ecl, hcl, hcl'⟩ := clos_ok (sc := sc) (env := X.env) fun y hy hk => I.ok.has y.1 (B.free y hy hk)
  rw [exec_Assign_Name_used _ _ _ _ hsw]
  refine wpAny_bind (wpAny_standAt (wpAny_bind ?_))
  show wpAny _ X.A (do let _ ← comprehension (.ListComp elt [⟨tgt, iter, tests, 0⟩] sc pos) sc X.env _ (newList []) false (eval iter X.env) (some (assign (.Name y py) X.env))) _ _ s
  refine wpAny_bind (thn (wpAny_comprehension_free (use := some (assign (.Name y py) X.env)) (Q := fun _ s' => SP X pins D .next s') rfl hs ecl B.kind B.names ?_) fun _ s' hq => wpAny_pure (wpAny_pure hq))
  refine thn (hi pins s σ H _ I h) fun v s1 h1 => thn h1 fun itv s2 h2 => ?_
  obtain ⟨it, fp, tn, J, H2, e, I2, T, st2, f2, W, ⟨m0, w0⟩, turn⟩ := h2
  subst e
  refine comp_block (iter := iter) (pos := pos) (RR := fun acc C => compPost (model X.prog X.w) X.A X.xe (some (assign (.Name y py) X.env)) (fun _ s' => SP X pins D .next s') acc C) hc B hg ht he I2 T st2 f2 hcl hcl' w0 turn ?_
  intro L C s' H' ys m nL hC nC hCL I3 fin ns
  have cL : C ≠ X.env.locals := Nat.ne_of_gt (Nat.lt_of_lt_of_le I2.lt hC)
  have cC : ∀ x c, X.env.cells.lookup x = some c → c ≠ C := fun x c e => by
    obtain ⟨v, o, ho, _⟩ := I2.cell x c e
    exact Nat.ne_of_lt (Nat.lt_of_lt_of_le (Heap.lt_size ho) hC)
  have cP : ∀ p ∈ X.pn ++ pins, p.1 ≠ C := fun p hp => Nat.ne_of_lt (Nat.lt_of_lt_of_le (Heap.lt_size (I2.pin p hp).1) hC)
  show wpAny _ X.A (assign (.Name y py) X.env (.ref L)) _ _ _
  refine wpAny_assign_Name (store_ok2 (v := .ref L) I3 hN hiy (.inl hy) rfl (fun s4 I4 ⟨a, sb, ha⟩ => ?_) (.inr hy))
  have hCa : C ≠ a := by
    rcases ha with z | z
    · rw [z]; exact cL
    · exact (cC y a z).symm
  exact ⟨m, ns.sameBut sb hCa, fun h' hs' => ⟨_, _, I4.turned (t' := s4.toks) (fun b o hb e => (hs'.2 b hb).trans e) (by rw [upd_ne hCL]; exact nC) cL (.inr (Nat.le_trans I2.sz hC)) cC cP, fin L nL⟩⟩
end
end L2

/-! OWN RULES, part 3: all, sum; what a loop walks: enumerate of a list, reversed of a list, zip of two tuples. -/
namespace L2
open PySem PySem.Spec PyProof.Rows
section
variable {X : Cx}
theorem vals_bl : ∀ {bs : List Bool} {us : List Value}, Vals (bs.map V.bl) us → us = bs.map Value.bool
  | [], _, .nil => rfl
  | b :: r, _, .cons q t => by
    cases (show _ = Value.bool b from q)
    rw [vals_bl t]
    rfl
theorem range_all (bs : List Bool) : (List.range bs.length).all (fun i => bs.getD i true) = bs.all id := by
  rw [Bool.eq_iff_iff, List.all_eq_true, List.all_eq_true]
  constructor
  · intro h b hb
    obtain ⟨i, hi, e⟩ := List.mem_iff_getElem.mp hb
    have q := h i (List.mem_range.mpr hi)
    rw [List.getD_eq_getElem?_getD, List.getElem?_eq_getElem hi, e] at q
    exact q
  · intro h i hi
    have hi' := List.mem_range.mp hi
    rw [List.getD_eq_getElem?_getD, List.getElem?_eq_getElem hi']
    exact h _ (List.getElem_mem hi')
/-- all of a list of truths -/
theorem call_all (hc : X.calm = true) : CallR X (.builtin "all") (fun xs H Q => ∃ (a : Addr) (bs : List Bool), xs = [.ref a] ∧ SqL X.K H a (bs.map V.bl) ∧ Q (.bl (bs.all id)) H) := by
  intro pins s σ H xs us Q I r h
  obtain ⟨a, bs, rfl, hq, q⟩ := h
  obtain ⟨u, rfl, ru⟩ := vals1 r
  cases (show u = Value.ref a from ru)
  obtain ⟨its, rv, p, _⟩ := I.list hq
  have e := vals_bl rv
  subst e
  have hh : X.A.in1.handled = none := I.ok.hd hc
  have hlt : a < s.heap.objs.size := by obtain ⟨_, e, _⟩ := p.isList; exact Heap.lt_size e
  refine call_all_walk (wpAny_pyIter_list p.isList ?_)
  refine ⟨s.heap.objs.size, _, _, _, _, _, fun i => bs.getD i true, rfl, Walks.list hh s.heap.objs.size a (Nat.ne_of_lt hlt) (bs.map Value.bool).toArray, ⟨⟨_, Heap.get?_push_size _ rfl, rfl, rfl⟩, p.isList.push _⟩, ?_, fun h' tk k => ?_⟩
  · intro i v s' Q' E' hv hQ
    have e : v = Value.bool (bs.getD i true) := by
      rw [List.getElem?_toArray, List.getElem?_map] at hv
      cases hb : bs[i]? with
      | none => rw [hb] at hv; cases hv
      | some b =>
        rw [hb] at hv
        rw [List.getD_eq_getElem?_getD, hb]
        exact (Option.some.inj hv).symm
    subst e
    exact wpAny_truthy_bool hQ
  · have I' : Inv X pins σ H { s with heap := h', toks := tk } := I.kept fun b o e => k b o (by
      intro z
      have e' : b = s.heap.objs.size := by simpa using z
      exact absurd e' (Nat.ne_of_lt (Heap.lt_size e))) (Heap.get?_push_of_some _ e)
    refine ⟨.bl _, H, I', rfl, ?_⟩
    have e : ((bs.map Value.bool).toArray).size = bs.length := by rw [List.size_toArray, List.length_map]
    rw [e, range_all]
    exact q
end

/-! ### enumerate of a list -/
/-- turn i hands out a new pair (i, item i) -/
def Ite (K : PySem.W.Frag) (a : Addr) : It :=
  ⟨fun i H => ∃ xs x, SqL K H a xs ∧ xs[i]? = some x, fun i H x H' => ∃ T v, H T = none ∧ x = .ref T ∧ H' = upd H T (.tup [.int i, v]) ∧ ∀ xs, SqL K H a xs → xs[i]? = some v, fun i H => ∃ xs, SqL K H a xs ∧ xs.length ≤ i⟩
theorem turn_enum {P : Program} {w : World} {K : PySem.W.Frag} {es : List Expr} {k : Nat} {pos : Pos} (a e it : Addr) (hei : e ≠ it) :
    Turn P w K (.Tuple es k pos) (Ite K a) [e, it] e (fun i h => (∃ old, IsEnum h e it (i : Nat) old) ∧ h.IsListIter it a i) where
  mem := List.mem_cons_self
  obj := fun i h st b hb => by
    obtain ⟨⟨old, he⟩, o, hi, hc, hd⟩ := st
    rcases List.mem_cons.mp hb with rfl | hb
    · exact ⟨_, he, fun v z => by cases z⟩
    · rw [List.mem_singleton.mp hb]
      exact ⟨o, hi, fun v z => by rw [hd] at z; cases z⟩
  keep := fun i h h' st k => ⟨let ⟨old, he⟩ := st.1; ⟨old, k e List.mem_cons_self _ he⟩, st.2.at fun o q => k it (List.mem_cons_of_mem _ List.mem_cons_self) o q⟩
  item := by
    intro X hP hw hK hc i pins s σ H E I hf st hg
    subst hP hw hK
    obtain ⟨xs, x, hq, hx⟩ := hg
    obtain ⟨its, rv, p, hz⟩ := I.list hq
    obtain ⟨u, hu, ru⟩ := rv.get hx
    obtain ⟨⟨old, he⟩, hit⟩ := st
    obtain ⟨f0, f1, f2, f3, f4, f5⟩ := hf e List.mem_cons_self
    obtain ⟨g0, g1, g2, g3, g4, g5⟩ := hf it (List.mem_cons_of_mem _ List.mem_cons_self)
    refine wpAny_pyNext_enum_item he hit p.isList (x := u) (by simpa using hu) hei fun h' ho hit' hT hsz hk => ?_
    refine ⟨.ref s.heap.objs.size, rfl, wpAny_letOwnedTupleGo_enum ho fun h'' he'' sb => ?_⟩
    have nT : H s.heap.objs.size = none := I.hok.fresh (Nat.le_refl _)
    have kk : ∀ b o, b ≠ e → b ≠ it → s.heap.get? b = some o → h''.get? b = some o := fun b o b1 b2 q => (sb.2 b b1).trans (hk b o b1 b2 q)
    have hTe : s.heap.objs.size ≠ e := Nat.ne_of_gt (Heap.lt_size he)
    have nb : ∀ b u, H b = some u → b ≠ e ∧ b ≠ it := fun b u q => ⟨fun z => (by rw [z, f0] at q; cases q), fun z => (by rw [z, g0] at q; cases q)⟩
    have gT : h''.get? s.heap.objs.size = some { cls := .type "tuple", data := .seq #[.int i s.toks, u] } := (sb.2 _ hTe).trans hT
    have I1 : Inv X pins σ (upd H s.heap.objs.size (.tup [.int i, x])) { s with heap := h'', toks := s.toks + 1 } := by
      refine I.step (g' := s.gens) (d' := s.drawn) (ch := [e, it]) (fun b hb => ?_) (fun b o _ _ hb q _ => kk b o (fun z => hb (by simp [z])) (fun z => hb (by simp [z])) q) (fun b o _ _ hb q _ => ⟨o.slots, kk b o (fun z => hb (by simp [z])) (fun z => hb (by simp [z])) q⟩) (fun b o _ q n => ?_)
        (fun b o hb q => ⟨o, kk b o (fun z => hb (by simp [z])) (fun z => hb (by simp [z])) q⟩) (fun b ys q => ?_) (fun b ob y q => ?_) (fun b ps q => ⟨#[], ?_⟩) (fun m hm => ?_) (fun b y q => ?_) I.bare
      · rcases List.mem_cons.mp hb with rfl | hb
        · exact ⟨f3, f1, f4, f5⟩
        · rw [List.mem_singleton.mp hb]
          exact ⟨g3, g1, g4, g5⟩
      · rw [upd_ne (Nat.ne_of_lt (Heap.lt_size q))]
        exact n
      · rw [upd_ne (ne_of_none q nT)]
        exact q
      · rw [upd_ne (ne_of_none q nT)]
        exact q
      · rw [upd_ne (ne_of_none q nT), q]
        simp
      · obtain ⟨o, es', ep, ho', r⟩ := hm
        exact ⟨o, es', ep, kk _ o (Ne.symm f1) (Ne.symm g1) ho', r⟩
      · by_cases hb : b = s.heap.objs.size
        · subst hb
          rw [upd_same] at q
          cases q
          exact ⟨by show 2 ≤ sizeLine; decide, [.int i s.toks, u], .cons ⟨_, rfl⟩ (.cons ru .nil), _, gT, rfl, _, rfl⟩
        · rw [upd_ne hb] at q
          refine (I.hok b y q).stay (fun c v hc' z => ?_) (fun c z => by rw [upd_ne (ne_of_none z nT)]; exact z) fun c ys z => by rw [upd_ne (ne_of_none z nT)]; exact z
          rcases hc' with z' | z'
          · subst z'
            exact kk c v (nb c y q).1 (nb c y q).2 z
          · exact kk c v (nb c _ z').1 (nb c _ z').2 z
    refine ⟨.ref s.heap.objs.size, _, I1, rfl, ⟨_, x, nT, rfl, rfl, fun ys hy => by rw [I.list_inj hy hq]; exact hx⟩, ⟨⟨u, by simpa using he''⟩, hit'.at fun o q => (sb.2 it (Ne.symm hei)).trans q⟩, fun b hb => ?_⟩
    have hn := (hf b hb).1
    have lt : b < s.heap.objs.size := by
      rcases List.mem_cons.mp hb with rfl | hb
      · exact Heap.lt_size he
      · rw [List.mem_singleton.mp hb]
        obtain ⟨o, q, _⟩ := hit
        exact Heap.lt_size q
    rw [upd_ne (Nat.ne_of_lt lt)]
    exact hn
  done := by
    intro X hP hw hK hc i pins s σ H E I hf st hg
    subst hP hw hK
    obtain ⟨xs, hq, hx⟩ := hg
    obtain ⟨its, rv, p, hz⟩ := I.list hq
    obtain ⟨⟨old, he⟩, hit⟩ := st
    obtain ⟨g0, g1, g2, g3, g4, g5⟩ := hf it (List.mem_cons_of_mem _ List.mem_cons_self)
    have hl := rv.length
    exact wpAny_pyNext_enum_end (I.ok.hd hc) he hit p.isList (by simp; omega) fun h' eb => ⟨rfl, I.turned (t' := s.toks) (fun b o hb q => eb b o hb q) g0 g1 g3 g4 g5⟩
  self := fun _ _ _ _ _ st h => let ⟨_, he⟩ := st.1; wpAny_pyIter_enum he h
section
variable {X : Cx}
def iEnum (K : PySem.W.Frag) (ta : TA) : TI := fun σ H R => ta σ H fun vs H1 => ∃ a, vs = [.ref a] ∧ (∃ xs, SqL K H1 a xs) ∧ R (Ite K a) H1
theorem pi_enum {l : Expr} {ta : TA} {p pos : Pos} {es : List Expr} {k : Nat} {tp : Pos} (hg : Gl X "enumerate") (hm : X.mg "enumerate" = none) (ha : PA X [l] ta) (hs : starEach [l] X.env = [(false, eval l X.env)] := by rfl) :
    PI X (.Tuple es k tp) (.Call (.Name "enumerate" p) [l] [] pos) (iEnum X.K ta) := by
  intro pins s σ H R I h
  refine Call_ (ld_blt I hg hm boot_enumerate (PyProof.Rows.callWith_type1 (thn (ha pos pins s σ H _ I h) fun us s1 ⟨vs, H1, I1, r1, q1⟩ => ?_) hs rfl))
  obtain ⟨a, e, ⟨xs, hq⟩, q⟩ := q1
  subst e
  obtain ⟨u, rfl, ru⟩ := vals1 r1
  cases (show u = Value.ref a from ru)
  obtain ⟨its, rv, pl, hz⟩ := I1.list hq
  refine call_enumerate_list pl.isList fun h' he hit hsz hk => ?_
  refine wpAny_pyIter_enum (s := { s1 with heap := h' }) he ?_
  have n1 : H1 s1.heap.objs.size = none := I1.hok.fresh (Nat.le_refl _)
  have n2 : H1 (s1.heap.objs.size + 1) = none := I1.hok.fresh (Nat.le_succ _)
  refine ⟨s1.heap.objs.size + 1, [s1.heap.objs.size + 1, s1.heap.objs.size], _, _, H1, rfl, I1.kept (t' := s1.toks) hk, turn_enum a _ _ (Nat.succ_ne_self _), ⟨⟨_, by simpa using he⟩, hit⟩, fun b hb => ?_, q⟩
  rcases List.mem_cons.mp hb with rfl | hb
  · exact I1.fpOk (Nat.le_succ _) n2
  · rw [List.mem_singleton.mp hb]
    exact I1.fpOk (Nat.le_refl _) n1
end
/-- over a list that the body leaves as it is, with the places -/
theorem for_enum {K : PySem.W.Frag} {a : Addr} {xs : List V} {g : TG} {tb : TS} {D : Ends} {σ : St} {H : Hp} (Pv : Nat → St → Hp → Prop) (h0 : Pv 0 σ H) (hl : ∀ i σ H, i ≤ xs.length → Pv i σ H → SqL K H a xs)
    (hs : ∀ (i : Nat) x σ H T, xs[i]? = some x → Pv i σ H → H T = none → g (.ref T) σ (upd H T (.tup [.int i, x])) fun σ2 H2 => tb { D with nx := Pv (i + 1), ct := Pv (i + 1), bk := D.nx } σ2 H2) (hd : ∀ σ H, Pv xs.length σ H → D.nx σ H) :
    ∃ W : Nat → Nat → St → Hp → Prop, (∃ m, W 0 m σ H) ∧ ∀ i m σ H, W i m σ H →
      ((Ite K a).stop i H ∧ D.nx σ H) ∨ ((Ite K a).go i H ∧ ∃ N : St → Hp → Prop, (∀ σ' H', N σ' H' → ∃ m', m' < m ∧ W (i + 1) m' σ' H') ∧ ∀ x H', (Ite K a).yld i H x H' → g x σ H' fun σ2 H2 => tb { D with nx := N, ct := N, bk := D.nx } σ2 H2) := by
  refine ⟨fun i m σ H => m = xs.length - i ∧ i ≤ xs.length ∧ Pv i σ H, ⟨xs.length, by simp, Nat.zero_le _, h0⟩, ?_⟩
  rintro i m σ H ⟨rfl, hi, p⟩
  have q := hl i σ H hi p
  by_cases hlt : i < xs.length
  · refine .inr ⟨⟨xs, xs[i], q, List.getElem?_eq_getElem hlt⟩, Pv (i + 1), fun σ' H' p' => ⟨xs.length - (i + 1), by omega, rfl, hlt, p'⟩, fun x H' y => ?_⟩
    obtain ⟨T, v, nT, rfl, rfl, hv⟩ := y
    exact hs i v σ H T (hv xs q) p nT
  · have e : i = xs.length := by omega
    subst e
    exact .inl ⟨⟨xs, q, Nat.le_refl _⟩, hd σ H p⟩

/-! ### reversed of a list -/
def Itv (K : PySem.W.Frag) (a : Addr) (xs : List V) : It :=
  ⟨fun i H => i < xs.length ∧ SqL K H a xs, fun i H x H' => H' = H ∧ xs[xs.length - 1 - i]? = some x, fun i _ => i = xs.length⟩
theorem turn_rev {P : Program} {w : World} {K : PySem.W.Frag} {tg : Expr} (a it : Addr) (xs : List V) :
    Turn P w K tg (Itv K a xs) [it] it (fun i h => h.IsRevIter it a ((xs.length : Int) - 1 - (i : Int))) where
  mem := List.mem_cons_self
  obj := fun i h st b hb => by
    rw [List.mem_singleton.mp hb]
    obtain ⟨o, e, c, d⟩ := st
    exact ⟨o, e, fun v z => by rw [d] at z; cases z⟩
  keep := fun i h h' st k => st.at fun o e => k it List.mem_cons_self o e
  item := by
    intro X hP hw hK hc i pins s σ H E I hf st hg
    subst hP hw hK
    obtain ⟨hi, hq⟩ := hg
    obtain ⟨its, rv, p, hz⟩ := I.list hq
    have hl := rv.length
    have hx : xs[xs.length - 1 - i]? = some (xs[xs.length - 1 - i]'(by omega)) := List.getElem?_eq_getElem (by omega)
    obtain ⟨u, hu, ru⟩ := rv.get hx
    obtain ⟨f0, f1, f2, f3, f4, f5⟩ := hf it List.mem_cons_self
    have e : (xs.length : Int) - 1 - (i : Int) = ((xs.length - 1 - i : Nat) : Int) := by omega
    have st' : s.heap.IsRevIter it a ((xs.length - 1 - i : Nat) : Int) := by rw [← e]; exact st
    refine wpAny_pyNext_rev_item st' p.isList (x := u) (by simpa using hu) fun h' st1 sb => ?_
    have I1 : Inv X pins σ H { s with heap := h' } := I.turned (t' := s.toks) (fun b o hb q => (sb.2 b hb).trans q) f0 f1 f3 f4 f5
    obtain ⟨o, q, c, d⟩ := id st1
    have e2 : ((xs.length - 1 - i : Nat) : Int) - 1 = (xs.length : Int) - 1 - ((i + 1 : Nat) : Int) := by omega
    refine ⟨u, rfl, go_of (s := { s with heap := h' }) q c d (by decide) ⟨_, H, I1, ru, ⟨rfl, hx⟩, ?_, fun b hb => (hf b hb).1⟩⟩
    rw [← e2]
    exact st1
  done := by
    intro X hP hw hK hc i pins s σ H E I hf st hg
    subst hP hw hK
    cases (show i = xs.length from hg)
    obtain ⟨f0, f1, f2, f3, f4, f5⟩ := hf it List.mem_cons_self
    have e : (xs.length : Int) - 1 - (xs.length : Int) = -1 := by omega
    have st' : s.heap.IsRevIter it a (-1) := by rw [← e]; exact st
    exact wpAny_pyNext_rev_end (I.ok.hd hc) st' fun h' eb => ⟨rfl, I.turned (t' := s.toks) (fun b o hb q => eb b o hb q) f0 f1 f3 f4 f5⟩
  self := fun _ _ _ _ _ st h => wpAny_pyIter_revIter st h
section
variable {X : Cx} {tg : Expr}
def iRev (K : PySem.W.Frag) (ta : TA) : TI := fun σ H R => ta σ H fun vs H1 => ∃ a xs, vs = [.ref a] ∧ SqL K H1 a xs ∧ R (Itv K a xs) H1
theorem pi_rev {l : Expr} {ta : TA} {p pos : Pos} (hg : Gl X "reversed") (hm : X.mg "reversed" = none) (ha : PA X [l] ta) (hs : starEach [l] X.env = [(false, eval l X.env)] := by rfl) :
    PI X tg (.Call (.Name "reversed" p) [l] [] pos) (iRev X.K ta) := by
  intro pins s σ H R I h
  refine Call_ (ld_blt I hg hm boot_reversed (PyProof.Rows.callWith_type1 (thn (ha pos pins s σ H _ I h) fun us s1 ⟨vs, H1, I1, r1, q1⟩ => ?_) hs rfl))
  obtain ⟨a, xs, e, hq, q⟩ := q1
  subst e
  obtain ⟨u, rfl, ru⟩ := vals1 r1
  cases (show u = Value.ref a from ru)
  obtain ⟨its, rv, pl, hz⟩ := I1.list hq
  have hl := rv.length
  refine call_reversed_list pl.isList ?_
  have st : Heap.IsRevIter (s1.heap.push (revObj a ((its.toArray.size : Int) - 1))) s1.heap.objs.size a ((xs.length : Int) - 1 - ((0 : Nat) : Int)) := by
    have e : (xs.length : Int) - 1 - ((0 : Nat) : Int) = (its.toArray.size : Int) - 1 := by
      rw [List.size_toArray]
      omega
    rw [e]
    exact ⟨_, Heap.get?_push_size _ rfl, rfl, rfl⟩
  refine wpAny_pyIter_revIter (s := { s1 with heap := s1.heap.push (revObj a ((its.toArray.size : Int) - 1)) }) st ?_
  refine ⟨s1.heap.objs.size, [s1.heap.objs.size], _, _, H1, rfl, I1.kept (t' := s1.toks) fun b o e => Heap.get?_push_of_some _ e, turn_rev a _ xs, st, fun b hb => ?_, q⟩
  rw [List.mem_singleton.mp hb]
  exact I1.fpOk (Nat.le_refl _) (I1.hok.fresh (Nat.le_refl _))
end
/-- over a list from its end, which the body leaves as it is -/
theorem for_rev {K : PySem.W.Frag} {a : Addr} {xs : List V} {g : TG} {tb : TS} {D : Ends} {σ : St} {H : Hp} (Pv : Nat → St → Hp → Prop) (h0 : Pv 0 σ H) (hl : ∀ i σ H, i ≤ xs.length → Pv i σ H → SqL K H a xs)
    (hs : ∀ (i : Nat) x σ H, i < xs.length → xs[xs.length - 1 - i]? = some x → Pv i σ H → g x σ H fun σ2 H2 => tb { D with nx := Pv (i + 1), ct := Pv (i + 1), bk := D.nx } σ2 H2) (hd : ∀ σ H, Pv xs.length σ H → D.nx σ H) :
    ∃ W : Nat → Nat → St → Hp → Prop, (∃ m, W 0 m σ H) ∧ ∀ i m σ H, W i m σ H →
      ((Itv K a xs).stop i H ∧ D.nx σ H) ∨ ((Itv K a xs).go i H ∧ ∃ N : St → Hp → Prop, (∀ σ' H', N σ' H' → ∃ m', m' < m ∧ W (i + 1) m' σ' H') ∧ ∀ x H', (Itv K a xs).yld i H x H' → g x σ H' fun σ2 H2 => tb { D with nx := N, ct := N, bk := D.nx } σ2 H2) := by
  refine ⟨fun i m σ H => m = xs.length - i ∧ i ≤ xs.length ∧ Pv i σ H, ⟨xs.length, by simp, Nat.zero_le _, h0⟩, ?_⟩
  rintro i m σ H ⟨rfl, hi, p⟩
  have q := hl i σ H hi p
  by_cases hlt : i < xs.length
  · refine .inr ⟨⟨hlt, q⟩, Pv (i + 1), fun σ' H' p' => ⟨xs.length - (i + 1), by omega, rfl, hlt, p'⟩, fun x H' y => ?_⟩
    obtain ⟨e, y⟩ := y
    subst e
    exact hs i x σ _ hlt y p
  · have e : i = xs.length := by omega
    subst e
    exact .inl ⟨rfl, hd σ H p⟩
end L2

/-! OWN RULES, part 4: zip of two tuples. -/
namespace L2
open PySem PySem.Spec PyProof.Rows
section
variable {prog : Program} {w : World} {A : Around} {E : Value → Shared → Prop} {s : Shared}
abbrev zt1 (h : Heap) (l1 : Addr) : Heap := h.push { cls := .type "tuple_iterator", data := .fields #[.ref l1, .int 0 0] }
abbrev zt2 (h : Heap) (l1 l2 : Addr) : Heap := (zt1 h l1).push { cls := .type "tuple_iterator", data := .fields #[.ref l2, .int 0 0] }
abbrev zt3 (h : Heap) (l1 l2 : Addr) : Heap := (zt2 h l1 l2).push { cls := .type "tuple", data := .seq #[.ref h.objs.size, .ref (zt1 h l1).objs.size] }
abbrev zt4 (h : Heap) (l1 l2 : Addr) : Heap := (zt3 h l1 l2).push { cls := .type "tuple", data := .seq #[.none, .none] }
abbrev zt5 (h : Heap) (l1 l2 : Addr) : Heap := (zt4 h l1 l2).push { cls := .type "zip", data := .fields #[.none, .bool false, .bool false, .ref (zt2 h l1 l2).objs.size, .ref (zt3 h l1 l2).objs.size] }
end
/-- turn i hands out a new pair of the two items i -/
def Itz (K : PySem.W.Frag) (a b : Addr) (xs ys : List V) : It :=
  ⟨fun i H => SqT K H a xs ∧ SqT K H b ys ∧ i < xs.length ∧ i < ys.length, fun i H x H' => ∃ T u v, H T = none ∧ x = .ref T ∧ H' = upd H T (.tup [u, v]) ∧ xs[i]? = some u ∧ ys[i]? = some v,
    fun i H => SqT K H a xs ∧ SqT K H b ys ∧ (xs.length ≤ i ∨ ys.length ≤ i)⟩
section
variable {X : Cx}
def iZip (K : PySem.W.Frag) (ta : TA) : TI := fun σ H R => ta σ H fun vs H1 => ∃ a b xs ys, vs = [.ref a, .ref b] ∧ SqT K H1 a xs ∧ SqT K H1 b ys ∧ R (Itz K a b xs ys) H1
end
end L2

/-! OWN RULES, part 5: a comprehension's scope by a look; the forms one uses. -/
namespace L2
open PySem PySem.Spec PyProof.Rows
def blkOk (sc dsc : Scope) (N : List Str) (ix : List Nat) : Bool :=
  sc.kind == .function && sc.names.all (fun y => y.2 != .cell) && sc.names.all (fun y => y.2 != .free || dsc.names.lookup y.1 == some .cell || dsc.names.lookup y.1 == some .free) &&
    sc.names.all (fun y => y.2 != .local || sc.names.lookup y.1 == some .local) && ix.all (fun i => match N[i]? with | some x => sc.names.lookup x == some .free | none => false)
theorem BlkSc.look {X : Cx} {sc dsc : Scope} {locs N : List Str} {ix : List Nat} (hs : X.env.scope = dsc) (hN : X.N = N) (c : blkOk sc dsc N ix = true) : BlkSc X sc locs ix := by
  unfold blkOk at c
  rw [Bool.and_eq_true, Bool.and_eq_true, Bool.and_eq_true, Bool.and_eq_true] at c
  obtain ⟨⟨⟨⟨c1, c2⟩, c3⟩, c4⟩, c5⟩ := c
  refine ⟨by simpa using c1, fun y hy => ?_, fun y hy hk => ?_, fun y hy hk => ?_, fun i hi => ?_⟩
  · simpa using List.all_eq_true.mp c2 y hy
  · have q := List.all_eq_true.mp c3 y hy
    have z : X.env.kindOf y.1 = dsc.names.lookup y.1 := by rw [← hs]; rfl
    rw [z]
    rw [hk] at q
    simpa using q
  · have q := List.all_eq_true.mp c4 y hy
    rw [hk] at q
    simpa using q
  · have q := List.all_eq_true.mp c5 i hi
    rw [hN]
    cases hx : N[i]? with
    | none => rw [hx] at q; cases q
    | some x =>
      rw [hx] at q
      exact ⟨x, rfl, by simpa using q⟩
/-! the rules that name the written part K, said of a block with the def's own K -/
section
variable {X : Cx} {sc : Scope} {cl : List (Str × Addr)} {C : Addr} {N : List Str} {fp : List Addr} {s2 : Shared} {H2 : Hp} {pn : List (Addr × Obj)}
theorem ix_seqB : IxR (cxC X sc cl C N fp s2 H2 pn) (rIx X.K) := ix_seq
theorem call_listB : CallR (cxC X sc cl C N fp s2 H2 pn) (.type "list") (fun xs H Q => ∃ p ys, xs = [.ref p] ∧ (SqL X.K H p ys ∨ SqT X.K H p ys) ∧ ∀ l, H l = none → Q (.ref l) (upd H l (.lst ys))) := call_list_of
end
/-- no test: by the turn's number; the measure is what is left of n -/
theorem comp_by {J : It} {n : Nat} {g : TG} {te : TE} {σ0 : St} {H1 : Hp} {Fin : List V → Hp → Prop} (Pv : Nat → St → List V → Hp → Prop) (h0 : Pv 0 σ0 [] H1) (hn : n ≤ sizeLine) (len : ∀ i σ ys H, Pv i σ ys H → ys.length = i)
    (stop : ∀ σ ys H, Pv n σ ys H → J.stop n H) (go : ∀ i σ ys H, i < n → Pv i σ ys H → J.go i H)
    (hs : ∀ i σ ys H x H' (Z : St → List V → Hp → Prop), i < n → Pv i σ ys H → J.yld i H x H' → (∀ σ' ys' H', Pv (i + 1) σ' ys' H' → Z σ' ys' H') → g x σ H' fun σ2 H2 => te σ2 H2 fun y H3 => Z σ2 (ys ++ [y]) H3) (hd : ∀ σ ys H, Pv n σ ys H → Fin ys H) :
    ∃ W : Nat → Nat → St → List V → Hp → Prop, (∃ m, W 0 m σ0 [] H1) ∧ CompW J g tYes te Fin W := by
  refine ⟨fun i m σ ys H => m = n - i ∧ i ≤ n ∧ Pv i σ ys H, ⟨n, rfl, Nat.zero_le _, h0⟩, ?_⟩
  rintro i m σ ys H ⟨rfl, hi, p⟩
  by_cases hlt : i < n
  · refine .inr ⟨go i σ ys H hlt p, by rw [len i σ ys H p]; omega, fun x H' y => ?_⟩
    have q := hs i σ ys H x H' (fun σ2 ys2 H3 => ∃ m', m' < n - i ∧ m' = n - (i + 1) ∧ i + 1 ≤ n ∧ Pv (i + 1) σ2 ys2 H3) hlt p y fun σ' ys' H'' p' => ⟨n - (i + 1), by omega, rfl, hlt, p'⟩
    exact q
  · have e : i = n := by omega
    subst e
    exact .inl ⟨stop σ ys H p, by rw [len i σ ys H p]; exact hn, hd σ ys H p⟩
end L2

/-! OWN: the laws' own comparison, _law_alike, by the depth of what is compared: alike things come out True. The def's text is the same in every law but for its places; st is the def as it stands. -/
namespace L2
open PySem PySem.Spec PyProof.Rows
/-- alike: the same scalar, or two lists (two tuples) of one length with alike items -/
def Alk : Nat → Hp → V → V → Prop
  | 0, _, _, _ => False
  | n + 1, H, x, y => (x = y ∧ (x = .non ∨ (∃ b, x = .bl b) ∨ (∃ i, x = .int i) ∨ ∃ z, x = .str z)) ∨
      ∃ a b xs ys, x = .ref a ∧ y = .ref b ∧ ((H a = some (.lst xs) ∧ H b = some (.lst ys)) ∨ (H a = some (.tup xs) ∧ H b = some (.tup ys))) ∧ xs.length ≤ 1000000 ∧ xs.length = ys.length ∧ ∀ (i : Nat) u v, xs[i]? = some u → ys[i]? = some v → Alk n H u v
theorem Alk.mono {H H' : Hp} (s : Same H H') : ∀ {n : Nat} {x y : V}, Alk n H x y → Alk n H' x y
  | 0, _, _, h => h.elim
  | n + 1, _, _, h => by
    rcases h with h | ⟨a, b, xs, ys, e1, e2, e3, e4, e5, e6⟩
    · exact .inl h
    · refine .inr ⟨a, b, xs, ys, e1, e2, ?_, e4, e5, fun i u v h1 h2 => (e6 i u v h1 h2).mono s⟩
      rcases e3 with ⟨p, q⟩ | ⟨p, q⟩
      · exact .inl ⟨s _ _ p, s _ _ q⟩
      · exact .inr ⟨s _ _ p, s _ _ q⟩
theorem Alk.up {H : Hp} : ∀ {n m : Nat} {x y : V}, n ≤ m → Alk n H x y → Alk m H x y
  | 0, _, _, _, _, h => h.elim
  | n + 1, 0, _, _, hm, _ => absurd hm (Nat.not_succ_le_zero _)
  | n + 1, m + 1, _, _, hm, h => by
    rcases h with h | ⟨a, b, xs, ys, e1, e2, e3, e4, e5, e6⟩
    · exact .inl h
    · exact .inr ⟨a, b, xs, ys, e1, e2, e3, e4, e5, fun i u v h1 h2 => (e6 i u v h1 h2).up (Nat.le_of_succ_le_succ hm)⟩
theorem Alk.int {n : Nat} {H : Hp} (i : Int) : Alk (n + 1) H (.int i) (.int i) := .inl ⟨rfl, .inr (.inr (.inl ⟨i, rfl⟩))⟩
theorem Alk.non {n : Nat} {H : Hp} : Alk (n + 1) H .non .non := .inl ⟨rfl, .inl rfl⟩
theorem Alk.bl {n : Nat} {H : Hp} (b : Bool) : Alk (n + 1) H (.bl b) (.bl b) := .inl ⟨rfl, .inr (.inl ⟨b, rfl⟩)⟩
theorem Alk.ints {n : Nat} {H : Hp} {a b : Addr} {zs ws : List Int} (h1 : H a = some (.lst (zs.map V.int))) (h2 : H b = some (.lst (ws.map V.int))) (e : zs = ws) (hl : zs.length ≤ 1000000) : Alk (n + 2) H (.ref a) (.ref b) := by
  subst e
  refine .inr ⟨a, b, _, _, rfl, rfl, .inl ⟨h1, h2⟩, by rw [List.length_map]; exact hl, rfl, fun i u v hu hv => ?_⟩
  rw [hu] at hv
  cases hv
  obtain ⟨z, rfl⟩ := ints_mem (List.mem_of_getElem? hu)
  exact Alk.int z
theorem Alk.tints {n : Nat} {H : Hp} {a b : Addr} {zs ws : List Int} (h1 : H a = some (.tup (zs.map V.int))) (h2 : H b = some (.tup (ws.map V.int))) (e : zs = ws) (hl : zs.length ≤ 1000000) : Alk (n + 2) H (.ref a) (.ref b) := by
  subst e
  refine .inr ⟨a, b, _, _, rfl, rfl, .inr ⟨h1, h2⟩, by rw [List.length_map]; exact hl, rfl, fun i u v hu hv => ?_⟩
  rw [hu] at hv
  cases hv
  obtain ⟨z, rfl⟩ := ints_mem (List.mem_of_getElem? hu)
  exact Alk.int z
def spAlike (n : Nat) : Sp := fun vs H Q _ => ∃ x y, vs = [x, y] ∧ Alk n H x y ∧ ∀ H', Same H H' → Q (.bl true) H'
structure BltA (mg : Str → Option Value) : Prop where
  isi : mg "isinstance" = none
  tup : mg "tuple" = none
  lst : mg "list" = none
  boo : mg "bool" = none
  str : mg "str" = none
  int : mg "int" = none
  len : mg "len" = none
  all : mg "all" = none
  rng : mg "range" = none
end L2

/-! OWN: rows of cells and their bits, in plain numbers. -/
namespace G
open PySem
/-- the paint of a row of cells: each cell's colour by sixteens; its mask by twos -/
def paintI : List (Option Int) → Int
  | [] => 0
  | c :: r => c.getD 0 + 16 * paintI r
def maskI : List (Option Int) → Int
  | [] => 0
  | c :: r => (if c.isSome = true then 1 else 0) + 2 * maskI r
def Cell (c : Option Int) : Prop := ∀ z, c = some z → 0 ≤ z ∧ z ≤ 15
def Cells (r : List (Option Int)) : Prop := ∀ c ∈ r, Cell c
theorem Cells.tail {c : Option Int} {r : List (Option Int)} (h : Cells (c :: r)) : Cells r := fun d hd => h d (List.mem_cons_of_mem _ hd)
theorem Cell.get {c : Option Int} (h : Cell c) : 0 ≤ c.getD 0 ∧ c.getD 0 ≤ 15 := by
  cases c with
  | none => exact ⟨by decide, by decide⟩
  | some z => exact h z rfl
theorem pow16 (n : Nat) : (16 : Int) ^ (n + 1) = 16 * 16 ^ n := by rw [Int.pow_succ, Int.mul_comm]
theorem pow2 (n : Nat) : (2 : Int) ^ (n + 1) = 2 * 2 ^ n := by rw [Int.pow_succ, Int.mul_comm]
theorem paint_lt : ∀ {r : List (Option Int)}, Cells r → 0 ≤ paintI r ∧ paintI r < 16 ^ r.length
  | [], _ => ⟨by decide, by decide⟩
  | c :: r, h => by
    have ih := paint_lt h.tail
    have hc := (h c List.mem_cons_self).get
    show 0 ≤ c.getD 0 + 16 * paintI r ∧ c.getD 0 + 16 * paintI r < 16 ^ (r.length + 1)
    rw [pow16]
    omega
theorem mask_lt : ∀ (r : List (Option Int)), 0 ≤ maskI r ∧ maskI r < 2 ^ r.length
  | [] => ⟨by decide, by decide⟩
  | c :: r => by
    have ih := mask_lt r
    show 0 ≤ (if c.isSome = true then 1 else 0) + 2 * maskI r ∧ (if c.isSome = true then 1 else 0) + 2 * maskI r < (2 : Int) ^ (r.length + 1)
    rw [pow2]
    split <;> omega
theorem paint_snoc (c : Option Int) : ∀ r : List (Option Int), paintI (r ++ [c]) = paintI r + c.getD 0 * 16 ^ r.length
  | [] => by show c.getD 0 + 16 * 0 = 0 + c.getD 0 * 1; omega
  | d :: r => by
    have ih := paint_snoc c r
    show d.getD 0 + 16 * paintI (r ++ [c]) = d.getD 0 + 16 * paintI r + c.getD 0 * 16 ^ (r.length + 1)
    rw [ih, pow16, Int.mul_add, ← Int.mul_assoc, Int.mul_comm 16 (c.getD 0), Int.mul_assoc, Int.add_assoc]
theorem mask_snoc (c : Option Int) : ∀ r : List (Option Int), maskI (r ++ [c]) = maskI r + (if c.isSome = true then 1 else 0) * 2 ^ r.length
  | [] => by show (if c.isSome = true then 1 else 0) + 2 * 0 = 0 + (if c.isSome = true then (1 : Int) else 0) * 1; omega
  | d :: r => by
    have ih := mask_snoc c r
    show (if d.isSome = true then 1 else 0) + 2 * maskI (r ++ [c]) = (if d.isSome = true then 1 else 0) + 2 * maskI r + (if c.isSome = true then (1 : Int) else 0) * 2 ^ (r.length + 1)
    rw [ih, pow2, Int.mul_add, ← Int.mul_assoc, Int.mul_comm 2 (if c.isSome = true then (1 : Int) else 0), Int.mul_assoc, Int.add_assoc]
/-! ### | of a low part and a high one -/
theorem and_low (a d k : Nat) (h : d < 2 ^ k) : (2 ^ k * a) &&& d = 0 := by
  have e1 : d &&& (2 ^ k - 1) = d := by rw [Nat.and_two_pow_sub_one_eq_mod, Nat.mod_eq_of_lt h]
  have e2 : (2 ^ k * a) &&& (2 ^ k - 1) = 0 := by rw [Nat.and_two_pow_sub_one_eq_mod, Nat.mul_mod_right]
  have f : (2 ^ k * a) &&& (d &&& (2 ^ k - 1)) = ((2 ^ k * a) &&& (2 ^ k - 1)) &&& d := by rw [Nat.and_comm d (2 ^ k - 1), Nat.and_assoc]
  rw [e1, e2, Nat.zero_and] at f
  exact f
theorem natpow (k : Nat) : ((2 ^ k : Nat) : Int) = (2 : Int) ^ k := by
  induction k with
  | zero => rfl
  | succ k ih => rw [Nat.pow_succ, Int.natCast_mul, ih, Int.pow_succ]; rfl
theorem or_high {p c : Int} {k : Nat} (p0 : 0 ≤ p) (p1 : p < 2 ^ k) (c0 : 0 ≤ c) : Builtin.bitOr p (c * 2 ^ k) = p + c * 2 ^ k := by
  obtain ⟨P, rfl⟩ := Int.eq_ofNat_of_zero_le p0
  obtain ⟨C, rfl⟩ := Int.eq_ofNat_of_zero_le c0
  have e : ((C : Int) * 2 ^ k) = ((2 ^ k * C : Nat) : Int) := by rw [Int.natCast_mul, natpow, Int.mul_comm]
  rw [e, PyProof.Rows.bitOr_and, PyProof.Rows.bitAnd_pp (Int.natCast_nonneg _) (Int.natCast_nonneg _), Int.toNat_natCast, Int.toNat_natCast]
  have hP : P < 2 ^ k := by
    rw [← natpow] at p1
    omega
  rw [Nat.and_comm, and_low C P k hP]
  omega
theorem two4 (x : Nat) : (2 : Int) ^ (4 * x) = 16 ^ x := by
  induction x with
  | zero => rfl
  | succ x ih =>
    rw [show 4 * (x + 1) = 4 * x + 1 + 1 + 1 + 1 by omega, pow2, pow2, pow2, pow2, ih, pow16]
    omega
/-! ### how many bits are one -/
def pc : Nat → Nat
  | 0 => 0
  | n + 1 => (n + 1) % 2 + pc ((n + 1) / 2)
decreasing_by omega
/-- how many cells are painted -/
def manyI : List (Option Int) → Nat
  | [] => 0
  | c :: r => (if c.isSome = true then 1 else 0) + manyI r
end G

/-! OWN: rows of cells and pictures as they lie in the heap. -/
namespace L2
open PySem PySem.Spec PyProof.Rows G
def cellV : Option Int → V
  | none => .non
  | some z => .int z
/-- a list of rows: the rows' own lists at ps -/
structure RowsAt (H : Hp) (l : Addr) (ps : List Addr) (rows : List (List (Option Int))) : Prop where
  lst : H l = some (.lst (ps.map V.ref))
  len : ps.length = rows.length
  row : ∀ (i : Nat) p r, ps[i]? = some p → rows[i]? = some r → H p = some (.lst (r.map cellV))
theorem RowsAt.mono {H H' : Hp} {l : Addr} {ps : List Addr} {rows : List (List (Option Int))} (s : Same H H') (h : RowsAt H l ps rows) : RowsAt H' l ps rows := ⟨s _ _ h.lst, h.len, fun i p r e1 e2 => s _ _ (h.row i p r e1 e2)⟩
structure Rect (w h : Nat) (rows : List (List (Option Int))) : Prop where
  len : rows.length = h
  h1 : 1 ≤ h
  h2 : h ≤ 64
  w1 : 1 ≤ w
  w2 : w ≤ 64
  row : ∀ r ∈ rows, r.length = w ∧ Cells r
/-- a picture: sides, paints, masks -/
def PicAt (H : Hp) (p : Addr) (w : Nat) (rows : List (List (Option Int))) : Prop :=
  ∃ pp pm, H p = some (.tup [.int (w : Int), .int (rows.length : Int), .ref pp, .ref pm]) ∧ H pp = some (.tup ((rows.map paintI).map V.int)) ∧ H pm = some (.tup ((rows.map maskI).map V.int))
theorem PicAt.mono {H H' : Hp} {p : Addr} {w : Nat} {rows : List (List (Option Int))} (s : Same H H') (h : PicAt H p w rows) : PicAt H' p w rows := by
  obtain ⟨pp, pm, h1, h2, h3⟩ := h
  exact ⟨pp, pm, s _ _ h1, s _ _ h2, s _ _ h3⟩
theorem Alk.cell {n : Nat} {H : Hp} (c : Option Int) : Alk (n + 1) H (cellV c) (cellV c) := by
  cases c with
  | none => exact Alk.non
  | some z => exact Alk.int z
theorem RowsAt.alk {n : Nat} {H : Hp} {l m : Addr} {ps qs : List Addr} {rows : List (List (Option Int))} {w h : Nat} (R : Rect w h rows) (a : RowsAt H l ps rows) (b : RowsAt H m qs rows) : Alk (n + 3) H (.ref l) (.ref m) := by
  have h1 := a.len
  have h2 := b.len
  have h3 := R.len
  have h4 := R.h2
  refine .inr ⟨l, m, _, _, rfl, rfl, .inl ⟨a.lst, b.lst⟩, by rw [List.length_map]; omega, by rw [List.length_map, List.length_map]; omega, fun i u v hu hv => ?_⟩
  rw [List.getElem?_map] at hu hv
  cases hp : ps[i]? with
  | none => rw [hp] at hu; cases hu
  | some p =>
    cases hq : qs[i]? with
    | none => rw [hq] at hv; cases hv
    | some q =>
      rw [hp] at hu
      rw [hq] at hv
      cases hu
      cases hv
      have hi : i < ps.length := (List.getElem?_eq_some_iff.mp hp).1
      have hr : rows[i]? = some (rows[i]'(by omega)) := List.getElem?_eq_getElem (by omega)
      have hw := (R.row _ (List.mem_of_getElem? hr)).1
      have h5 := R.w2
      refine .inr ⟨p, q, _, _, rfl, rfl, .inl ⟨a.row i p _ hp hr, b.row i q _ hq hr⟩, by rw [List.length_map]; omega, rfl, fun j u v hu hv => ?_⟩
      rw [hu] at hv
      cases hv
      rw [List.getElem?_map] at hu
      cases hc : (rows[i]'(by omega))[j]? with
      | none => rw [hc] at hu; cases hu
      | some c =>
        rw [hc] at hu
        cases hu
        exact Alk.cell c
theorem PicAt.alk {n : Nat} {H : Hp} {p q : Addr} {w : Nat} {rows : List (List (Option Int))} (hl : rows.length ≤ 64) (a : PicAt H p w rows) (b : PicAt H q w rows) : Alk (n + 3) H (.ref p) (.ref q) := by
  obtain ⟨a1, a2, h1, h2, h3⟩ := a
  obtain ⟨b1, b2, k1, k2, k3⟩ := b
  refine .inr ⟨p, q, _, _, rfl, rfl, .inr ⟨h1, k1⟩, by show 4 ≤ 1000000; decide, rfl, fun i u v hu hv => ?_⟩
  match i, hu, hv with
  | 0, hu, hv => cases hu; cases hv; exact Alk.int _
  | 1, hu, hv => cases hu; cases hv; exact Alk.int _
  | 2, hu, hv => cases hu; cases hv; exact Alk.tints h2 k2 rfl (by rw [List.length_map]; omega)
  | 3, hu, hv => cases hu; cases hv; exact Alk.tints h3 k3 rfl (by rw [List.length_map]; omega)
  | i + 4, hu, hv => cases hu
/-- an item at k by len -/
theorem atI_mod {ns : List Int} (h : 0 < ns.length) (k : Int) : ∃ z, atI (ns.map V.int) (k % ((ns.map V.int).length : Int)) = some (.int z) := by
  have e : ((ns.map V.int).length : Int) = (ns.length : Int) := by rw [List.length_map]
  rw [e]
  have h1 := Int.emod_nonneg k (show (ns.length : Int) ≠ 0 by omega)
  have h2 := Int.emod_lt_of_pos k (show (0 : Int) < ns.length by omega)
  have e2 : k % (ns.length : Int) = (((k % (ns.length : Int)).toNat : Nat) : Int) := by omega
  rw [e2]
  have hj : (k % (ns.length : Int)).toNat < ns.length := by omega
  refine ⟨ns[(k % (ns.length : Int)).toNat], atI_nat ?_⟩
  rw [List.getElem?_map, List.getElem?_eq_getElem hj]
  rfl
/-- one of four -/
theorem at4 {a b c d r : Int} (h0 : 0 ≤ r) (h1 : r < 4) (ha : 0 < a) (hb : 0 < b) (hc : 0 < c) (hd : 0 < d) : ∃ m, atI [V.int a, V.int b, V.int c, V.int d] r = some (.int m) ∧ 0 < m := by
  have e : r = 0 ∨ r = 1 ∨ r = 2 ∨ r = 3 := by omega
  rcases e with rfl | rfl | rfl | rfl
  · exact ⟨a, rfl, ha⟩
  · exact ⟨b, rfl, hb⟩
  · exact ⟨c, rfl, hc⟩
  · exact ⟨d, rfl, hd⟩
/-- the cell of rows at a place, a hole off them -/
def look (w h : Nat) (rows : List (List (Option Int))) (x y : Int) : Option Int := if 0 ≤ x ∧ x < w ∧ 0 ≤ y ∧ y < h then (rows.getD y.toNat []).getD x.toNat none else none
def spDraw (K : PySem.W.Frag) : Sp := fun vs H Q _ => ∃ (a : Addr) (ns : List Int) (k m : Int), vs = [.ref a, .int k, .int m] ∧ SqL K H a (ns.map V.int) ∧ 0 ≤ k ∧ k < 1000000 ∧ 0 < m ∧ ∀ r, 0 ≤ r → r < m → Q (.int r) H
def spSides (K : PySem.W.Frag) : Sp := fun vs H Q _ => ∃ (a : Addr) (ns : List Int) (k : Int), vs = [.ref a, .int k] ∧ SqL K H a (ns.map V.int) ∧ 0 ≤ k ∧ k < 10000 ∧ ∀ (w h : Int) p, 1 ≤ w → w ≤ 64 → 1 ≤ h → h ≤ 64 → H p = none → Q (.ref p) (upd H p (.tup [.int w, .int h]))
def spRows (K : PySem.W.Frag) : Sp := fun vs H Q _ => ∃ (a : Addr) (ns : List Int) (k w h : Int), vs = [.ref a, .int k, .int w, .int h] ∧ SqL K H a (ns.map V.int) ∧ 0 ≤ k ∧ k < 10000 ∧ 1 ≤ w ∧ w ≤ 64 ∧ 1 ≤ h ∧ h ≤ 64 ∧
  ∀ l ps rows H', Same H H' → H l = none → (∀ p ∈ ps, H p = none) → RowsAt H' l ps rows → Rect w.toNat h.toNat rows → Q (.ref l) H'
def spPacked : Sp := fun vs H Q _ => ∃ l ps rows w h, vs = [.ref l] ∧ RowsAt H l ps rows ∧ Rect w h rows ∧ ∀ p H', Same H H' → PicAt H' p w rows → Q (.ref p) H'
def spCell : Sp := fun vs H Q _ => ∃ p x y w h rows, vs = [.ref p, .int x, .int y] ∧ PicAt H p w rows ∧ Rect w h rows ∧ Q (cellV (look w h rows x y)) H
/-- paint_of: the row's list may be read under two names -/
def spPaint : Sp := fun vs H Q _ => ∃ l r, vs = [.ref l] ∧ H l = some (.lst (r.map cellV)) ∧ Cells r ∧ r.length ≤ 64 ∧ ∀ H', Same H H' → Q (.int (paintI r)) H'
def spMask : Sp := fun vs H Q _ => ∃ l r, vs = [.ref l] ∧ H l = some (.lst (r.map cellV)) ∧ Cells r ∧ r.length ≤ 64 ∧ ∀ H', Same H H' → Q (.int (maskI r)) H'
end L2

/-! OWN: a def of the text with its promise as one fact; tests; small bounds; the readings' steps. -/
namespace L2
open PySem PySem.Spec PyProof.Rows
structure Ow (P : Program) (w : World) (K : PySem.W.Frag) (mg : Str → Option Value) (base : Heap) (x : Str) (ps : List Str) (k : Nat) (sp : Sp) : Prop where
  ex : ∃ (f : Addr) (fd : FuncData), mg x = some (.ref f) ∧ PySem.W.keepIn K (.ref f) = true ∧ Binds K fd ps [] ∧ FnOk P w K mg base CX0 k f fd ps sp
theorem Df.ow {P : Program} {w : World} {K : PySem.W.Frag} {mg : Str → Option Value} {base : Heap} {x : Str} {st : Stmt} {ps : List Str} {f : Addr} {fd : FuncData} {k : Nat} {sp : Sp} (D : Df K mg x st ps f fd) (F : FnOk P w K mg base CX0 k f fd ps sp) :
    Ow P w K mg base x ps k sp := ⟨f, fd, D.m, D.F.kp, D.b, F⟩
theorem Ow.imp {P : Program} {w : World} {K : PySem.W.Frag} {mg : Str → Option Value} {base : Heap} {x : Str} {ps : List Str} {k : Nat} {sp sp' : Sp} (O : Ow P w K mg base x ps k sp) (h : ∀ vs H Q E, sp' vs H Q E → sp vs H Q E) : Ow P w K mg base x ps k sp' := by
  obtain ⟨f, fd, a, b, c, F⟩ := O.ex
  exact ⟨f, fd, a, b, c, F.imp h⟩
section
variable {X : Cx} {k j : Nat} {ps : List Str} {sp : Sp} {x : Str} {p pos : Pos} {e : Expr} {es : List Expr} {t : TA}
theorem pe_own (O : Ow X.prog X.w X.K X.mg X.base x ps k sp) (hr : Room j X.A) (hg : Gl X x) (ha : PA X (e :: es) t) (hk : k ≤ j := by decide) (hdb : (x == ("__debug__" : Str)) = false := by decide)
    (he : starEach (e :: es) X.env = (false, eval e X.env) :: starEach es X.env := by rfl) (hpl : (backTo pos (starEach es X.env)).any (·.1) = false := by rfl) :
    PE X (.Call (.Name x p) (e :: es) [] pos) (tCall sp [] E0 t) := by
  obtain ⟨f, fd, m, kp, b, F⟩ := O.ex
  exact pe_call F (hr.mono hk) hg m kp b .nil pass0 ha hdb he hpl
end
theorem iteD {c A B : Prop} [Decidable c] (h1 : c → A) (h2 : ¬ c → B) : if decide c = true then A else B := by
  by_cases h : c
  · rw [decide_eq_true h, if_pos rfl]; exact h1 h
  · rw [decide_eq_false h, if_neg Bool.false_ne_true]; exact h2 h
theorem iteN {c A B : Prop} [Decidable c] (h1 : ¬ c → A) (h2 : c → B) : if (!decide c) = true then A else B := by
  by_cases h : c
  · rw [decide_eq_true h, Bool.not_true, if_neg Bool.false_ne_true]; exact h2 h
  · rw [decide_eq_false h, Bool.not_false, if_pos rfl]; exact h1 h
theorem mulL {i j : Int} (h1 : -18446744073709551616 < i) (h2 : i < 18446744073709551616) : CMul i j := .inl ⟨h1, h2⟩
theorem mulR {i j : Int} (h1 : -18446744073709551616 < j) (h2 : j < 18446744073709551616) : CMul i j := .inr ⟨h1, h2⟩
theorem powS {i j : Int} (h1 : 0 ≤ j) (h2 : j ≤ 1000000) (h3 : i.natAbs < 18446744073709551616) : CPow i j := ⟨h1, h2, h3⟩
theorem szV {xs : List V} (h : xs.length ≤ 100000) : xs.length ≤ sizeLine := Nat.le_trans h (by decide)
theorem rngS {j : Int} (h1 : 0 ≤ j) (h2 : j ≤ 1000000000) : -(2 ^ 62) ≤ j ∧ j < 2 ^ 62 := by
  have : (1000000000 : Int) < 2 ^ 62 := by decide
  omega
end L2
/-! a statement behind which a word of one's own holds -/
namespace L2
open PySem PySem.Spec PyProof.Rows
def tMid (t u : TS) : TS := fun D σ H => ∃ I : St → Hp → Prop, t { D with nx := I } σ H ∧ ∀ σ' H', I σ' H' → u D σ' H'
theorem pss_mid {X : Cx} {st : Stmt} {rest : List Stmt} {t u : TS} (h1 : PS X st t) (h2 : PSs X rest u) : PSs X (st :: rest) (tMid t u) := by
  intro pins s σ H D I h
  obtain ⟨J, h, hj⟩ := h
  refine wpAny_execs_cons (thn (h1 pins s σ H { D with nx := J } I h) fun f s1 q => ?_)
  cases f with
  | next =>
    obtain ⟨σ', H', I', q⟩ := q
    exact h2 pins s1 σ' H' D I' (hj _ _ q)
  | ret v => exact q
  | brk => exact q
  | cont => exact q
end L2

/-! OWN: rows that grow, and how they stay. -/
namespace L2
open PySem PySem.Spec PyProof.Rows G
/-- rows at l with rows' lists at ps, all made since H0, which stays -/
structure RowsB (H0 H : Hp) (l : Addr) (ps : List Addr) (rows : List (List (Option Int))) : Prop where
  same : Same H0 H
  fl : H0 l = none
  fp : ∀ p ∈ ps, H0 p = none ∧ p ≠ l
  rat : RowsAt H l ps rows
theorem Same.put {H0 H : Hp} {p : Addr} {o : HO} (s : Same H0 H) (h : H0 p = none) : Same H0 (upd H p o) := fun b u e => by
  rw [upd_ne (ne_of_none e h)]
  exact s b u e
theorem RowsB.put {H0 H : Hp} {l p : Addr} {ps : List Addr} {rows : List (List (Option Int))} {o : HO} (B : RowsB H0 H l ps rows) (h0 : H0 p = none) (hl : p ≠ l) (hp : p ∉ ps) : RowsB H0 (upd H p o) l ps rows where
  same := B.same.put h0
  fl := B.fl
  fp := B.fp
  rat := ⟨by rw [upd_ne (Ne.symm hl)]; exact B.rat.lst, B.rat.len, fun i q r e1 e2 => by
    have hq : q ≠ p := fun e => hp (by rw [← e]; exact List.mem_of_getElem? e1)
    rw [upd_ne hq]
    exact B.rat.row i q r e1 e2⟩
theorem RowsB.push {H0 H : Hp} {l p : Addr} {ps : List Addr} {rows : List (List (Option Int))} {r : List (Option Int)} (B : RowsB H0 H l ps rows) (h0 : H0 p = none) (hl : p ≠ l) (hr : H p = some (.lst (r.map cellV))) :
    RowsB H0 (upd H l (.lst (ps.map V.ref ++ [.ref p]))) l (ps ++ [p]) (rows ++ [r]) where
  same := B.same.put B.fl
  fl := B.fl
  fp := fun q hq => by
    rcases List.mem_append.mp hq with h | h
    · exact B.fp q h
    · rw [List.mem_singleton.mp h]
      exact ⟨h0, hl⟩
  rat := ⟨by rw [upd_same, List.map_append]; rfl, by rw [List.length_append, List.length_append, B.rat.len]; rfl, fun i q s e1 e2 => by
    have hq : q ≠ l := by
      rcases List.mem_append.mp (List.mem_of_getElem? e1) with h | h
      · exact (B.fp q h).2
      · rw [List.mem_singleton.mp h]
        exact hl
    rw [upd_ne hq]
    have hlen := B.rat.len
    by_cases hi : i < ps.length
    · rw [List.getElem?_append_left hi] at e1
      rw [List.getElem?_append_left (by omega)] at e2
      exact B.rat.row i q s e1 e2
    · rw [List.getElem?_append_right (by omega)] at e1
      rw [List.getElem?_append_right (by omega)] at e2
      rw [hlen] at e1
      cases hj : i - rows.length with
      | zero =>
        rw [hj] at e1 e2
        cases e1
        cases e2
        exact hr
      | succ n =>
        rw [hj] at e1
        cases e1⟩
theorem RowsB.mono {H0 H H' : Hp} {l : Addr} {ps : List Addr} {rows : List (List (Option Int))} (B : RowsB H0 H l ps rows) (s : Same H H') : RowsB H0 H' l ps rows := ⟨B.same.trans s, B.fl, B.fp, B.rat.mono s⟩
theorem rowsNil {H0 H : Hp} {l : Addr} (s : Same H0 H) (h : H l = none) : RowsB H0 (upd H l (.lst [])) l [] [] :=
  ⟨s.trans (Same.new h), s.free h, (fun _ hp => nomatch hp), ⟨upd_same, rfl, (fun _ _ _ e => nomatch e)⟩⟩
theorem mul64 {y w : Int} (y0 : 0 ≤ y) (y1 : y ≤ 64) (w0 : 0 ≤ w) (w1 : w ≤ 64) : 0 ≤ y * w ∧ y * w ≤ 4096 := by
  refine ⟨Int.mul_nonneg y0 w0, ?_⟩
  have h := Int.mul_le_mul y1 w1 w0 (by decide : (0 : Int) ≤ 64)
  exact h
/-- one of so many ints -/
theorem at_some {xs : List V} {r : Int} (h0 : 0 ≤ r) (h1 : r < xs.length) : ∃ v, atI xs r = some v ∧ v ∈ xs := by
  have e : r = ((r.toNat : Nat) : Int) := by omega
  have hj : r.toNat < xs.length := by omega
  rw [e]
  exact ⟨xs[r.toNat], atI_nat (List.getElem?_eq_getElem hj), List.getElem_mem hj⟩
theorem Rect.ne {w h : Nat} {rows : List (List (Option Int))} (R : Rect w h rows) : 0 < rows.length := by have := R.len; have := R.h1; omega
theorem RowsAt.at {H : Hp} {l : Addr} {ps : List Addr} {rows : List (List (Option Int))} (a : RowsAt H l ps rows) {i : Nat} (hi : i < rows.length) : ∃ p, ps[i]? = some p ∧ H p = some (.lst ((rows[i]'hi).map cellV)) := by
  have hl := a.len
  exact ⟨ps[i]'(by omega), List.getElem?_eq_getElem _, a.row i _ _ (List.getElem?_eq_getElem _) (List.getElem?_eq_getElem _)⟩
theorem RowsAt.atI {H : Hp} {l : Addr} {ps : List Addr} {rows : List (List (Option Int))} (a : RowsAt H l ps rows) {i : Nat} (hi : i < rows.length) : ∃ p, L2.atI (ps.map V.ref) (i : Int) = some (.ref p) ∧ H p = some (.lst ((rows[i]'hi).map cellV)) := by
  obtain ⟨p, h1, h2⟩ := a.at hi
  exact ⟨p, atI_nat (by rw [List.getElem?_map, h1]; rfl), h2⟩
theorem Rect.row0 {w h : Nat} {rows : List (List (Option Int))} (R : Rect w h rows) {i : Nat} (hi : i < rows.length) : (rows[i]'hi).length = w ∧ Cells (rows[i]'hi) := R.row _ (List.getElem_mem hi)
/-- a picture stays where a list is changed -/
theorem PicAt.put {H : Hp} {p q : Addr} {w : Nat} {rows : List (List (Option Int))} {xs : List V} {o : HO} (h : PicAt H p w rows) (hq : H q = some (.lst xs)) : PicAt (upd H q o) p w rows := by
  obtain ⟨a, b, h1, h2, h3⟩ := h
  have ne : ∀ {c : Addr} {ys : List V}, H c = some (.tup ys) → c ≠ q := fun e z => by
    rw [z, hq] at e
    cases e
  exact ⟨a, b, by rw [upd_ne (ne h1)]; exact h1, by rw [upd_ne (ne h2)]; exact h2, by rw [upd_ne (ne h3)]; exact h3⟩
end L2
namespace L2
open PySem PySem.Spec PyProof.Rows G
def inB (x : V) (a b : Int) : Bool := match x with
  | .int i => decide (a ≤ i) && decide (i ≤ b)
  | _ => false
def cellB (x : V) : Bool := match x with
  | .non => true
  | x => inB x 0 15
def spWhole : Sp := fun vs H Q _ => ∃ x T, vs = [x] ∧ tyS H x = some T ∧ Q (.bl (T == "int")) H
theorem whole_table : ∀ T ∈ tysL, (if isiB T "int" = true then (!isiB T "bool") else false) = (T == "int") := by decide
theorem tyS_int {H : Hp} {x : V} {T : String} (h : tyS H x = some T) (n : ¬ ∃ i, x = V.int i) : (T == "int") = false := by
  cases x with
  | non => cases h; rfl
  | bl b => cases h; rfl
  | int i => exact absurd ⟨i, rfl⟩ n
  | str z => cases h; rfl
  | byt b => cases h
  | flt b => cases h
  | ty n => cases h
  | ref a =>
    simp only [tyS] at h
    split at h <;> first | (cases h; rfl) | cases h
def spWithin : Sp := fun vs H Q _ => ∃ x a b T, vs = [x, .int a, .int b] ∧ tyS H x = some T ∧ Q (.bl (inB x a b)) H
def spSide : Sp := fun vs H Q _ => ∃ x T, vs = [x] ∧ tyS H x = some T ∧ Q (.bl (inB x 1 64)) H
def spIsCell : Sp := fun vs H Q _ => ∃ x T, vs = [x] ∧ tyS H x = some T ∧ Q (.bl (cellB x)) H
def spRowGood : Sp := fun vs H Q _ => ∃ (l m : Addr) (r r' : List (Option Int)), vs = [.ref l, .ref m] ∧ H l = some (.lst (r.map cellV)) ∧ H m = some (.lst (r'.map cellV)) ∧ r.length = r'.length ∧ 1 ≤ r.length ∧ r.length ≤ 64 ∧ Cells r ∧ ∀ H', Same H H' → Q (.bl true) H'
def spPictured : Sp := fun vs H Q _ => ∃ l ps rows w h, vs = [.ref l] ∧ RowsAt H l ps rows ∧ Rect w h rows ∧ ∀ p H', Same H H' → H p = none → PicAt H' p w rows → Q (.ref p) H'
def spLook : Sp := fun vs H Q _ => ∃ l ps rows w h x y, vs = [.ref l, .int x, .int y] ∧ RowsAt H l ps rows ∧ Rect w h rows ∧ Q (cellV (look w h rows x y)) H
end L2
namespace L2
open PySem PySem.Spec PyProof.Rows G
end L2
namespace L2
open PySem PySem.Spec PyProof.Rows G
def spPlace (K : PySem.W.Frag) : Sp := fun vs H Q _ => ∃ (a : Addr) (ns : List Int) (k : Int), vs = [.ref a, .int k] ∧ SqL K H a (ns.map V.int) ∧ 0 ≤ k ∧ k < 10000 ∧ ∀ (z : Int) H', Same H H' → Q (.int z) H'
def spCR (K : PySem.W.Frag) : Sp := fun vs H Q _ => ∃ (a : Addr) (ns : List Int) (p l : Addr) (ps : List Addr) (rows : List (List (Option Int))) (w h : Nat), vs = [.ref a, .ref p, .ref l] ∧ SqL K H a (ns.map V.int) ∧ PicAt H p w rows ∧ RowsAt H l ps rows ∧ Rect w h rows ∧ ∀ H', Same H H' → Q (.bl true) H'
end L2

/-! OWN RULES, part 6: a tuple times an int; a def with defaults; a block without free names; a comprehension with a test. -/
namespace L2
open PySem PySem.Spec PyProof.Rows
/-! ### (x, ..) * k -/
section
variable {X : Cx}
/-- (v,) * k, k from 1 on: a tuple of k times v (the same one where k is 1) -/
def rRepT : R2 := fun x y H Q => ∃ a k v, x = .ref a ∧ y = .int k ∧ H a = some (.tup [v]) ∧ 1 ≤ k ∧ k ≤ 10000 ∧ ∀ p H', Same H H' → H' p = some (.tup (List.replicate k.toNat v)) → Q (.ref p) H'
end
/-! ### a def with defaults -/
structure FunD (K : PySem.W.Frag) (x qual : Str) (st : Stmt) (f : Addr) (fd : FuncData) (T : Addr) : Prop where
  ex : ∃ (oc : Value) (od : Option Addr) (kV doc pm : Value) (an : Option Addr) (cdv ct : Value) (osl : Array (Option Value)),
    fd = PySem.W.fnOf x qual (defArgs st) (defBody st) (defScope st) (.ref T) kV doc pm an cdv ct ∧ K.lookup f = some ⟨oc, od, .func fd, osl⟩ ∧ PySem.W.codeIn K cdv qual = true
  kp : PySem.W.keepIn K (.ref f) = true
theorem FunD.ok {P : Program} {w : World} {K : PySem.W.Frag} {mg : Str → Option Value} {base : Heap} {x qual : Str} {st : Stmt} {f T : Addr} {fd : FuncData} {N ps : List Str} {k : Nat} {sp : Sp} (F : FunD K x qual st f fd T) (S : FnScope N ps (defScope st)) (len : ∀ vs H Q E, sp vs H Q E → vs.length = ps.length)
    (hbody : ∀ (cdv : Value) (A : Around) (outer : List Env) (s : Shared) (H : Hp) (vs : List V) (Q : VK) (E : XK), Room k (A.deeper (envOfC qual (defScope st) s.heap.objs.size f cdv)) → sp vs H Q E →
      ∃ t, PSs (cxOf CX0 P w K mg base N qual (defScope st) f cdv A outer s H E).nox (defBody st) t ∧ t { nx := fun _ H' => Q .non H', rt := Q } (start N vs) H) : FnOk P w K mg base CX0 (k + 1) f fd ps sp := by
  obtain ⟨oc, od, kV, doc, pm, an, cdv, ct, osl, rfl, lk, hcd⟩ := F.ex
  refine fn_of lk hcd S len fun A outer s H vs Q E hr hsp => ?_
  obtain ⟨t, h, q⟩ := hbody cdv A outer s H vs Q E hr hsp
  exact ⟨t, h.nox, q⟩
/-- the same def under two counts of arguments: all given (ds = []), or the last ones left out -/
structure Owd (P : Program) (w : World) (K : PySem.W.Frag) (mg : Str → Option Value) (base : Heap) (x : Str) (ps : List Str) (dvs : List V) (k : Nat) (sp : Sp) : Prop where
  ex : ∃ (f : Addr) (fd : FuncData) (ds : List Value), mg x = some (.ref f) ∧ PySem.W.keepIn K (.ref f) = true ∧ Binds K fd ps ds ∧ Vals dvs ds ∧ FnOk P w K mg base CX0 k f fd ps sp
/-! ### a block that reads no name of the def -/
def blkOk0 (sc : Scope) : Bool := sc.kind == .function && sc.names.all (fun y => y.2 != .cell && y.2 != .free && (y.2 != .local || sc.names.lookup y.1 == some .local))
section
variable {X : Cx} {sc : Scope} {cl : List (Str × Addr)} {C : Addr} {N : List Str} {fp : List Addr} {s2 : Shared} {H2 : Hp} {pn : List (Addr × Obj)} {tg l : Expr} {tl : TE}
end
/-! ### a comprehension with a test -/
end L2
namespace L2
open PySem PySem.Spec PyProof.Rows
/-- a def whose last parameter has the default None -/
structure DfD (K : PySem.W.Frag) (mg : Str → Option Value) (x : Str) (st : Stmt) (ps : List Str) (f : Addr) (fd : FuncData) (T : Addr) : Prop where
  F : FunD K x x st f fd T
  b : Binds K fd ps []
  b1 : Binds K fd ps [.none]
  m : mg x = some (.ref f)
theorem DfD.ow {P : Program} {w : World} {K : PySem.W.Frag} {mg : Str → Option Value} {base : Heap} {x : Str} {st : Stmt} {ps : List Str} {f T : Addr} {fd : FuncData} {k : Nat} {sp : Sp} (D : DfD K mg x st ps f fd T) (F : FnOk P w K mg base CX0 k f fd ps sp) :
    Ow P w K mg base x ps k sp := ⟨f, fd, D.m, D.F.kp, D.b, F⟩
end L2

/-! OWN: what rows are told back as. -/
namespace L2
open PySem PySem.Spec PyProof.Rows G
def spRowOf : Sp := fun vs H Q _ => ∃ p y w h rows, vs = [.ref p, .int y] ∧ PicAt H p w rows ∧ Rect w h rows ∧ 0 ≤ y ∧ y < h ∧ ∀ l H', Same H H' → H l = none → H' l = some (.lst ((rows.getD y.toNat []).map cellV)) → Q (.ref l) H'
def spRowsOf : Sp := fun vs H Q _ => ∃ p w h rows, vs = [.ref p] ∧ PicAt H p w rows ∧ Rect w h rows ∧ ∀ l ps H', RowsB H H' l ps rows → Q (.ref l) H'
def spBits : Sp := fun vs H Q _ => ∃ m : Int, vs = [.int m] ∧ 0 ≤ m ∧ Q (.int (pc m.toNat : Int)) H
def spManyP : Sp := fun vs H Q _ => ∃ p w h rows, vs = [.ref p] ∧ PicAt H p w rows ∧ Rect w h rows ∧ ∀ H', Same H H' → Q (.int ((rows.map fun r => (manyI r : Int)).sum)) H'
def spLMany : Sp := fun vs H Q _ => ∃ l ps w h rows, vs = [.ref l] ∧ RowsAt H l ps rows ∧ Rect w h rows ∧ ∀ H', Same H H' → Q (.int ((rows.map fun r => (manyI r : Int)).sum)) H'
end L2
namespace L2
open PySem PySem.Spec PyProof.Rows G
def spFilled : Sp := fun vs H Q _ => ∃ (w h : Int) (c : Option Int), vs = [.int w, .int h, cellV c] ∧ 1 ≤ w ∧ w ≤ 64 ∧ 1 ≤ h ∧ h ≤ 64 ∧ Cell c ∧ ∀ p H', Same H H' → PicAt H' p w.toNat (List.replicate h.toNat (List.replicate w.toNat c)) → Q (.ref p) H'
theorem flat_one {α : Type} (x : α) : ∀ k : Nat, (List.replicate k [x]).flatten = List.replicate k x
  | 0 => rfl
  | k + 1 => by rw [List.replicate_succ, List.flatten_cons, flat_one x k, List.replicate_succ]; rfl
end L2

/-! OWN: when a paint and a mask are those of a row, in plain numbers. -/
namespace G
open PySem
/-- the cells that are read of a paint and a mask -/
def readRow : Nat → Int → Int → List (Option Int)
  | 0, _, _ => []
  | n + 1, P, M => (if M % 2 = 1 then some (P % 16) else none) :: readRow n (P / 16) (M / 2)
/-- paint and mask of a row so wide -/
def okRow : Nat → Int → Int → Bool
  | 0, P, M => decide (P = 0) && decide (M = 0)
  | n + 1, P, M => (decide (M % 2 = 1) || decide (P % 16 = 0)) && okRow n (P / 16) (M / 2)
/-- the bits that a paint may have -/
def roomI : Nat → Int → Int
  | 0, _ => 0
  | n + 1, M => (if M % 2 = 1 then 15 else 0) + 16 * roomI n (M / 2)
end G

/-! OWN: t + u of any two tuples; two pictures compared. -/
namespace L2
open PySem PySem.Spec PyProof.Rows
/-- t + u: an empty side gives the other itself -/
def rCatA (K : PySem.W.Frag) : R2 := fun x y H Q => ∃ a b xs ys, x = .ref a ∧ y = .ref b ∧ SqT K H a xs ∧ SqT K H b ys ∧ xs.length + ys.length ≤ sizeLine ∧
  (xs = [] → Q (.ref b) H) ∧ (xs ≠ [] → ys = [] → Q (.ref a) H) ∧ (xs ≠ [] → ys ≠ [] → ∀ p, H p = none → Q (.ref p) (upd H p (.tup (xs ++ ys))))
section
variable {X : Cx}
/-- two tuples of two ints and two tuples of ints -/
def rEqP (K : PySem.W.Frag) : R2 := fun x y H Q => ∃ (a b pa pb qa qb : Addr) (w h w' h' : Int) (ns ms ns' ms' : List Int), x = .ref a ∧ y = .ref b ∧ SqT K H a [.int w, .int h, .ref pa, .ref pb] ∧ SqT K H b [.int w', .int h', .ref qa, .ref qb] ∧
  SqT K H pa (ns.map V.int) ∧ SqT K H pb (ms.map V.int) ∧ SqT K H qa (ns'.map V.int) ∧ SqT K H qb (ms'.map V.int) ∧ Q (.bl ((w == w') && ((h == h') && (decide (ns = ns') && decide (ms = ms'))))) H
/-- i * j, both of any size that these papers draw -/
def CMulW (i j : Int) : Prop := i.natAbs < 2 ^ 1000 ∧ j.natAbs < 2 ^ 1000
end
end L2

/-! OWN RULES: min and max of a list of ints, bit_length, l == [], a def with two ints as defaults. -/
namespace L2
open PySem PySem.Spec PyProof.Rows
section
variable {X : Cx}
def rEqE (K : PySem.W.Frag) : R2 := fun x y H Q => ∃ (a b : Addr) (xs : List V), x = .ref a ∧ y = .ref b ∧ SqL K H a xs ∧ SqL K H b [] ∧ Q (.bl (decide (xs.length = 0))) H
theorem op_eqE (hu : X.A.units + 1 < cLine) : OpR X (compareOp .Eq) (rEqE X.K) := by
  intro pins s σ H x y v u Q I rx ry h0
  obtain ⟨a, b, xs, rfl, rfl, ha, hb, q⟩ := h0
  cases rx
  cases ry
  obtain ⟨its, r1, p1, _⟩ := I.list ha
  obtain ⟨its2, r2, p2, _⟩ := I.list hb
  have l1 := r1.length
  have l2 := r2.length
  have z2 : its2.toArray.size = 0 := by rw [List.size_toArray, ← l2]; rfl
  by_cases hx : xs.length = 0
  · have z1 : its.toArray.size = 0 := by rw [List.size_toArray]; omega
    refine SeqAt.eq_listAt (e := fun _ => true) p1.isList p2.isList (by rw [z1, z2]) (by omega) (fun j h1 _ => absurd h1 (by omega)) ⟨.bl true, H, I, ?_, ?_⟩
    · show Value.bool _ = Value.bool true
      rw [z1]
      rfl
    · rw [decide_eq_true hx] at q
      exact q
  · refine SeqAt.eq_list_lengthsAt p1.isList p2.isList (by rw [z2, List.size_toArray]; exact bne_iff_ne.mpr (by omega)) (by omega) ⟨.bl false, H, I, rfl, ?_⟩
    rw [decide_eq_false hx] at q
    exact q
end
/-- a def whose last two parameters have ints as defaults -/
structure Df2 (K : PySem.W.Frag) (mg : Str → Option Value) (x : Str) (st : Stmt) (ps : List Str) (f : Addr) (fd : FuncData) (T : Addr) (d e : Int) : Prop where
  F : FunD K x x st f fd T
  b : Binds K fd ps []
  b1 : ∃ t, Binds K fd ps [.int e t]
  b2 : ∃ t u, Binds K fd ps [.int d t, .int e u]
  m : mg x = some (.ref f)
section
variable {P : Program} {w : World} {K : PySem.W.Frag} {mg : Str → Option Value} {base : Heap} {x : Str} {st : Stmt} {ps : List Str} {f T : Addr} {fd : FuncData} {k : Nat} {sp : Sp} {d e : Int}
theorem Df2.ow (D : Df2 K mg x st ps f fd T d e) (F : FnOk P w K mg base CX0 k f fd ps sp) : Ow P w K mg base x ps k sp := ⟨f, fd, D.m, D.F.kp, D.b, F⟩
end
end L2

/-! OWN: rows as a function of places; turned, mirrored, upended. -/
namespace L2
open G
abbrev Rws := List (List (Option Int))
def cellN (rows : Rws) (x y : Nat) : Option Int := (((rows[y]?).getD [])[x]?).join
def gridL (w h : Nat) (f : Nat → Nat → Option Int) : Rws := (List.range h).map fun y => (List.range w).map fun x => f x y
theorem grid_len (w h : Nat) (f : Nat → Nat → Option Int) : (gridL w h f).length = h := by unfold gridL; rw [List.length_map, List.length_range]
theorem Rect.cell {w h : Nat} {rows : Rws} (R : Rect w h rows) (x y : Nat) : Cell (cellN rows x y) := by
  unfold cellN
  cases hy : rows[y]? with
  | none => exact fun z e => nomatch e
  | some r =>
    show Cell ((r[x]?).join)
    cases hx : r[x]? with
    | none => exact fun z e => nomatch e
    | some c => exact (R.row r (List.mem_of_getElem? hy)).2 c (List.mem_of_getElem? hx)
theorem grid_rect {w h : Nat} {f : Nat → Nat → Option Int} (h1 : 1 ≤ h) (h2 : h ≤ 64) (w1 : 1 ≤ w) (w2 : w ≤ 64) (hc : ∀ x y, Cell (f x y)) : Rect w h (gridL w h f) :=
  ⟨grid_len w h f, h1, h2, w1, w2, fun r hr => by
    unfold gridL at hr
    obtain ⟨y, _, rfl⟩ := List.mem_map.mp hr
    refine ⟨by rw [List.length_map, List.length_range], fun c hc' => ?_⟩
    obtain ⟨x, _, rfl⟩ := List.mem_map.mp hc'
    exact hc x y⟩
def turnR (w h : Nat) (rows : Rws) : Rws := gridL h w fun x y => cellN rows y (h - 1 - x)
def mirR (w h : Nat) (rows : Rws) : Rws := gridL w h fun x y => cellN rows (w - 1 - x) y
def updR (w h : Nat) (rows : Rws) : Rws := gridL w h fun x y => cellN rows x (h - 1 - y)
theorem Rect.turn {w h : Nat} {rows : Rws} (R : Rect w h rows) : Rect h w (turnR w h rows) := grid_rect R.w1 R.w2 R.h1 R.h2 fun _ _ => R.cell _ _
theorem Rect.upd {w h : Nat} {rows : Rws} (R : Rect w h rows) : Rect w h (updR w h rows) := grid_rect R.h1 R.h2 R.w1 R.w2 fun _ _ => R.cell _ _
end L2

/-! OWN: rows that a comprehension makes; turned, mirrored, upended. -/
namespace L2
open PySem PySem.Spec PyProof.Rows G
structure Made (H H2 : Hp) (f : Nat → List (Option Int)) (i : Nat) (qs : List Addr) : Prop where
  same : Same H H2
  len : qs.length = i
  fr : ∀ q ∈ qs, H q = none
  at' : ∀ (j : Nat) q, qs[j]? = some q → H2 q = some (.lst ((f j).map cellV))
  nd : qs.Nodup
theorem Made.nil {H : Hp} {f : Nat → List (Option Int)} : Made H H f 0 [] := ⟨Same.refl _, rfl, (fun _ h => nomatch h), (fun _ _ h => nomatch h), List.nodup_nil⟩
theorem Made.push {H H2 H3 : Hp} {f : Nat → List (Option Int)} {i : Nat} {qs : List Addr} {l : Addr} (M : Made H H2 f i qs) (s : Same H2 H3) (n : H2 l = none) (g : H3 l = some (.lst ((f i).map cellV))) : Made H H3 f (i + 1) (qs ++ [l]) where
  same := M.same.trans s
  len := by rw [List.length_append, M.len]; rfl
  fr := fun q hq => by
    rcases List.mem_append.mp hq with h | h
    · exact M.fr q h
    · rw [List.mem_singleton.mp h]
      exact M.same.free n
  at' := fun j q e => by
    have hl := M.len
    by_cases hj : j < qs.length
    · rw [List.getElem?_append_left hj] at e
      exact s _ _ (M.at' j q e)
    · rw [List.getElem?_append_right (by omega)] at e
      cases hk : j - qs.length with
      | zero =>
        rw [hk] at e
        cases e
        have ej : j = i := by omega
        rw [ej]
        exact g
      | succ n =>
        rw [hk] at e
        cases e
  nd := by
    refine List.nodup_append.mpr ⟨M.nd, by simp, fun q hq r hr e => ?_⟩
    rw [List.mem_singleton.mp hr] at e
    obtain ⟨j, hj, ej⟩ := List.mem_iff_getElem.mp hq
    have := M.at' j q (by rw [List.getElem?_eq_getElem hj, ej])
    rw [e, n] at this
    cases this
theorem Made.rows {H H2 : Hp} {f : Nat → List (Option Int)} {n : Nat} {qs : List Addr} {l : Addr} (M : Made H H2 f n qs) (nl : H2 l = none) : RowsB H (upd H2 l (.lst (qs.map V.ref))) l qs ((List.range n).map f) where
  same := M.same.trans (Same.new nl)
  fl := M.same.free nl
  fp := fun p hp => ⟨M.fr p hp, fun e => by
    obtain ⟨j, hj, ej⟩ := List.mem_iff_getElem.mp hp
    have := M.at' j p (by rw [List.getElem?_eq_getElem hj, ej])
    rw [e, nl] at this
    cases this⟩
  rat := ⟨upd_same, by rw [M.len, List.length_map, List.length_range], fun i p r e1 e2 => by
    have hi : i < n := by
      have := (List.getElem?_eq_some_iff.mp e1).1
      have := M.len
      omega
    rw [List.getElem?_map, List.getElem?_range hi] at e2
    cases e2
    exact (Same.new nl) _ _ (M.at' i p e1)⟩
theorem PicAt.of {H : Hp} {p : Addr} {w : Nat} {rows rows' : List (List (Option Int))} (h : PicAt H p w rows) (e : rows = rows') : PicAt H p w rows' := e ▸ h
def spPk : Sp := fun vs H Q _ => ∃ (l : Addr) (ps : List Addr) (rows : List (List (Option Int))) (w h : Nat), vs = [.int (w : Int), .ref l] ∧ RowsAt H l ps rows ∧ Rect w h rows ∧ ∀ p H', Same H H' → H p = none → PicAt H' p w rows → Q (.ref p) H'
def spColUp : Sp := fun vs H Q _ => ∃ (l : Addr) (x : Nat) (ps : List Addr) (rows : List (List (Option Int))) (w h : Nat), vs = [.ref l, .int (x : Int)] ∧ RowsAt H l ps rows ∧ Rect w h rows ∧ x < w ∧ ∀ l' H', Same H H' → H l' = none → H' l' = some (.lst (((List.range h).map fun i => cellN rows x (h - 1 - i)).map cellV)) → Q (.ref l') H'
def spTurned : Sp := fun vs H Q _ => ∃ p w h rows, vs = [.ref p] ∧ PicAt H p w rows ∧ Rect w h rows ∧ ∀ q H', Same H H' → PicAt H' q h (turnR w h rows) → Q (.ref q) H'
def spMirrored : Sp := fun vs H Q _ => ∃ p w h rows, vs = [.ref p] ∧ PicAt H p w rows ∧ Rect w h rows ∧ ∀ q H', Same H H' → PicAt H' q w (mirR w h rows) → Q (.ref q) H'
def spUpended : Sp := fun vs H Q _ => ∃ p w h rows, vs = [.ref p] ∧ PicAt H p w rows ∧ Rect w h rows ∧ ∀ q H', Same H H' → PicAt H' q w (updR w h rows) → Q (.ref q) H'
/-- a cell of rows by two indices -/
theorem RowsAt.cell {H : Hp} {l : Addr} {ps : List Addr} {rows : List (List (Option Int))} {w h : Nat} (a : RowsAt H l ps rows) (R : Rect w h rows) {x y : Nat} (hx : x < w) (hy : y < h) :
    ∃ p xs, ps[y]? = some p ∧ L2.atI (ps.map V.ref) (y : Int) = some (.ref p) ∧ H p = some (.lst xs) ∧ L2.atI xs (x : Int) = some (cellV (cellN rows x y)) := by
  have hR := R.len
  have hl : y < rows.length := by omega
  obtain ⟨p, e0, g⟩ := a.at hl
  have e1 : L2.atI (ps.map V.ref) (y : Int) = some (.ref p) := atI_nat (by rw [List.getElem?_map, e0]; rfl)
  have hw := (R.row0 hl).1
  refine ⟨p, _, e0, e1, g, atI_nat ?_⟩
  have e : cellN rows x y = (rows[y]'hl)[x]'(by omega) := by
    unfold cellN
    rw [List.getElem?_eq_getElem hl]
    show ((rows[y]'hl)[x]?).join = _
    rw [List.getElem?_eq_getElem (by omega)]
    rfl
  rw [List.getElem?_map, List.getElem?_eq_getElem (by omega), e]
  rfl
end L2

/-! OWN RULE: what stands at a new address becomes tracked. -/
namespace L2
open PySem PySem.Spec PyProof.Rows
section
variable {X : Cx} {pins : List (Addr × Obj)} {σ : St} {H : Hp} {s : Shared}
/-- what stands at a new address becomes tracked -/
theorem Inv.adopt {a : Addr} {o : HO} {h' : Heap} {tk : Nat} (I : Inv X pins σ H s) (F : FpOk X pins H a) (k : ∀ b u, b ≠ a → s.heap.get? b = some u → h'.get? b = some u) (ha : ∃ u, h'.get? a = some u) (new : ObjOk X.prog X.w (upd H a o) h' a o) :
    Inv X pins σ (upd H a o) { s with heap := h', toks := tk } := by
  obtain ⟨f0, f1, f2, f3, f4, f5⟩ := F
  have nH : ∀ {b : Addr} {u : HO}, H b = some u → b ≠ a := fun e => ne_of_none e f0
  have nch : ∀ {b : Addr}, b ∉ [a] → b ≠ a := fun h z => h (by simp [z])
  refine I.step (g' := s.gens) (d' := s.drawn) (t' := tk) (ch := [a]) (fun b hb => ?_) (fun b u _ _ c e _ => k b u (nch c) e) (fun b u _ _ c e _ => ⟨u.slots, k b u (nch c) e⟩) (fun b u c _ n => by rw [upd_ne (nch c)]; exact n) (fun b u c e => ⟨u, k b u (nch c) e⟩)
    (fun b xs e => by rw [upd_ne (nH e)]; exact e) (fun b u xs e => by rw [upd_ne (nH e)]; exact e) (fun b ps e => ⟨#[], by rw [upd_ne (nH e), e]; simp⟩) (fun m hm => ?_) (fun b u e => ?_) I.bare
  · have e : b = a := by simpa using hb
    subst e
    exact ⟨f3, f1, f4, f5⟩
  · obtain ⟨u, es, ep, ho, r⟩ := hm
    exact ⟨u, es, ep, k _ u (Ne.symm f1) ho, r⟩
  · by_cases z : b = a
    · subst z
      rw [upd_same] at e
      cases e
      exact new
    · rw [upd_ne z] at e
      refine (I.hok b u e).stay (fun c v hc q => k c v ?_ q) (fun c q => by rw [upd_ne (nH q)]; exact q) fun c xs q => by rw [upd_ne (nH q)]; exact q
      rcases hc with rfl | hc
      · exact z
      · exact nH hc
end
end L2

/-! OWN RULES, exceptions, part 1: an exception of an own class on its way through the callers' frames; raise. -/
namespace L2
open PySem PySem.Spec PyProof.Rows
/-- an exception on its way: its object at a, of the own class at C, its words at t; B: what it does not touch (all but the frames and its own records) -/
structure Fly (P : Program) (w : World) (st : List Env) (H H' : Hp) (B : Heap) (a C t : Addr) (h h' : Heap) : Prop where
  un : Un (frs st) [] H H' h h'
  keep : ∀ b o, h.get? b = some o → H b = none → b ∉ frs st → B.get? b = some o
  thr : ∀ b o, h.get? b = some o → b ∉ frs st → ∃ o', B.get? b = some o'
  hok : HOk P w H' B
  fl : Heap.FlyingW B st a (.ref C) (.ref t) h'
/-- how an exception lies behind a call -/
def CX1 (P : Program) (w : World) : CXT := fun st H s E e s' => ∃ (a t C : Addr) (B : Heap) (H' : Hp), e = .ref a ∧ s'.os = s.os ∧ AllBare s'.gens ∧ Fly P w st H H' B a C t s.heap s'.heap ∧ E (.ref C) none H'
section
variable {X : Cx} {pins : List (Addr × Obj)} {σ : St} {H H' : Hp} {s : Shared}
theorem nin {b : Addr} : b ∉ ([] : List Addr) := fun h => nomatch h
theorem frs_cons {env : Env} {outer : List Env} {L : Addr} (hf : env.frame = some L) : frs (env :: outer) = L :: frs outer := by
  unfold frs
  rw [List.filterMap_cons, hf]
/-- it leaves one frame more -/
theorem Fly.leave {B : Heap} {a C t : Addr} {h1 h' : Heap} (I : Inv X pins σ H s) (hst : X.stack = X.env :: X.outer) (hf : X.env.frame = some X.env.locals) (hex : X.ex = []) (F : Fly X.prog X.w X.stack H H' B a C t s.heap h1)
    (fl : Heap.FlyingW B X.outer a (.ref C) (.ref t) h') (sm : h1.UpToSlots h') : Fly X.prog X.w X.outer X.H₀ H' B a C t X.s₀.heap h' := by
  have hS : frs X.stack = X.env.locals :: frs X.outer := by rw [hst]; exact frs_cons hf
  have hx : ∀ b, b ∉ X.ex := fun b => by rw [hex]; exact nin
  have ne : ∀ b o, X.s₀.heap.get? b = some o → b ≠ X.env.locals := fun b o e => Nat.ne_of_lt (Nat.lt_of_lt_of_le (Heap.lt_size e) I.ok.above)
  have out : ∀ b o, X.s₀.heap.get? b = some o → b ∉ frs X.outer → b ∉ frs X.stack := fun b o e n hb => by
    rw [hS] at hb
    rcases List.mem_cons.mp hb with z | z
    · exact ne b o e z
    · exact n z
  have inn : ∀ b, b ∈ frs X.outer → b ∈ frs X.stack := fun b hb => by rw [hS]; exact List.mem_cons_of_mem _ hb
  have kB : ∀ b o, X.s₀.heap.get? b = some o → X.H₀ b = none → b ∉ frs X.outer → B.get? b = some o := fun b o e n nb =>
    F.keep b o (I.base.keep b o e n nb (hx b)) (I.base.free b o e n (hx b)) (out b o e nb)
  have tB : ∀ b o, X.s₀.heap.get? b = some o → b ∉ frs X.outer → ∃ o', B.get? b = some o' := fun b o e nb => by
    obtain ⟨o', e'⟩ := I.base.there b o e (hx b)
    exact F.thr b o' e' (out b o e nb)
  have sl : ∀ b o, X.s₀.heap.get? b = some o → X.H₀ b = none → b ∈ frs X.outer → ∃ sl, h'.get? b = some { o with slots := sl } := fun b o e n hb => by
    obtain ⟨s1, e1⟩ := I.base.slot b o e n hb (hx b)
    obtain ⟨s2, e2⟩ := F.un.slot b _ e1 (I.base.free b o e n (hx b)) (inn b hb) nin
    obtain ⟨_, o', ho', hd⟩ := I.ok.funs.mem hb
    rw [e] at ho'
    cases ho'
    obtain ⟨s3, e3⟩ := sm b _ e2 hd
    exact ⟨s3, e3⟩
  refine ⟨⟨fun b o e n nb _ => fl.1 b o (kB b o e n nb), fun b o e n hb _ => sl b o e n hb, fun b o e n _ => ?_, fun b o e _ => ?_, fun b xs e => F.un.tups b xs (I.base.tups b xs e), fun b o u e => F.un.frzs b o u (I.base.frzs b o u e), fun b ps e => ?_⟩, kB, tB, F.hok, fl⟩
  · obtain ⟨s1, e1⟩ := I.base.any e n (hx b)
    exact F.un.free b _ e1 (I.base.free b o e n (hx b)) nin
  · by_cases hb : b ∈ frs X.outer
    · obtain ⟨s1, e1⟩ := sl b o e (I.ok.frf b hb) hb
      exact ⟨_, e1⟩
    · obtain ⟨o', e'⟩ := tB b o e hb
      exact ⟨o', fl.1 b o' e'⟩
  · obtain ⟨m1, e1⟩ := I.base.tbls b ps e
    obtain ⟨m2, e2⟩ := F.un.tbls b _ e1
    exact ⟨m1 ++ m2, by rw [e2, Array.append_assoc]⟩
/-- a new one leaves the frame in which it was raised -/
theorem Fly.first {e C t : Addr} {vs : List Value} {h1 h' : Heap} (I : Inv X pins σ H s) (hst : X.stack = X.env :: X.outer) (hf : X.env.frame = some X.env.locals) (hex : X.ex = []) (hx : Heap.MadeExcOf s.heap h1 e (.ref C) vs)
    (fl : Heap.FlyingW (PySem.W.hideAll s.heap (frs X.stack)) X.outer e (.ref C) (.ref t) h') (sm : h1.UpToSlots h') : Fly X.prog X.w X.outer X.H₀ H (PySem.W.hideAll s.heap (frs X.stack)) e C t X.s₀.heap h' := by
  have hS : frs X.stack = X.env.locals :: frs X.outer := by rw [hst]; exact frs_cons hf
  have hxx : ∀ b, b ∉ X.ex := fun b => by rw [hex]; exact nin
  have ne : ∀ b o, X.s₀.heap.get? b = some o → b ≠ X.env.locals := fun b o e => Nat.ne_of_lt (Nat.lt_of_lt_of_le (Heap.lt_size e) I.ok.above)
  have out : ∀ b o, X.s₀.heap.get? b = some o → b ∉ frs X.outer → b ∉ frs X.stack := fun b o e n hb => by
    rw [hS] at hb
    rcases List.mem_cons.mp hb with z | z
    · exact ne b o e z
    · exact n z
  have kB : ∀ b o, X.s₀.heap.get? b = some o → X.H₀ b = none → b ∉ frs X.outer → (PySem.W.hideAll s.heap (frs X.stack)).get? b = some o := fun b o e n nb => PySem.W.hideAll_get _ (I.base.keep b o e n nb (hxx b)) (out b o e nb)
  have tB : ∀ b o, X.s₀.heap.get? b = some o → b ∉ frs X.outer → ∃ o', (PySem.W.hideAll s.heap (frs X.stack)).get? b = some o' := fun b o e nb => by
    obtain ⟨o', e'⟩ := I.base.there b o e (hxx b)
    exact ⟨o', PySem.W.hideAll_get _ e' (out b o e nb)⟩
  have sl : ∀ b o, X.s₀.heap.get? b = some o → X.H₀ b = none → b ∈ frs X.outer → ∃ sl, h'.get? b = some { o with slots := sl } := fun b o e n hb => by
    obtain ⟨s1, e1⟩ := I.base.slot b o e n hb (hxx b)
    obtain ⟨_, o', ho', hd⟩ := I.ok.funs.mem hb
    rw [e] at ho'
    cases ho'
    obtain ⟨s3, e3⟩ := sm b _ (hx.keeps b _ e1) hd
    exact ⟨s3, e3⟩
  refine ⟨⟨fun b o e n nb _ => fl.1 b o (kB b o e n nb), fun b o e n hb _ => sl b o e n hb, fun b o e n _ => I.base.free b o e n (hxx b), fun b o e _ => ?_, fun b xs e => I.base.tups b xs e, fun b o u e => I.base.frzs b o u e, fun b ps e => I.base.tbls b ps e⟩, kB, tB, fun b u q => ?_, fl⟩
  · by_cases hb : b ∈ frs X.outer
    · obtain ⟨s1, e1⟩ := sl b o e (I.ok.frf b hb) hb
      exact ⟨_, e1⟩
    · obtain ⟨o', e'⟩ := tB b o e hb
      exact ⟨o', fl.1 b o' e'⟩
  · refine (I.hok b u q).stay (fun c v hc e => PySem.W.hideAll_get _ e fun hm => ?_) (fun _ z => z) fun _ _ z => z
    have n := I.stkFree c hm
    rcases hc with z | z
    · rw [z, q] at n
      cases n
    · rw [z] at n
      cases n
end
section
variable {P : Program} {w : World} {K : PySem.W.Frag} {mg : Str → Option Value} {base : Heap} {N : List Str} {qual : Str} {scope : Scope} {f : Addr} {cd : Value} {A : Around} {outer : List Env} {s : Shared} {H : Hp} {E : XK}
end
/-- a new exception of the class at C leaves this code as E tells -/
def Raises (X : Cx) (E : XK) : Prop := ∀ (pins : List (Addr × Obj)) (σ : St) (H : Hp) (s : Shared) (h' : Heap) (e C : Addr) (vs : List Value), Inv X pins σ H s → Heap.MadeExcOf s.heap h' e (.ref C) vs → E (.ref C) none H → X.xe (.ref e) { s with heap := h' }
/-! ### raise C(..), an own class under ValueError without an __init__ of its own -/
abbrev veMro : List Value := [.type "ValueError", .type "Exception", .type "BaseException", .type "object"]
def XCls (K : PySem.W.Frag) (C : Addr) : Prop := PySem.W.excIn K C veMro "ValueError.__new__" = true
theorem XCls.obj {K : PySem.W.Frag} {C : Addr} {h : Heap} (X : K.In h) (q : XCls K C) : ∃ bm N nm qn bs hdct sn sub ab col dd k0 k1 k2 k3 k5 mN, h.get? C = some (excClassObj nm qn C N bs bm hdct sn sub ab col dd k0 k1 k2 k3 k5 "ValueError.__new__") ∧ h.Ns N mN ∧ mN "__init__" = none ∧ OwnTail h veMro bm ∧
    ∃ c0 d0 cd0 sl0, K.lookup C = some ⟨c0, d0, .cls cd0, sl0⟩ ∧ cd0.mro = .ref C :: bm := by
  unfold XCls PySem.W.excIn at q
  split at q
  · rename_i dd cd sl ho
    split at q
    · rename_i C' bm k0 k1 k2 k3 n k5 hm hs
      simp only [Bool.and_eq_true, beq_iff_eq, Bool.not_eq_true'] at q
      obtain ⟨⟨⟨⟨⟨rfl, rfl⟩, hdel⟩, ht⟩, hok⟩, hni⟩ := q
      obtain ⟨nm, bs, mro, ns, qn, hd, sn, sub, ab, col, del⟩ := cd
      dsimp only at hm hdel hok hni
      subst hm hdel
      have hsl : sl = #[k0, k1, k2, k3, some (.builtin "ValueError.__new__"), k5] := by
        obtain ⟨l⟩ := sl
        simp only at hs
        rw [hs]
      subst hsl
      exact ⟨bm, ns, nm, qn, bs, hd, sn, sub, ab, col, dd, k0, k1, k2, k3, k5, _, X _ _ ho, .of_isNs (PySem.W.isNs_of_in X hok), PySem.W.nsMap_none_of_in X hok hni, PySem.W.tail_of_in X ht, _, _, _, _, ho, rfl⟩
    · cases q
  · cases q
section
variable {X : Cx} {E : XK} {x : Str} {np cpos pos : Pos} {e : Expr} {es : List Expr} {t : TA} {C : Addr}
def tRaise (C : Addr) (E : XK) (t : TA) : TS := fun _ σ H => t σ H fun vs H1 => vs.length ≤ 1000 ∧ E (.ref C) none H1
end
end L2

/-! OWN RULES, exceptions, part 2: what a caught exception is asked; names that go. -/
namespace L2
open PySem PySem.Spec PyProof.Rows
/-- what is known of an own error class -/
structure XC (K : PySem.W.Frag) (C : Addr) : Prop where
  cls : XCls K C
  ga : PySem.W.findIn K (.ref C) "__getattribute__" = some (some (.builtin "BaseException.__getattribute__"))
  gn : PySem.W.findIn K (.ref C) "__getattr__" = some none
  kc : PySem.W.findIn K (.ref C) "__class__" = some (some (.builtin "object.__class__"))
  kg : PySem.W.specialIn K (.builtin "object.__class__") "__get__" = some (some (.builtin "getset_descriptor.__get__"))
  kt : PySem.W.takesIn K (.builtin "object.__class__") = some true
  km : PySem.W.mroIn K C (.type "object") = some true
section
variable {prog : Program} {w : World} {A : Around} {E : Value → Shared → Prop} {s : Shared} {K : PySem.W.Frag} {x C : Addr} {ox : Obj}
theorem gaSlot : Slot "ValueError" "__getattribute__" "BaseException.__getattribute__" := F.attrBase_ValueError.ga
/-- the exception's object: of the class at C; nothing is said of its dict -/
def ExcAt (x C : Addr) (h : Heap) : Prop := ∃ o, h.get? x = some o ∧ o.cls = .ref C
theorem ExcAt.ty {M : Model} {h : Heap} (I : ExcAt x C h) : PySem.W.Looks M h (typeOf (.ref x)) (.ref C) := by
  obtain ⟨o, h1, h2⟩ := I
  have L : PySem.W.Looks M h (typeOf (.ref x)) o.cls := (PySem.W.Looks.ld h1).andThen .now
  rw [h2] at L
  exact L
end
/-! ### except G, an own class above the exception's -/
section
variable {M : Model} {A : Around} {E : Value → Shared → Prop}
variable {nm q : Str} {C N : Addr} {bs bm : List Value} {hdct : Bool} {sn : List Str} {sub : List Value} {ab : Bool} {col : Option Bool} {dd : Option Addr} {k0 k1 k2 k3 k5 : Option Value} {newId : String}
variable {nm' q' : Str} {G N' : Addr} {bs' bm' : List Value} {hdct' : Bool} {sn' : List Str} {sub' : List Value} {ab' : Bool} {col' : Option Bool} {dd' : Option Addr} {k0' k1' k2' k3' k5' : Option Value} {newId' : String}
theorem excMatches_own {h : Heap} {g : Array GenState} {d : Drawn} {t : Nat} {os : OsState} {e : Addr} {oe : Obj} {Q : Bool → Shared → Prop}
    (hC : h.get? C = some (excClassObj nm q C N bs bm hdct sn sub ab col dd k0 k1 k2 k3 k5 newId)) (hG : h.get? G = some (excClassObj nm' q' G N' bs' bm' hdct' sn' sub' ab' col' dd' k0' k1' k2' k3' k5' newId'))
    (he : h.get? e = some oe) (hcls : oe.cls = .ref C) (hbase : bm'.contains (.type "BaseException") = true) (hsub : (Value.ref C :: bm).contains (.ref G) = true)
    (hq : Q true ⟨h, g, d, t, os⟩) : wpAny M A (excMatches (.ref e) (.ref G)) Q E ⟨h, g, d, t, os⟩ := by
  have hcB : (Value.ref G :: bm').contains (.type "BaseException") = true := by rw [List.contains_cons, hbase, Bool.or_true]
  have f := tc_notTuple
  unfold excMatches
  repeat (first | (with_reducible refine wpAny_loadPart_at he ?_; rw [hcls]) | with_reducible refine wpAny_loadPart_at hG ?_ | (with_reducible refine wpAny_isSubtype_exc hG ?_; rw [hcB]) | (with_reducible refine wpAny_isSubtype_exc hC ?_; rw [hsub]) | wp_step)
  exact hq
end
/-! ### a name goes -/
section
variable {X : Cx} {pins : List (Addr × Obj)} {σ : St} {H : Hp} {s : Shared}
theorem unbind_ok {M : Model} {A : Around} {E : Value → Shared → Prop} {i : Nat} {n : Str} {pos : Pos} {Q : Unit → Shared → Prop} (I : Inv X pins σ H s) (hN : X.N.Nodup) (hi : X.N[i]? = some n) (hk : X.env.scope.names.lookup n = some .local)
    (h : ∀ s', Inv X pins (σ.set i none) H s' → Q () s') : wpAny M A (do bindName X.env n .none; unbindBehindTheSuite X.env n pos) Q E s := by
  obtain ⟨m, hn, hl⟩ := id I.loc
  have hcls : (X.env.scope.kind == .class || (X.env.scope.kind == .module && X.env.locals != X.env.globals)) = false := by rw [I.ok.kind]; rfl
  refine wpAny_nameGoes_keeps hk hn hcls fun h' v hn' hs => ?_
  obtain ⟨oL, _, _, hoL, _⟩ := id hn
  refine h _ ⟨I.ok, I.os, I.bare, ⟨fun b o e n' hb hx => ?_, fun b o e n' hb hx => ?_, I.base.free, fun b o e hx => ?_, I.base.tups, I.base.frzs, I.base.tbls⟩, ⟨_, hn', fun j y v' e1 e2 e3 => ?_⟩, fun y c e => ?_, I.free, I.freeC, fun p hp => ?_, fun b ob e => ?_, by simpa using I.len⟩
  · exact (hs.2 b (Nat.ne_of_lt (Nat.lt_of_lt_of_le (Heap.lt_size e) I.ok.above))).trans (I.base.keep b o e n' hb hx)
  · obtain ⟨sl, e1⟩ := I.base.slot b o e n' hb hx
    exact ⟨sl, (hs.2 b (Nat.ne_of_lt (Nat.lt_of_lt_of_le (Heap.lt_size e) I.ok.above))).trans e1⟩
  · obtain ⟨o', e1⟩ := I.base.there b o e hx
    exact ⟨o', (hs.2 b (Nat.ne_of_lt (Nat.lt_of_lt_of_le (Heap.lt_size e) I.ok.above))).trans e1⟩
  · have hj : j ≠ i := fun z => by
      rw [z] at e2
      have hiσ : i < σ.length := by rw [I.len]; exact (List.getElem?_eq_some_iff.mp hi).1
      rw [List.getElem?_set_self hiσ] at e2
      cases e2
    rw [List.getElem?_set_ne (Ne.symm hj)] at e2
    obtain ⟨u', r', q⟩ := hl j y v' e1 e2 e3
    refine ⟨u', r', ?_⟩
    rcases q with ⟨k, e⟩ | ⟨k, c, e, o, ho, hd⟩
    · refine .inl ⟨k, ?_⟩
      have : y ≠ n := fun e => hj (nodup_ix hN e1 (e ▸ hi))
      simp [this, e]
    · exact .inr ⟨k, c, e, o, (hs.2 c (I.cne y c e)).trans ho, hd⟩
  · obtain ⟨v', o, ho, hd⟩ := I.cell y c e
    exact ⟨v', o, (hs.2 c (I.cne y c e)).trans ho, hd⟩
  · obtain ⟨e1, n1, ne, nf, d⟩ := I.pin p hp
    exact ⟨(hs.2 p.1 ne).trans e1, n1, ne, nf, d⟩
  · refine (I.hok b ob e).stay (fun c w' hc q => (hs.2 c ?_).trans q) (fun _ q => q) fun _ _ q => q
    rintro rfl
    have hfree := I.free
    rcases hc with z | z
    · rw [← z, hfree] at e; cases e
    · rw [hfree] at z; cases z
end
end L2

/-! OWN RULES, exceptions, part 3: try: f(..) except G as n: ..; isinstance of what was caught. -/
namespace L2
open PySem PySem.Spec PyProof.Rows
/-- it stays where it is while the frames' slots turn -/
theorem Fly.on {P : Program} {w : World} {st : List Env} {H H' : Hp} {B : Heap} {a C t : Addr} {h h1 h2 : Heap} (F : Fly P w st H H' B a C t h h1) (fl : Heap.FlyingW B st a (.ref C) (.ref t) h2) (sm : h1.UpToSlots h2) : Fly P w st H H' B a C t h h2 := by
  have sl : ∀ b o, h.get? b = some o → H b = none → b ∈ frs st → ∃ sl, h2.get? b = some { o with slots := sl } := fun b o e n hb => by
    obtain ⟨s1, e1⟩ := F.un.slot b o e n hb nin
    obtain ⟨_, o', ho', hd⟩ := F.fl.2.2.1.mem hb
    rw [e1] at ho'
    cases ho'
    obtain ⟨s2, e2⟩ := sm b _ e1 hd
    exact ⟨s2, e2⟩
  refine ⟨⟨fun b o e n nb _ => fl.1 b o (F.keep b o e n nb), fun b o e n hb _ => sl b o e n hb, F.un.free, fun b o e _ => ?_, F.un.tups, F.un.frzs, F.un.tbls⟩, F.keep, F.thr, F.hok, fl⟩
  by_cases hb : b ∈ frs st
  · obtain ⟨o', e'⟩ := F.un.there b o e nin
    obtain ⟨_, o2, ho2, hd⟩ := F.fl.2.2.1.mem hb
    obtain ⟨s2, e2⟩ := sm b _ ho2 hd
    exact ⟨_, e2⟩
  · obtain ⟨o', e'⟩ := F.thr b o e hb
    exact ⟨o', fl.1 b o' e'⟩
/-- the exception's own address is not tracked -/
theorem Fly.free {P : Program} {w : World} {st : List Env} {H H' : Hp} {B : Heap} {a C t : Addr} {h h1 : Heap} (F : Fly P w st H H' B a C t h h1) : H' a = none := by
  cases q : H' a with
  | none => rfl
  | some u =>
    have x := F.hok a u q
    have n : B.get? a = none := F.fl.2.1
    exfalso
    have some_of : ∃ o, B.get? a = some o := by
      clear q
      induction u with
      | lst xs => obtain ⟨_, _, _, _, e⟩ := x; exact ⟨_, e⟩
      | tup xs => obtain ⟨_, _, _, o, e, _⟩ := x; exact ⟨_, e⟩
      | dK kvs => obtain ⟨_, _, _, _, o, _, _, e, _⟩ := x; exact ⟨_, e⟩
      | dT kvs => obtain ⟨_, _, _, _, o, _, _, e, _⟩ := x; exact ⟨_, e⟩
      | set S n => obtain ⟨o, _, _, _, e, _⟩ := x; exact ⟨_, e⟩
      | ins C dx fs => obtain ⟨_, _, _, e, _⟩ := x; exact ⟨_, e⟩
      | own y => exact x
      | xd fs => obtain ⟨_, ⟨_, _, _, e, _⟩, _⟩ := x; exact ⟨_, e⟩
      | rng lo hi => obtain ⟨_, _, _, e⟩ := x; exact ⟨_, e⟩
      | frz ob u ih => obtain ⟨e, _⟩ := x; exact ⟨_, e⟩
      | tbl ps => exact ⟨_, (show B.get? a = some _ from x)⟩
      | met f y => exact ⟨_, (show B.get? a = some _ from x)⟩
      | ext φ => obtain ⟨_, ⟨_, e⟩, _⟩ := x; exact ⟨_, e⟩
    obtain ⟨o, e⟩ := some_of
    rw [n] at e
    cases e
/-- the handler's context: the exception's object is pinned -/
abbrev Xh (X : Cx) (a : Addr) (oe : Obj) : Cx := { X with A := X.A.mark (some (.ref a)), calm := false, pn := X.pn ++ [(a, oe)], xe := fun _ _ => False }
section
variable {X : Cx} {pins : List (Addr × Obj)} {σ : St} {H : Hp} {s : Shared} {a : Addr} {oe : Obj}
theorem Cx.Ok.hand (ok : X.Ok) : (Xh X a oe).Ok :=
  ⟨ok.mod, ok.kind, ok.glob, ok.blt, ok.above, ok.inj, ok.has, ok.cab, (fun z => nomatch z), ok.frames, ok.stk, ok.exf, ok.bs, ok.bsz, ok.noex, ok.exfs, ok.funs, ok.frf⟩
theorem Inv.hand (I : Inv X pins σ H s) (e : s.heap.get? a = some oe) (n : H a = none) (ne : a ≠ X.env.locals) (nf : a ∉ X.fs) (d : ∀ v, oe.data ≠ .cell v) : Inv (Xh X a oe) pins σ H s :=
  ⟨I.ok.hand, I.os, I.bare, I.base, I.loc, I.cell, I.free, I.freeC, fun p hp => by
    rcases List.mem_append.mp hp with hp | hp
    · rcases List.mem_append.mp hp with hp | hp
      · exact I.pin p (List.mem_append_left _ hp)
      · rw [List.mem_singleton.mp hp]
        exact ⟨e, n, ne, nf, d⟩
    · exact I.pin p (List.mem_append_right _ hp), I.hok, I.len⟩
theorem Inv.unhand (ok : X.Ok) (I : Inv (Xh X a oe) pins σ H s) : Inv X pins σ H s :=
  ⟨ok, I.os, I.bare, I.base, I.loc, I.cell, I.free, I.freeC, fun p hp => by
    rcases List.mem_append.mp hp with hp | hp
    · exact I.pin p (List.mem_append_left _ (List.mem_append_left _ hp))
    · exact I.pin p (List.mem_append_right _ hp), I.hok, I.len⟩
def clsV : V → Option Value
  | .ref a => some (.ref a)
  | .ty n => some (.type n)
  | _ => none
theorem clsV_is {y : V} {u v : Value} (h : clsV y = some u) (r : RelV y v) : v = u := by
  cases y with
  | ref a => cases h; exact r
  | ty n => cases h; exact r
  | _ => cases h
end
/-! ### try -/
def tTry (K : PySem.W.Frag) (G : Addr) (sp : Sp) (dvs : List V) (t : TA) (i : Nat) (th : Addr → Addr → TS) : TS := fun D σ H => t σ H fun vs H1 => ∃ E : XK, sp (vs ++ dvs) H1 (fun _ H2 => D.nx σ H2) E ∧
  ∀ Cv d H2, E Cv d H2 → ∃ c, Cv = .ref c ∧ XC K c ∧ PySem.W.mroIn K c (.ref G) = some true ∧ ∀ a, th a c { nx := fun σ' H' => D.nx (σ'.set i none) H', rt := D.rt, bk := fun σ' H' => D.bk (σ'.set i none) H', ct := fun σ' H' => D.ct (σ'.set i none) H' } (σ.set i (some (.ref a))) H2
section
variable {X : Cx} {k : Nat} {fa G : Addr} {fd : FuncData} {ps : List Str} {sp : Sp} {dvs : List V} {ds : List Value} {x gn n : Str} {p cp ep gp hp tp : Pos} {e : Expr} {es : List Expr} {t : TA} {b₀ : Stmt} {suite : List Stmt} {i : Nat} {th : Addr → Addr → TS}
/-- behind the suite the name goes -/
theorem suite_end {pins : List (Addr × Obj)} {D : Ends} {a : Addr} {oe : Obj} {f : Flow} {s : Shared} {E : Value → Shared → Prop} (ok : X.Ok) (hN : X.N.Nodup) (hi : X.N[i]? = some n) (hloc : X.env.scope.names.lookup n = some .local)
    (h : SP (Xh X a oe) pins { nx := fun σ' H' => D.nx (σ'.set i none) H', rt := D.rt, bk := fun σ' H' => D.bk (σ'.set i none) H', ct := fun σ' H' => D.ct (σ'.set i none) H' } f s) :
    wpAny (model X.prog X.w) X.A (do bindName X.env n .none; unbindBehindTheSuite X.env n hp) (fun _ s' => SP X pins D f s') E s := by
  cases f with
  | next => obtain ⟨σ', H', I, q⟩ := h; exact unbind_ok (I.unhand ok) hN hi hloc fun s' I' => ⟨_, H', I', q⟩
  | brk => obtain ⟨σ', H', I, q⟩ := h; exact unbind_ok (I.unhand ok) hN hi hloc fun s' I' => ⟨_, H', I', q⟩
  | cont => obtain ⟨σ', H', I, q⟩ := h; exact unbind_ok (I.unhand ok) hN hi hloc fun s' I' => ⟨_, H', I', q⟩
  | ret u => obtain ⟨v, σ', H', I, r, q⟩ := h; exact unbind_ok (I.unhand ok) hN hi hloc fun s' I' => ⟨v, _, H', I', r, q⟩
/-- it is caught -/
theorem caught {pins : List (Addr × Obj)} {σ : St} {H1 H' : Hp} {s1 s' : Shared} {B : Heap} {a c t' : Addr} {D : Ends} {E : Value → Shared → Prop} (I : Inv X pins σ H1 s1) (hst : X.stack = X.env :: X.outer) (hf : X.env.frame = some X.env.locals)
    (hgG : Gl X gn) (hmG : X.mg gn = some (.ref G)) (hG : XC X.K G) (hN : X.N.Nodup) (hi : X.N[i]? = some n) (hloc : X.env.scope.names.lookup n = some .local)
    (hs : ∀ a oe c, oe.cls = .ref c → XC X.K c → PSs (Xh X a oe) (b₀ :: suite) (th a c)) (os : s'.os = s1.os) (bare : AllBare s'.gens) (F : Fly X.prog X.w X.stack H1 H' B a c t' s1.heap s'.heap) (Zc : XC X.K c) (ab : PySem.W.mroIn X.K c (.ref G) = some true)
    (q : th a c { nx := fun σ' H' => D.nx (σ'.set i none) H', rt := D.rt, bk := fun σ' H' => D.bk (σ'.set i none) H', ct := fun σ' H' => D.ct (σ'.set i none) H' } (σ.set i (some (.ref a))) H') (hdG : (gn == ("__debug__" : Str)) = false) :
    wpAny (model X.prog X.w) X.A (noteFrame (.ref a) X.env) (fun _ s₂ => wpAny (model X.prog X.w) X.A (setFlight (.ref a) none) (fun _ s₃ =>
      wpAny (model X.prog X.w) X.A (handleBy (.ref a) X.env [.ExceptHandler (some (.Name gn gp)) (some n) (b₀ :: suite) hp]) (SP X pins D) E s₃) E s₂) E s' := by
  have hfr : X.A.frames = some (X.env :: X.outer) := by rw [← hst]; exact I.ok.frames
  have hfl : Heap.FlyingW B (X.env :: X.outer) a (.ref c) (.ref t') s'.heap := by rw [← hst]; exact F.fl
  refine wpAny_looks_onW hfr hf hfl fun h₄ held₄ sm₄ => ?_
  refine wpAny_landsW held₄ fun h₅ fl₅ sm₅ => ?_
  have F₅ := F.on (by rw [hst]; exact fl₅) (sm₄.trans sm₅)
  have at5 : ∀ {h : Heap}, Fly X.prog X.w X.stack H1 H' B a c t' s1.heap h → Inv X pins σ H' { s' with heap := h } := fun {h} Fh => I.call' (s' := { s' with heap := h }) os Fh.un (Fh.hok.kept Fh.fl.1) bare (fun b z => absurd z nin)
  have pinok : ∀ {h : Heap}, Fly X.prog X.w X.stack H1 H' B a c t' s1.heap h → ∃ oe, h.get? a = some oe ∧ oe.cls = .ref c ∧ (∀ v, oe.data ≠ .cell v) ∧ a ≠ X.env.locals ∧ a ∉ X.fs := fun {h} Fh => by
    obtain ⟨_, _, ff, oe, vs, T, oT, ts, he, hcl, hdat, _⟩ := Fh.fl
    have nofr : ∀ b ∈ frs X.stack, b ≠ a := fun b hb z => by
      obtain ⟨_, o, ho, hd⟩ := ff.mem hb
      rw [z, he] at ho
      cases ho
      exact hd vs hdat
    refine ⟨oe, he, hcl.1, (fun v z => by rw [hdat] at z; cases z), fun z => nofr X.env.locals (by rw [hst, frs_cons hf]; exact List.mem_cons_self) z.symm, fun z => nofr a (by rw [hst, frs_cons hf]; exact List.mem_cons_of_mem _ z) rfl⟩
  have I₅ := at5 F₅
  obtain ⟨oe₅, e₅, c₅, d₅, l₅, f₅⟩ := pinok F₅
  have J₅ : Inv (Xh X a oe₅) pins σ H' { s' with heap := h₅ } := I₅.hand e₅ F₅.free l₅ f₅ d₅
  refine wpAny_handleBy_cons (codeAny_handlers_test (ld_glob (X := Xh X a oe₅) J₅ hgG hmG ?_ hdG)) (by intro z; cases z)
  obtain ⟨bm, N, nm, qn, bs, hdct, sn, sub, ab', col, dd, k0, k1, k2, k3, k5, mN, hC, hN', hni, T, c0, d0, cd0, sl0, ho, hmro⟩ := XCls.obj I₅.kIn Zc.cls
  obtain ⟨bm2, N2, nm2, qn2, bs2, hdct2, sn2, sub2, ab2, col2, dd2, j0, j1, j2, j3, j5, mN2, hC2, hN2, hni2, T2, _⟩ := XCls.obj I₅.kIn hG.cls
  have hsub : (Value.ref c :: bm).contains (.ref G) = true := by
    unfold PySem.W.mroIn PySem.W.clsIn at ab
    rw [ho] at ab
    dsimp only [Option.bind] at ab
    rw [hmro, if_neg (by simp)] at ab
    exact Option.some.inj ab
  obtain ⟨sh, sg, sd, stk, sos⟩ := s'
  refine excMatches_own hC hC2 e₅ c₅ (T2.hasType (X := "BaseException") (b := true) (by decide +kernel)) hsub (codeAny_handlers_suite_as ?_)
  refine lands_againW (by rw [hst] at F₅; exact F₅.fl) fun h₆ fl₆ sm₆ => ?_
  have F₆ := F₅.on (by rw [hst]; exact fl₆) sm₆
  have I₆ := at5 F₆
  obtain ⟨oe, e₆, c₆, d₆, l₆, f₆⟩ := pinok F₆
  have J₆ : Inv (Xh X a oe) pins σ H' _ := I₆.hand e₆ F₆.free l₆ f₆ d₆
  refine store_ok (X := Xh X a oe) (v := .ref a) J₆ hN hi (.inl hloc) rfl (fun s₇ J₇ => ?_) (.inr hloc)
  refine wpAny_mono (hs a oe c c₆ Zc pins s₇ _ H' _ J₇ q) (fun f s₈ h₈ => ?_) fun _ _ z => z.elim
  exact suite_end I.ok hN hi hloc h₈
end
/-! ### a def that may raise, as one fact -/
structure Owx (P : Program) (w : World) (K : PySem.W.Frag) (mg : Str → Option Value) (base : Heap) (x : Str) (ps : List Str) (k : Nat) (sp : Sp) : Prop where
  ex : ∃ (f : Addr) (fd : FuncData), mg x = some (.ref f) ∧ PySem.W.keepIn K (.ref f) = true ∧ Binds K fd ps [] ∧ FnOk P w K mg base (CX1 P w) k f fd ps sp
/-- an own error class, as one fact -/
structure Ec (K : PySem.W.Frag) (mg : Str → Option Value) (x : Str) (C : Addr) : Prop where
  m : mg x = some (.ref C)
  c : XC K C
section
variable {X : Cx} {k j : Nat} {ps : List Str} {sp : Sp} {x gn n : Str} {G : Addr} {p pos cp ep gp hp tp : Pos} {e : Expr} {es : List Expr} {t : TA} {E : XK} {b₀ : Stmt} {suite : List Stmt} {i : Nat} {th : Addr → Addr → TS}
end
end L2

/-! OWN RULES, exceptions, part 4: own error classes with an __init__ of their own. -/
namespace L2
open PySem PySem.Spec PyProof.Rows
section
variable {prog : Program} {w : World} {A : Around} {E : Value → Shared → Prop} {h : Heap} {g : Array GenState} {d : Drawn} {t : Nat} {os : OsState}
variable {nm q : Str} {C N : Addr} {bs bm bmB : List Value} {hdct : Bool} {sn : List Str} {sub : List Value} {ab : Bool} {col : Option Bool} {dd : Option Addr} {k0 k1 k2 k3 k5 : Option Value} {B newId initId : String}
/-- the object that __new__ makes of an error class, its words at t -/
abbrev excObj (C t : Addr) : Obj := { cls := .ref C, data := .fields #[.ref t, .none, .none, .none, .bool false, .none] }
end
end L2

/-! OWN RULES, own error classes with or without an __init__ of their own: what is known of them; isinstance; attributes read and stored. -/
namespace L2
open PySem PySem.Spec PyProof.Rows
/-- own classes, then ValueError's line -/
inductive VeTail : List Value → Prop
  | base : VeTail veMro
  | step {c : Addr} {r : List Value} : VeTail r → VeTail (.ref c :: r)
theorem VeTail.passes (self : Value) {l : List Value} (t : VeTail l) : refuseLoop self "__setattr__" l = pure () := by
  induction t with
  | base => exact PySem.F.store_ValueError.passes self
  | step _ ih => rw [refuseLoop_ref]; exact ih
/-- what is known of an own error class -/
structure XE (K : PySem.W.Frag) (C : Addr) : Prop where
  ex : ∃ (dd : Option Addr) (cd : ClassData) (k0 k1 k2 k3 k5 : Option Value) (bm : List Value), K.lookup C = some ⟨.type "type", dd, .cls cd, #[k0, k1, k2, k3, some (.builtin "ValueError.__new__"), k5]⟩ ∧ cd.mro = .ref C :: bm ∧ cd.hasDel = false ∧ cd.hasDict = true ∧
    VeTail bm ∧ PySem.W.tailIn K veMro bm = true ∧ PySem.W.nsOkIn K cd.ns = true
  ga : PySem.W.findIn K (.ref C) "__getattribute__" = some (some (.builtin "BaseException.__getattribute__"))
  gn : PySem.W.findIn K (.ref C) "__getattr__" = some none
  sa : PySem.W.findIn K (.ref C) "__setattr__" = some (some (.builtin "object.__setattr__"))
  kc : PySem.W.findIn K (.ref C) "__class__" = some (some (.builtin "object.__class__"))
  kg : PySem.W.specialIn K (.builtin "object.__class__") "__get__" = some (some (.builtin "getset_descriptor.__get__"))
  kt : PySem.W.takesIn K (.builtin "object.__class__") = some true
  km : PySem.W.mroIn K C (.type "object") = some true
section
variable {K : PySem.W.Frag} {C : Addr}
theorem XE.obj {h : Heap} (X : K.In h) (Z : XE K C) : ∃ bm N nm qn bs sn sub ab col dd k0 k1 k2 k3 k5 mN, h.get? C = some (excClassObj nm qn C N bs bm true sn sub ab col dd k0 k1 k2 k3 k5 "ValueError.__new__") ∧ h.Ns N mN ∧ OwnTail h veMro bm ∧ VeTail bm ∧
    ∃ cd, PySem.W.clsIn K C = some cd ∧ cd.mro = .ref C :: bm ∧ cd.hasDict = true ∧ cd.ns = N ∧ ∃ d0 sl0, K.lookup C = some ⟨.type "type", d0, .cls cd, sl0⟩ := by
  obtain ⟨dd, cd, k0, k1, k2, k3, k5, bm, lk, hm, hdel, hdct, vt, ht, hok⟩ := Z.ex
  have hcls : PySem.W.clsIn K C = some cd := by unfold PySem.W.clsIn; rw [lk]
  have lk' := lk
  obtain ⟨nm, bs, mro, ns, qn, hd, sn, sub, ab, col, del⟩ := cd
  dsimp only at hm hdel hok hdct
  subst hm hdel hdct
  exact ⟨bm, ns, nm, qn, bs, sn, sub, ab, col, dd, k0, k1, k2, k3, k5, _, X _ _ lk, (.of_isNs (PySem.W.isNs_of_in X hok)), PySem.W.tail_of_in X ht, vt, _, hcls, rfl, rfl, rfl, _, _, lk'⟩
end
section
variable {prog : Program} {w : World} {A : Around} {E : Value → Shared → Prop} {s : Shared} {K : PySem.W.Frag} {x C : Addr}
theorem class_getX {R : Result → Shared → Prop} (X : K.In s.heap) (Z : XE K C) (I : ExcAt x C s.heap) (h : R (.ok (.ret (.ref C))) s) :
    codeAny (model prog w) A (.call (.builtin "getset_descriptor.__get__") ⟨[.builtin "object.__class__", .ref x, .ref C], []⟩) R s := by
  obtain ⟨hh, g, d, t, os⟩ := s
  obtain ⟨bm, N, nm, qn, bs, sn, sub, ab, col, dd, k0, k1, k2, k3, k5, mN, hC, hN, T, _⟩ := XE.obj X Z
  obtain ⟨ox, hx, hc⟩ := I
  have ow : ".".intercalate ("object.__class__".cutAt '.').dropLast = "object" := by decide +kernel
  have hcO : (Value.ref C :: bm).contains (.type (".".intercalate ("object.__class__".cutAt '.').dropLast)) = true := by
    rw [ow, List.contains_cons, T.hasType (X := "object") (b := true) (by decide +kernel)]
    rfl
  have hT5 : (⟨hh, g, d, t, os⟩ : Shared).TypeIs (.builtin "object.__class__") "getset_descriptor" := F.typeOf_object_class
  refine codeAny_call_builtin F.slot_gs_get.plain F.entry_gs_get
    (F.slot_gs_get.check _ _ _ _ _ _ _ _ hT5 (F.args_gs_get _ _ _) ?_)
  repeat (any_goals (first
    | assumption
    | (with_reducible refine wpAny_loadPart_at hx ?_; rw [hc])
    | (with_reducible refine wpAny_isSubtype_exc hC ?_; rw [hcO])
    | wp_step))
  refine ⟨Code.quiet_builtin _ (by decide +kernel), codeAny_builtin F.entry_object_class ?_⟩
  repeat (any_goals (first
    | assumption
    | (with_reducible refine wpAny_loadPart_at hx ?_; rw [hc])
    | wp_step))
theorem exc_classX {Q : Option Value → Shared → Prop} (X : K.In s.heap) (Z : XE K C) (I : ExcAt x C s.heap) (h : Q (some (.ref C)) { s with toks := s.toks + 1 }) : wpAny (model prog w) A (getAttr? (.ref x) "__class__") Q E s := by
  obtain ⟨hh, g, d, t, os⟩ := s
  obtain ⟨bm, N, nm, qn, bs, sn, sub, ab, col, dd, k0, k1, k2, k3, k5, mN, hC, hN, T, _⟩ := XE.obj X Z
  have L0 := I.ty (M := model prog w)
  have L1 := PySem.W.looks_findIn (M := model prog w) X Z.ga
  have L2' := PySem.W.looks_findIn (M := model prog w) X Z.gn
  have L4 := PySem.W.looks_findIn (M := model prog w) X Z.kc
  have hk : builtinKind "BaseException.__getattribute__" = some .slot := by decide +kernel
  have hsplit : splitId "BaseException.__getattribute__" = some ("BaseException", "__getattribute__") := by decide +kernel
  have hcB : (Value.ref C :: bm).contains (.type "BaseException") = true := by
    rw [List.contains_cons, T.hasType (X := "BaseException") (b := true) (by decide +kernel)]
    rfl
  obtain ⟨ox, hx, hc⟩ := id I
  have ha := F.args_bexc_ga (.ref x) (.str "__class__" t)
  have hT5 : (⟨hh, g, d, t + 1, os⟩ : Shared).TypeIs (.builtin "object.__class__") "getset_descriptor" := F.typeOf_object_class
  have f5 := F.typeOf_object_class
  have f6 := F.slot_gs_get.lookup
  have f7 := F.slot_gs_set.lookup
  unfold getAttr? getAttrBy? getAttrBy
  refine wpAny_bind (wpAny_mkText (wpAny_bind ?_))
  refine wpAny_attempt (wpAny_holding (wpAny_bind ?_))
  refine L0.at (wpAny_bind (L1.at ?_))
  show wpAny _ _ (getAttrByItsOwn _ _ _ _ _ _) _ _ _
  unfold getAttrByItsOwn
  show wpAny _ _ (typeLookup (.ref C) "__getattr__" >>= _) _ _ _
  refine wpAny_bind (L2'.at ?_)
  refine wpAny_bind (wpAny_attempt (wpAny_holding ?_))
  show wpAny _ _ (boundAndCalled (.builtin "BaseException.__getattribute__") (.ref x) _) _ _ _
  unfold boundAndCalled
  refine wpAny_bind (wpAny_of_eq (gaSlot.bind _) ?_)
  refine wpAny_call (codeAny_call_builtin gaSlot.plain F.entry_bexc_ga ?_)
  simp only [checkBuiltinCall, hk, hsplit]
  refine wpAny_bind ?_
  unfold isInstance
  repeat (first
    | (with_reducible refine wpAny_loadPart_at hx ?_; rw [hc])
    | (with_reducible refine wpAny_isSubtype_exc hC ?_; rw [hcB])
    | wp_step)
  refine L4.at ?_
  repeat (any_goals (first | assumption | wp_step))
  refine class_getX (s := ⟨hh, g, d, t + 1, os⟩) X Z I ?_
  repeat (any_goals (first | assumption | wp_step))
theorem kitx_err (Z : XE K C) : PySem.W.KitX K (.ref x) (.ref C) (ExcAt x C) where
  ty := fun _ _ _ I => I.ty
  it := fun M h X _ => by
    obtain ⟨_, _, _, _, _, _, _, _, _, _, _, _, _, _, _, _, _, _, _, _, cd0, _, _, _, _, d0, sl0, ho⟩ := XE.obj X Z
    intro A' Q' E' s' k q
    unfold isType loadHead
    exact wpAny_bind (wpAny_loadPart (k _ _ (X _ _ ho)) (wpAny_pure q))
  ne := fun h tp dd its n sl X htp => by
    obtain ⟨_, _, _, _, _, _, _, _, _, _, _, _, _, _, _, _, _, _, _, _, cd0, _, _, _, _, d0, sl0, ho⟩ := XE.obj X Z
    refine Bool.eq_false_iff.mpr fun q => ?_
    have e : C = tp := Value.ref.inj (beq_iff_eq.mp q)
    subst e
    have z := (X _ _ ho).symm.trans htp
    simp at z
  ca := fun X I k => exc_classX X Z I k
/-- an attribute of an error's own dict is read -/
theorem err_load {name : Str} {v : Value} {expr : Bool} {Q : Value → Shared → Prop} {mA : Str → Option Value} (X : K.In s.heap) (Z : XE K C) (hn : PySem.W.findIn K (.ref C) name = some none) (I : s.heap.Inst x C mA) (hv : mA name = some v) (hh : handedOut v = pure v)
    (h : Q v { s with toks := s.toks + 1 }) : wpAny (model prog w) A (getAttr (.ref x) name expr) Q E s := by
  obtain ⟨hh', g, d, t, os⟩ := s
  obtain ⟨bm, N, nm, qn, bs, sn, sub, ab, col, dd, k0, k1, k2, k3, k5, mN, hC, hN, T, _⟩ := XE.obj X Z
  obtain ⟨ox, hx, hc, hnc, hd⟩ := id I
  have L0 := ExcAt.ty (M := model prog w) ⟨ox, hx, hc⟩
  have L1 := PySem.W.looks_findIn (M := model prog w) X Z.ga
  have L2' := PySem.W.looks_findIn (M := model prog w) X Z.gn
  have L4 := PySem.W.looks_findIn (M := model prog w) X hn
  have hk : builtinKind "BaseException.__getattribute__" = some .slot := by decide +kernel
  have hsplit : splitId "BaseException.__getattribute__" = some ("BaseException", "__getattribute__") := by decide +kernel
  have hcB : (Value.ref C :: bm).contains (.type "BaseException") = true := by
    rw [List.contains_cons, T.hasType (X := "BaseException") (b := true) (by decide +kernel)]
    rfl
  have ha := F.args_bexc_ga (.ref x) (.str name t)
  rcases hd with ⟨_, hmA⟩ | ⟨dx, hdx, hne, hns⟩
  · rw [hmA name] at hv; cases hv
  unfold getAttr getAttrBy
  refine wpAny_bind (wpAny_mkText ?_)
  refine wpAny_holding (wpAny_bind ?_)
  refine L0.at (wpAny_bind (L1.at ?_))
  show wpAny _ _ (getAttrByItsOwn _ _ _ _ _ _) _ _ _
  unfold getAttrByItsOwn
  show wpAny _ _ (typeLookup (.ref C) "__getattr__" >>= _) _ _ _
  refine wpAny_bind (L2'.at ?_)
  refine wpAny_bind (wpAny_attempt (wpAny_holding ?_))
  have e0 : callGetattribute (.ref x) (.str name t) (.builtin "BaseException.__getattribute__") expr = boundAndCalled (.builtin "BaseException.__getattribute__") (.ref x) (.str name t) := by
    unfold callGetattribute
    rw [if_neg (by cases expr <;> simp [onTheHeap])]
  rw [e0]
  unfold boundAndCalled
  refine wpAny_bind (wpAny_of_eq (gaSlot.bind _) ?_)
  refine wpAny_call (codeAny_call_builtin gaSlot.plain F.entry_bexc_ga ?_)
  simp only [checkBuiltinCall, hk, hsplit]
  refine wpAny_bind ?_
  unfold isInstance
  repeat (first
    | (with_reducible refine wpAny_loadPart_at hx ?_; rw [hc])
    | (with_reducible refine wpAny_isSubtype_exc hC ?_; rw [hcB])
    | wp_step)
  refine L4.at ?_
  refine wpAny_bind (wpAny_pure (wpAny_bind (wpAny_pure ?_)))
  show wpAny _ _ (Builtin.ObjectAttr.ownThenClass (Value.ref x) name none none) _ _ _
  unfold Builtin.ObjectAttr.ownThenClass
  refine wpAny_bind ?_
  show wpAny _ _ (Builtin.ObjectAttr.ownDict x >>= Builtin.ObjectAttr.inDict name) _ _ _
  unfold Builtin.ObjectAttr.ownDict loadHead
  refine wpAny_bind (wpAny_bind (wpAny_loadPart hx ?_))
  have key : ∀ {Q' : Option Addr → Shared → Prop} {E' : Value → Shared → Prop}, Q' (some dx) ⟨hh', g, d, t + 1, os⟩ → wpAny (model prog w) A.in1 (match ox.data with
      | .cls c => pure (some c.ns)
      | _ => instanceDict x false) Q' E' ⟨hh', g, d, t + 1, os⟩ := fun {Q' E'} q => by
    split
    · rename_i c hcd
      exact absurd hcd (hnc c)
    · unfold instanceDict
      repeat (first | (with_reducible refine wpAny_loadPart_at hx ?_; rw [hc]) | with_reducible refine wpAny_loadPart_at hC ?_ | wp_step)
      rw [hdx]
      exact wpAny_pure q
  refine key ?_
  show wpAny _ _ (nsGet dx name) _ _ _
  refine wpAny_nsGet hns.ns ?_
  rw [hv]
  refine wpAny_bind (wpAny_rule (wpAny_pure ?_))
  refine wpAny_pure ?_
  show wpAny _ _ (handedOut v) _ _ _
  rw [hh]
  exact wpAny_pure h
end
end L2

/-! OWN RULES: an attribute of an own error is stored. -/
namespace L2
open PySem PySem.Spec PyProof.Rows
section
variable {prog : Program} {w : World} {A : Around} {E : Value → Shared → Prop} {s : Shared} {K : PySem.W.Frag} {x C : Addr}
/-- an attribute is stored in an error's own dict, which is made where it has none -/
theorem err_store {name : Str} {v : Value} {Q : Unit → Shared → Prop} {mA : Str → Option Value} {ns : List Str} (X : K.In s.heap) (Z : XE K C) (hn : PySem.W.findIn K (.ref C) name = some none) (I : s.heap.Inst x C mA)
    (hq : ∀ h' tk', h'.Inst x C (fun y => if y = name then some v else mA y) →
      (∀ b o, b ≠ x → (∀ o₀ dx, s.heap.get? x = some o₀ → o₀.dict = some dx → b ≠ dx) → s.heap.get? b = some o → h'.get? b = some o) →
      (∀ o₀, s.heap.get? x = some o₀ → ∃ o₁, h'.get? x = some o₁ ∧ o₁.cls = o₀.cls ∧ o₁.data = o₀.data ∧ o₁.slots = o₀.slots ∧ (∀ dx, o₀.dict = some dx → o₁.dict = some dx) ∧ (o₀.dict = none → o₁.dict = some s.heap.objs.size)) → Q () { s with heap := h', toks := tk' }) (hw : Within mA ns) (hsz : ns.length ≤ 1000) :
    wpAny (model prog w) A (setAttr (.ref x) name v) Q E s := by
  obtain ⟨h, g, d, t, os⟩ := s
  obtain ⟨bm, N, nm, qn, bs, sn, sub, ab, col, dd, k0, k1, k2, k3, k5, mN, hC, hN, T, vt, cd, hcd, hmro, hdct, _⟩ := XE.obj X Z
  obtain ⟨o, hx, hc, hnc, hd⟩ := I
  have SF := PySem.F.store_ValueError
  have L0 := ExcAt.ty (M := model prog w) (x := x) (C := C) (h := h) ⟨o, hx, hc⟩
  have Ls := PySem.W.looks_findIn (M := model prog w) X Z.sa
  have Ln := PySem.W.looks_findIn (M := model prog w) X hn
  have f3 := SF.slot.bind (.ref x)
  unfold setAttr
  refine wpAny_bind (wpAny_mkText (wpAny_bind ?_))
  unfold callSpecial? specialOf
  refine wpAny_bind (wpAny_bind (L0.at (Ls.at ?_)))
  refine wpAny_holding ?_
  rw [f3]
  refine wpAny_bind (wpAny_pure ?_)
  refine wpAny_bind (wpAny_call ?_)
  have sub : PySem.W.Looks (model prog w) h (isInstance (.ref x) (.type "object")) true := L0.andThen (PySem.W.looks_mroIn X Z.km)
  refine codeAny_call_builtin SF.slot.plain SF.entry (@PySem.W.check_slot (model prog w) _ _ ⟨h, g, d, t + 1, os⟩ "object.__setattr__" "object" "__setattr__" (.ref x) [.str name t, v] [] _ SF.kind SF.split sub (SF.args (.ref x) (.str name t) v) ?_)
  show wpAny _ _ (Builtin.«object.__setattr__» ⟨[.ref x, .str name t, v], []⟩) _ _ _
  rw [PySem.W.osa_eq, refuse_eq]
  have hm : PySem.W.Looks (model prog w) h (mroOf (.ref C)) cd.mro := (PySem.W.looks_clsIn X hcd).andThen .now
  refine wpAny_bind (wpAny_bind (L0.at (wpAny_bind (hm.at ?_))))
  rw [hmro, (VeTail.step vt).passes]
  refine wpAny_pure (wpAny_bind (L0.at (wpAny_bind (Ln.at (wpAny_bind (wpAny_pure ?_))))))
  show wpAny _ _ (Builtin.ObjectAttr.storeInOwnDict (.ref x) (.ref C) (.str name t) name v _) _ _ _
  unfold Builtin.ObjectAttr.storeInOwnDict
  refine wpAny_bind (wpAny_pure ?_)
  show wpAny _ _ (instanceDict x true >>= _) _ _ _
  unfold instanceDict
  rcases hd with ⟨hdn, hmA⟩ | ⟨dx, hdx, hne, hns⟩
  · repeat (first | (with_reducible refine wpAny_loadPart_at hx ?_; rw [hc]) | with_reducible refine wpAny_loadPart_at hC ?_ | wp_step)
    rw [hdn, if_neg (by simp [typeHasDict])]
    have mk : ∀ {Q' : Option Addr → Shared → Prop} {E' : Value → Shared → Prop}, wpAny (model prog w) A.in1 (do
        let d ← alloc { cls := Value.type "dict", data := Data.dict #[] }
        update x fun o => { cls := o.cls, dict := some d, data := o.data, slots := o.slots }
        dictMade (Value.ref C) x d) Q' E' ⟨h, g, d, t + 1, os⟩ → wpAny (model prog w) A.in1 (match o.data with
      | .cls c => pure none
      | _ => do
        let d ← alloc { cls := Value.type "dict", data := Data.dict #[] }
        update x fun o => { cls := o.cls, dict := some d, data := o.data, slots := o.slots }
        dictMade (Value.ref C) x d) Q' E' ⟨h, g, d, t + 1, os⟩ := fun {Q' E'} q => by
      split
      · rename_i c hcd'
        exact absurd hcd' (hnc c)
      · exact q
    refine mk ?_
    have hx₁ : (h.push { cls := .type "dict", data := .dict #[] }).get? x = some o := Heap.get?_push_of_some _ hx
    have hxs : x ≠ h.objs.size := Nat.ne_of_lt (Heap.lt_size hx)
    refine wpAny_bind (wpAny_alloc' ?_)
    refine wpAny_bind (wpAny_update' hx₁ ?_)
    refine wpAny_pure ?_
    have gd : ((h.push { cls := .type "dict", data := .dict #[] }).update x fun o => { cls := o.cls, dict := some h.objs.size, data := o.data, slots := o.slots }).get? h.objs.size = some { cls := .type "dict", data := .dict #[] } :=
      (Heap.get?_update_ne _ _ _ _ hxs.symm).trans (Heap.get?_push_at rfl rfl)
    have nd : ((h.push { cls := .type "dict", data := .dict #[] }).update x fun o => { cls := o.cls, dict := some h.objs.size, data := o.data, slots := o.slots }).Ns h.objs.size (fun _ => none) := ⟨_, #[], _, gd, rfl, fun e he => absurd he (by simp), fun _ => rfl⟩
    show wpAny _ _ (Builtin.ObjectAttr.storeInDict h.objs.size (.str name t) name v) _ _ _
    unfold Builtin.ObjectAttr.storeInDict Builtin.ObjectAttr.newKeyGuard
    refine wpAny_bind (wpAny_pure (wpAny_bind (wpAny_nsSet1 (Heap.Ns1.of_empty nd) fun h' hn' hs => ?_)))
    obtain ⟨oD, esD, epD, hoD, hdD, hcD⟩ := hn'.count (Within.cons name v Within.nil)
    refine wpAny_bind (wpAny_lookBehind hoD (by rw [hdD]; exact pastItsLine_dict (Nat.le_trans hcD (by rw [List.length_cons, List.length_nil, sizeLine_eq]; omega))) ?_)
    refine wpAny_pure (wpAny_pure (wpAny_pure ?_))
    have hx' : h'.get? x = some { cls := o.cls, dict := some h.objs.size, data := o.data, slots := o.slots } := by
      refine (hs.2 x hxs).trans (Heap.get?_update_self _ hx₁ ?_)
      have hfr := (Heap.get?_some_iff.mp hx).2
      obtain ⟨oc, od, odt, osl⟩ := o
      cases odt <;> first | rfl | exact hfr
    refine hq h' _ ⟨_, hx', hc, hnc, .inr ⟨h.objs.size, rfl, hxs.symm, ?_⟩⟩ (fun b ob hbx _ hb => (hs.2 b (Nat.ne_of_lt (Heap.lt_size hb))).trans ((Heap.get?_update_ne _ _ _ _ hbx).trans (Heap.get?_push_of_some _ hb))) fun o₀ h₀ => ?_
    · obtain ⟨o', es, ep, e1, e2, e3, eu, e4⟩ := hn'
      exact ⟨o', es, ep, e1, e2, e3, eu, fun y => by rw [e4 y]; by_cases hy : y = name <;> simp [hy, hmA]⟩
    · obtain rfl : o = o₀ := Option.some.inj (hx.symm.trans h₀)
      exact ⟨_, hx', rfl, rfl, rfl, (fun dx e => by rw [hdn] at e; cases e), fun _ => rfl⟩
  · repeat (first | (with_reducible refine wpAny_loadPart_at hx ?_; rw [hc]) | with_reducible refine wpAny_loadPart_at hC ?_ | wp_step)
    rw [hdx]
    refine wpAny_pure ?_
    show wpAny _ _ (Builtin.ObjectAttr.storeInDict dx (.str name t) name v) _ _ _
    unfold Builtin.ObjectAttr.storeInDict Builtin.ObjectAttr.newKeyGuard
    refine wpAny_bind (wpAny_pure (wpAny_bind (wpAny_nsSet1 hns fun h' hn' hs => ?_)))
    obtain ⟨oD, esD, epD, hoD, hdD, hcD⟩ := hn'.count (Within.cons name v hw)
    refine wpAny_bind (wpAny_lookBehind hoD (by rw [hdD]; exact pastItsLine_dict (Nat.le_trans hcD (by rw [List.length_cons, sizeLine_eq]; omega))) ?_)
    refine wpAny_pure (wpAny_pure (wpAny_pure ?_))
    refine hq h' _ ⟨o, (hs.2 x hne.symm).trans hx, hc, hnc, .inr ⟨dx, hdx, hne, hn'⟩⟩ (fun b ob _ hbd hb => (hs.2 b (hbd o dx hx hdx)).trans hb) fun o₀ h₀ => ?_
    obtain rfl : o = o₀ := Option.some.inj (hx.symm.trans h₀)
    exact ⟨o, (hs.2 x hne.symm).trans h₀, rfl, rfl, rfl, fun _ e => e, fun e => by rw [hdx] at e; cases e⟩
end
end L2

/-! OWN RULES: own errors are made. -/
namespace L2
open PySem PySem.Spec PyProof.Rows
/-- the object of an own error: its class, its dict -/
def Vs0 (vs : Array Value) : Prop := (∃ t, vs[0]? = some (.ref t)) ∧ vs[1]? = some .none
/-- never raised yet -/
def ErrO (x C : Addr) (d : Option Addr) (h : Heap) : Prop := ∃ o vs, h.get? x = some o ∧ o.cls = .ref C ∧ o.data = .fields vs ∧ Vs0 vs ∧ o.dict = d
/-- raised or not -/
def ErrT (x C : Addr) (d : Option Addr) (h : Heap) : Prop := ∃ o vs, h.get? x = some o ∧ o.cls = .ref C ∧ o.data = .fields vs ∧ o.dict = d
theorem ErrO.t {x C : Addr} {d : Option Addr} {h : Heap} (I : ErrO x C d h) : ErrT x C d h := let ⟨o, vs, a, b, c, _, e⟩ := I; ⟨o, vs, a, b, c, e⟩
theorem Vs0.pos {vs : Array Value} (h : Vs0 vs) : 0 < vs.size := let ⟨⟨_, e⟩, _⟩ := h; (Array.getElem?_eq_some_iff.mp e).1
theorem Vs0.put {vs : Array Value} (h : Vs0 vs) (t : Addr) : Vs0 (vs.setIfInBounds 0 (.ref t)) := ⟨⟨t, by simp [h.pos]⟩, by rw [Array.getElem?_setIfInBounds_ne (by decide)]; exact h.2⟩
section
variable {prog : Program} {w : World} {A : Around} {E : Value → Shared → Prop} {s : Shared} {K : PySem.W.Frag} {x C : Addr}
/-- ValueError.__init__(x, ..) -/
theorem ve_init {rest : List Value} {d : Option Addr} {Q : Value → Shared → Prop} (X : K.In s.heap) (Z : XE K C) (I : ErrO x C d s.heap) (hz : rest.length ≤ sizeLine)
    (h : ∀ h' : Heap, (∀ b o, b ≠ x → s.heap.get? b = some o → h'.get? b = some o) → ErrO x C d h' → Q .none { s with heap := h' }) : wpAny (model prog w) A (call (.builtin "ValueError.__init__") (.ref x :: rest)) Q E s := by
  obtain ⟨hh, g, dr, t, os⟩ := s
  obtain ⟨bm, N, nm, qn, bs, sn, sub, ab, col, dd, k0, k1, k2, k3, k5, mN, hC, hN, T, _⟩ := XE.obj X Z
  obtain ⟨o, vs, hx, hc, hd, hv0', hdi⟩ := I
  have hvs := hv0'.pos
  have FB := F.excBase_ValueError
  refine wpAny_call (codeAny_call_builtin FB.init.plain FB.initEntry (wpAny_check_init_subU FB T hC hx hc ?_))
  show wpAny _ _ (newTuple rest >>= fun tp => Builtin.BaseException.bexcPut (.ref x) 0 tp >>= fun _ => ret .none) _ _ _
  refine wpAny_bind (wpAny_newTuple ?_ hz)
  have hx1 : (hh.push { cls := .type "tuple", data := .seq rest.toArray }).get? x = some o := Heap.get?_push_of_some _ hx
  refine wpAny_bind ?_
  unfold Builtin.BaseException.bexcPut
  obtain ⟨v0, hv0⟩ : ∃ v0, vs[0]? = some v0 := ⟨_, getElem?_pos vs 0 hvs⟩
  refine wpAny_bind (wpAny_field hx1 hd hv0 ?_)
  refine wpAny_bind (wpAny_setField hx1 hd hvs ?_)
  have hfr : (Obj.mapFields (·.setIfInBounds 0 (.ref hh.objs.size)) o).isFreed = false := by
    obtain ⟨oc, od, odt, osl⟩ := o
    cases (show odt = .fields vs from hd)
    rfl
  have hx2 : ((hh.push { cls := .type "tuple", data := .seq rest.toArray }).update x (Obj.mapFields (·.setIfInBounds 0 (.ref hh.objs.size)))).get? x = some (Obj.mapFields (·.setIfInBounds 0 (.ref hh.objs.size)) o) := Heap.get?_update_self _ hx1 hfr
  have fin : Q .none ⟨(hh.push { cls := .type "tuple", data := .seq rest.toArray }).update x (Obj.mapFields (·.setIfInBounds 0 (.ref hh.objs.size))), g, dr, t, os⟩ := by
    refine h _ (fun b ob hb e => (Heap.get?_update_ne _ _ _ _ hb).trans (Heap.get?_push_of_some _ e)) ⟨_, vs.setIfInBounds 0 (.ref hh.objs.size), hx2, ?_⟩
    obtain ⟨oc, od, odt, osl⟩ := o
    cases (show odt = .fields vs from hd)
    exact ⟨hc, rfl, hv0'.put _, hdi⟩
  cases v0 with
  | ref a => exact wpAny_letGo (wpAny_pure fin)
  | _ => exact wpAny_pure (wpAny_pure fin)
end
section
variable {prog : Program} {w : World} {A : Around} {E : Value → Shared → Prop} {s : Shared} {K : PySem.W.Frag} {C : Addr}
/-- the two objects that __new__ lays -/
abbrev newE (h : Heap) (C : Addr) (rest : List Value) : Heap := (h.push { cls := .type "tuple", data := .seq rest.toArray }).push (excObj C h.objs.size)
theorem newE_keep {h : Heap} {rest : List Value} {b : Addr} {o : Obj} (e : h.get? b = some o) : (newE h C rest).get? b = some o := Heap.get?_push_of_some _ (Heap.get?_push_of_some _ e)
theorem newE_at {h : Heap} {rest : List Value} : ErrO (h.objs.size + 1) C none (newE h C rest) := ⟨excObj C h.objs.size, _, by heap_get, rfl, rfl, ⟨⟨_, rfl⟩, rfl⟩, rfl⟩
/-- C(..) up to __init__ -/
theorem err_call {rest : List Value} {fI : Value} {Q : Value → Shared → Prop} (X : K.In s.heap) (Z : XE K C) (hi : PySem.W.findIn K (.ref C) "__init__" = some (some fI)) (hb : ∀ x : Addr, PySem.W.Looks (model prog w) (newE s.heap C rest) (bindSpecial fI (.ref x)) (fI, [.ref x])) (hz : rest.length ≤ sizeLine)
    (h : wpAny (model prog w) (A.under (.builtin "type.__call__" ⟨.ref C :: rest, []⟩)) (call fI (.ref (s.heap.objs.size + 1) :: rest)) (fun r s' => r = .none ∧ Q (.ref (s.heap.objs.size + 1)) s') E { s with heap := newE s.heap C rest }) :
    wpAny (model prog w) A (call (.ref C) rest) Q E s := by
  obtain ⟨hh, g, dr, t, os⟩ := s
  obtain ⟨bm, N, nm, qn, bs, sn, sub, ab, col, dd, k0, k1, k2, k3, k5, mN, hC, hN, T, _⟩ := XE.obj X Z
  have FB := F.excBase_ValueError
  have f1 := tc_lookup
  have f2 := tc_bind (.ref C)
  have hT : (⟨hh, g, dr, t, os⟩ : Shared).TypeIs (.ref C) "type" := ⟨_, hC, rfl⟩
  have body : ∀ {Q' : PySem.Fin → Shared → Prop} {A' : Around}, wpAny (model prog w) A' (call fI (.ref (hh.objs.size + 1) :: rest)) (fun r s' => r = .none ∧ Q' (.done (.ret (.ref (hh.objs.size + 1)))) s') E ⟨newE hh C rest, g, dr, t, os⟩ →
      wpAny (model prog w) A' (Builtin.«type.__call__» ⟨.ref C :: rest, []⟩) Q' E ⟨hh, g, dr, t, os⟩ := by
    intro Q' A' hq
    repeat (first
      | with_reducible refine wpAny_loadPart_at hC ?_
      | with_reducible refine wpAny_madeBy_exc hC ?_
      | wp_step)
    refine codeAny_call_builtin_code (Code.quiet_builtin _ FB.quiet) (wpAny_check_new_subU FB FB.hasB T hC ?_)
    refine codeAny_exc_new_subU FB FB.hasB FB T hC ?_ hz
    show wpAny _ _ _ _ _ _
    have hC1 := newE_keep (C := C) (rest := rest) hC
    have X1 : K.In (newE hh C rest) := X.keeps fun b o e => newE_keep e
    have hX : (newE hh C rest).get? (hh.objs.size + 1) = some (excObj C hh.objs.size) := by heap_get
    have hcC : (Value.ref C :: bm).contains (.ref C) = true := by simp
    unfold isInstance
    repeat (first
      | with_reducible refine wpAny_loadPart_at hX ?_
      | (with_reducible refine wpAny_isSubtype_exc hC1 ?_; rw [hcC])
      | wp_step)
    show wpAny _ _ (typeLookup (.ref C) _) _ _ _
    refine (PySem.W.looks_findIn X1 hi).at ?_
    refine wpAny_holding (wpAny_bind ((hb (hh.objs.size + 1)).at ?_))
    refine wpAny_bind (wpAny_mono hq (fun r s' hr => ?_) fun _ _ z => z)
    obtain ⟨rfl, hQ⟩ := hr
    wp_walk
    exact hQ
  refine wpAny_call (codeAny_of_tree ?_)
  show wpAny _ _ (callAny (.ref C) _) _ _ _
  repeat (any_goals (first
    | assumption
    | with_reducible refine wpAny_loadPart_at hC ?_
    | wp_step))
  refine ⟨rfl, ?_⟩
  exact codeAny_call_builtin_at (Code.quiet_builtin _ (by decide +kernel)) entry_typeCall (wpAny_check_type_call_sub hC (body h))
end
end L2

/-! OWN RULES, own errors in the layer: made, their __init__, their attributes, isinstance; f-strings whose words do not matter. -/
namespace L2
open PySem PySem.Spec PyProof.Rows
/-- the dict of an own error -/
def ErrD (a : Addr) (fs : List (Str × V)) (h : Heap) : Prop := ∃ mA, h.Ns1 a mA ∧ (∀ f, RelO (fs.lookup f) (mA f)) ∧ PySem.Within mA (fs.map (·.1))
theorem ext_errO {prog : Program} {w : World} {H : Hp} {h : Heap} {x C : Addr} {d : Option Addr} (I : ErrO x C d h) : ObjOk prog w H h x (.ext (ErrO x C d)) :=
  ⟨I, (let ⟨o, _, e, _⟩ := I; ⟨o, e⟩), fun _ _ y k => let ⟨o, vs, e, r⟩ := y; ⟨o, vs, k o e, r⟩⟩
theorem ext_errD {prog : Program} {w : World} {H : Hp} {h : Heap} {a : Addr} {fs : List (Str × V)} (I : ErrD a fs h) : ObjOk prog w H h a (.ext (ErrD a fs)) :=
  ⟨I, (let ⟨_, ⟨o, _, _, e, _⟩, _⟩ := I; ⟨o, e⟩), fun _ _ y k => let ⟨mA, ⟨o, es, ep, e, r⟩, q⟩ := y; ⟨mA, ⟨o, es, ep, k o e, r⟩, q⟩⟩
theorem ext_errT {prog : Program} {w : World} {H : Hp} {h : Heap} {x C : Addr} {d : Option Addr} (I : ErrT x C d h) : ObjOk prog w H h x (.ext (ErrT x C d)) :=
  ⟨I, (let ⟨o, _, e, _⟩ := I; ⟨o, e⟩), fun _ _ y k => let ⟨o, vs, e, r⟩ := y; ⟨o, vs, k o e, r⟩⟩
/-- an own error's object, raised or not -/
def HasE (H : Hp) (x C : Addr) (d : Option Addr) : Prop := H x = some (.ext (ErrO x C d)) ∨ H x = some (.ext (ErrT x C d))
/-- an own error with its attributes -/
def ErrAt (H : Hp) (x C : Addr) (fs : List (Str × V)) : Prop :=
  (fs = [] ∧ HasE H x C none) ∨ ∃ dx, dx ≠ x ∧ HasE H x C (some dx) ∧ H dx = some (.ext (ErrD dx fs))
theorem HasE.mono {H H' : Hp} {x C : Addr} {d : Option Addr} (s : Same H H') (h : HasE H x C d) : HasE H' x C d := h.imp (s _ _) (s _ _)
theorem ErrAt.mono {H H' : Hp} {x C : Addr} {fs : List (Str × V)} (s : Same H H') (h : ErrAt H x C fs) : ErrAt H' x C fs := by
  rcases h with ⟨e, h⟩ | ⟨dx, n, h1, h2⟩
  · exact .inl ⟨e, h.mono s⟩
  · exact .inr ⟨dx, n, h1.mono s, s _ _ h2⟩
section
variable {X : Cx} {pins : List (Addr × Obj)} {σ : St} {H : Hp} {s : Shared}
theorem Inv.errO {x C : Addr} {d : Option Addr} (I : Inv X pins σ H s) (e : H x = some (.ext (ErrO x C d))) : ErrO x C d s.heap := (show ObjOk X.prog X.w H s.heap x (.ext (ErrO x C d)) from I.hok x _ e).1
theorem Inv.errT {x C : Addr} {d : Option Addr} (I : Inv X pins σ H s) (e : HasE H x C d) : ErrT x C d s.heap := by
  rcases e with e | e
  · exact (I.errO e).t
  · exact (show ObjOk X.prog X.w H s.heap x (.ext (ErrT x C d)) from I.hok x _ e).1
theorem Inv.errD {a : Addr} {fs : List (Str × V)} (I : Inv X pins σ H s) (e : H a = some (.ext (ErrD a fs))) : ErrD a fs s.heap := (show ObjOk X.prog X.w H s.heap a (.ext (ErrD a fs)) from I.hok a _ e).1
theorem Inv.err {x C : Addr} {fs : List (Str × V)} (I : Inv X pins σ H s) (h : ErrAt H x C fs) : ∃ mA, s.heap.Inst x C mA ∧ (∀ f, RelO (fs.lookup f) (mA f)) ∧ PySem.Within mA (fs.map (·.1)) := by
  rcases h with ⟨rfl, h⟩ | ⟨dx, n, h1, h2⟩
  · obtain ⟨o, vs, e, c, d, hd⟩ := I.errT h
    exact ⟨fun _ => none, ⟨o, e, c, (fun z q => by rw [d] at q; cases q), .inl ⟨hd, fun _ => rfl⟩⟩, fun f => trivial, PySem.Within.nil⟩
  · obtain ⟨o, vs, e, c, d, hd⟩ := I.errT h1
    obtain ⟨mA, hn, r, hw⟩ := I.errD h2
    exact ⟨mA, ⟨o, e, c, (fun z q => by rw [d] at q; cases q), .inr ⟨dx, hd, n, hn⟩⟩, r, hw⟩
theorem Inv.excAt {x C : Addr} {fs : List (Str × V)} (I : Inv X pins σ H s) (h : ErrAt H x C fs) : ExcAt x C s.heap := by
  rcases h with ⟨rfl, h⟩ | ⟨dx, n, h, _⟩
  · obtain ⟨o, vs, e, c, _⟩ := I.errT h
    exact ⟨o, e, c⟩
  · obtain ⟨o, vs, e, c, _⟩ := I.errT h
    exact ⟨o, e, c⟩
/-! ### isinstance -/
theorem call_isiE : CallR X (.builtin "isinstance") (fun xs H Q => ∃ x C fs y u b, xs = [.ref x, y] ∧ ErrAt H x C fs ∧ XE X.K C ∧ clsV y = some u ∧ PySem.W.kitOne X.K (.ref C) u = some b ∧ Q (.bl b) H) := by
  intro pins s σ H xs us Q I r h
  obtain ⟨x, C, fs, y, u, b, rfl, hx, Z, hy, e, q⟩ := h
  obtain ⟨v, w', rfl, rx, ry⟩ := vals2 r
  cases (show v = Value.ref x from rx)
  cases (clsV_is hy ry)
  exact PySem.W.kia_one (kitx_err Z) I.kIn (I.excAt hx) e (fun z => nomatch z) fun tk => ⟨.bl b, H, I.tok tk, rfl, q⟩
/-! ### attributes -/
def tErrF (K : PySem.W.Frag) (te : TE) (f : Str) : TE := fun σ H Q => te σ H fun v H1 => ∃ x C fs z, v = .ref x ∧ ErrAt H1 x C fs ∧ XE K C ∧ PySem.W.findIn K (.ref C) f = some none ∧ fs.lookup f = some z ∧ Q z H1
theorem pe_errF {e : Expr} {te : TE} {f : Str} {pos : Pos} (he : PE X e te) (hb : attributeBase e f X.env (eval e X.env) = eval e X.env) : PE X (.Attribute e f pos) (tErrF X.K te f) := by
  intro pins s σ H Q I h
  refine attr_of hb (thn (he pins s σ H _ I h) fun u s1 ⟨v, H1, I1, rv, x, C, fs, z, ev, hx, Z, hn, hz, q⟩ => ?_)
  subst ev
  obtain rfl : u = Value.ref x := rv
  obtain ⟨mA, hi, rl, _⟩ := I1.err hx
  have r := rl f
  rw [hz] at r
  cases hm : mA f with
  | none => rw [hm] at r; exact r.elim
  | some uz =>
    rw [hm] at r
    have r' : RelV z uz := r
    exact err_load I1.kIn Z hn hi hm (PySem.W.handedOut_of (handed_of r')) ⟨z, H1, I1.tok _, r', q⟩
/-- the first attribute of an error is stored: its dict is made -/
def sErr1 (K : PySem.W.Frag) (ta tv : TE) (f : Str) : TS := fun D σ H => tv σ H fun y H1 => ta σ H1 fun v H2 => ∃ x C, v = .ref x ∧ H2 x = some (.ext (ErrO x C none)) ∧ XE K C ∧ PySem.W.findIn K (.ref C) f = some none ∧
  ∀ d, H2 d = none → d ≠ x → D.nx σ (upd (upd H2 x (.ext (ErrO x C (some d)))) d (.ext (ErrD d [(f, y)])))
theorem ps_err1 {o value : Expr} {ta tv : TE} {f : Str} {pos pos' : Pos} (ha : PE X o ta) (hv : PE X value tv) (hs : swapsWith value (some (.Attribute o f pos')) pos.line X.env = pure false) : PS X (.Assign [.Attribute o f pos'] value pos) (sErr1 X.K ta tv f) := by
  intro pins s σ H D I h
  refine plainObj_wpAny_Assign_Attribute (thn (hv pins s σ H _ I h) fun u s1 ⟨y, H1, I1, ry, q⟩ => thn (ha pins s1 σ H1 _ I1 q) fun ov s2 ⟨v, H2, I2, rv, x, C, ev, hx, Z, hn, q2⟩ => ?_) hs
  subst ev
  obtain rfl : ov = Value.ref x := rv
  obtain ⟨mA, hi, rl, hw⟩ := I2.err (.inl ⟨rfl, .inl hx⟩ : ErrAt H2 x C [])
  have hmA : ∀ g, mA g = none := fun g => by
    have r := rl g
    cases hm : mA g with
    | none => rfl
    | some z => rw [hm] at r; exact r.elim
  refine err_store I2.kIn Z hn hi (fun h' tk' hi' hk hso => ?_) hw (by show 0 ≤ 1000; decide)
  obtain ⟨o0, vs, e0, c0, d0, hvs, hd0⟩ := I2.errO hx
  obtain ⟨o1, g1, g2, g3, _, _, g6⟩ := hso o0 e0
  have g6 := g6 hd0
  have hxlt : x < s2.heap.objs.size := Heap.lt_size e0
  have hdx : s2.heap.objs.size ≠ x := Nat.ne_of_gt hxlt
  have hfree : H2 s2.heap.objs.size = none := I2.hok.fresh (Nat.le_refl _)
  have keep : ∀ b u, b ≠ x → s2.heap.get? b = some u → h'.get? b = some u := fun b u hb e => hk b u hb (fun o₀ dx e1 e2 => by
    rw [e0] at e1
    cases e1
    rw [hd0] at e2
    cases e2) e
  have EO : ErrO x C (some s2.heap.objs.size) h' := ⟨o1, vs, g1, g2.trans c0, g3.trans d0, hvs, g6⟩
  have J1 : Inv X pins σ (upd H2 x (.ext (ErrO x C (some s2.heap.objs.size)))) { s2 with heap := h', toks := tk' } := I2.write (x := x) (e := x) (by rw [hx]; trivial) (.inl rfl) keep ⟨_, g1⟩ (ext_errO EO)
  have ED : ErrD s2.heap.objs.size [(f, y)] h' := by
    obtain ⟨o2, k1, k2, _, k4⟩ := hi'
    rw [g1] at k1
    cases k1
    rcases k4 with ⟨z, _⟩ | ⟨dx, z1, z2, z3⟩
    · rw [g6] at z; cases z
    · rw [g6] at z1
      cases z1
      refine ⟨_, z3, fun g => ?_, ?_⟩
      · rw [List.lookup_cons]
        by_cases hg : g = f
        · subst hg
          simp only [beq_self_eq_true, if_true]
          exact ry
        · rw [beq_eq_false_iff_ne.mpr hg]
          simp only [hg, if_false, hmA]
          trivial
      · exact Within.cons f u (ns := []) (by
          have : mA = fun _ => none := funext hmA
          rw [this]
          exact Within.nil)
  have Fd := I2.fpOk (H' := upd H2 x (.ext (ErrO x C (some s2.heap.objs.size)))) (b := s2.heap.objs.size) (Nat.le_refl _) (by rw [upd_ne hdx]; exact hfree)
  have J2 := J1.adopt (h' := h') (tk := tk') (o := .ext (ErrD s2.heap.objs.size [(f, y)])) Fd (fun _ _ _ e => e) (let ⟨_, ⟨o, _, _, e, _⟩, _⟩ := ED; ⟨o, e⟩) (ext_errD ED)
  exact ⟨σ, _, J2, q2 _ hfree hdx⟩
/-- a further attribute -/
def sErr2 (K : PySem.W.Frag) (ta tv : TE) (f : Str) : TS := fun D σ H => tv σ H fun y H1 => ta σ H1 fun v H2 => ∃ x C dx fs, v = .ref x ∧ dx ≠ x ∧ H2 x = some (.ext (ErrO x C (some dx))) ∧ H2 dx = some (.ext (ErrD dx fs)) ∧ fs.length ≤ 900 ∧ XE K C ∧ PySem.W.findIn K (.ref C) f = some none ∧
  D.nx σ (upd H2 dx (.ext (ErrD dx ((f, y) :: fs))))
end
end L2

/-! OWN RULES: f-strings whose words do not matter; G.__init__(self, text); own errors made in an expression. -/
namespace L2
open PySem PySem.Spec PyProof.Rows
/-- a part of an f-string: some text -/
def PF (X : Cx) (e : Expr) (t : St → Hp → Prop) : Prop := ∀ (pins : List (Addr × Obj)) (s : Shared) (σ : St) (H : Hp), Inv X pins σ H s → t σ H →
  wpAny (model X.prog X.w) X.A (eval e X.env) (fun v s' => ∃ y u, v = .str y u ∧ y.length ≤ 100000 ∧ Inv X pins σ H s') X.xe s
/-- what may stand in the braces: an int that is not huge, None -/
def FmtV : V → Prop
  | .non => True
  | .int a => a.natAbs.log2 < 1920
  | _ => False
section
variable {X : Cx}
theorem pf_text {z : Str} {j : Nat} {pos : Pos} : PF X (.Constant (.str z) j pos) (fun _ _ => z.length ≤ 100000) := fun pins s σ H I h => Calls.Constant_str ⟨z, _, rfl, h, I.tok _⟩
theorem pf_val {e : Expr} {te : TE} {pos : Pos} (he : PE X e te) : PF X (.FormattedValue e (-1) none pos) (fun σ H => te σ H fun v H' => FmtV v ∧ H' = H) := by
  intro pins s σ H I h
  refine wpAny_FormattedValue_plain (thn (he pins s σ H _ I h) fun u s1 ⟨v, H1, I1, rv, hf, e1⟩ => ?_)
  subst e1
  cases v with
  | non =>
    cases (show u = Value.none from rv)
    exact wpAny_formatField_none ⟨_, _, rfl, by decide, I1.tok _⟩
  | int a =>
    obtain ⟨t, rfl⟩ := rv
    have hl : a.natAbs.log2 < 1920 := hf
    refine wpAny_formatField_int hl ⟨_, _, rfl, ?_, I1.tok _⟩
    have := int_text_length_le (k := 1920) (by decide) hl
    rw [PySem.ofString_length]
    omega
  | _ => exact hf.elim
/-- the parts, from the left -/
def PFs (X : Cx) (es : List Expr) (t : St → Hp → Prop) : Prop := ∀ (pins : List (Addr × Obj)) (σ : St) (H : Hp), t σ H → ∀ (s : Shared) (acc : Str) (Q : Str → Shared → Prop), Inv X pins σ H s → acc.length + 100000 * es.length ≤ sizeLine →
  (∀ out s', Inv X pins σ H s' → out.length ≤ sizeLine → Q out s') → Joins (model X.prog X.w) X.A X.xe (evalEach es X.env) acc Q s
theorem pfs_nil : PFs X [] (fun _ _ => True) := fun _ _ _ _ s acc Q I hz h => h acc s I (by simpa using hz)
theorem pfs_cons {e : Expr} {es : List Expr} {t u : St → Hp → Prop} (he : PF X e t) (hr : PFs X es u) (hev : evalEach (e :: es) X.env = eval e X.env :: evalEach es X.env := by rfl) : PFs X (e :: es) (fun σ H => t σ H ∧ u σ H) := by
  intro pins σ H ⟨h1, h2⟩ s acc Q I hz h
  rw [hev]
  rw [List.length_cons] at hz
  refine thn (he pins s σ H I h1) fun v s1 ⟨y, tk, ev, hy, I1⟩ => ⟨y, tk, ev, ?_, ?_⟩
  · rw [strLen_append]
    omega
  · exact hr pins σ H h2 s1 (acc ++ y) Q I1 (by rw [strLen_append]; omega) h
/-- an f-string of two parts or more: some text -/
def tFstr (t : St → Hp → Prop) : TE := fun σ H Q => t σ H ∧ ∀ z, Q (.str z) H
theorem pe_fstr {v₁ v₂ : Expr} {rest : List Expr} {pos : Pos} {t : St → Hp → Prop} (h : PFs X (v₁ :: v₂ :: rest) t) (hl : rest.length ≤ 100 := by decide) : PE X (.JoinedStr (v₁ :: v₂ :: rest) pos) (tFstr t) := by
  intro pins s σ H Q I ⟨ht, hq⟩
  refine wpAny_JoinedStr (h pins σ H ht s Str.empty _ I ?_ fun out s' I' ho => ⟨ho, ⟨.str out, H, I'.tok _, ⟨_, rfl⟩, hq out⟩⟩)
  have e0 : Str.empty.length = 0 := by decide
  rw [e0, List.length_cons, List.length_cons, sizeLine_eq]
  omega
/-! ### G.__init__(self, text) -/
/-- the class whose __init__ is asked for: ValueError's -/
structure Gi (K : PySem.W.Frag) (G : Addr) : Prop where
  sp : PySem.W.specialIn K (.ref G) "__getattribute__" = some (some (.builtin "type.__getattribute__"))
  rd : PySem.W.readsIn K G (.type "type") = true
  fd : PySem.W.findCls K (.ref G) (.type "type") "__init__" = some (.val (.builtin "ValueError.__init__"))
def tGinit (K : PySem.W.Frag) (t : TA) : TE := fun σ H Q => t σ H fun vs H2 => ∃ x C d y, vs = [.ref x, y] ∧ H2 x = some (.ext (ErrO x C d)) ∧ XE K C ∧ Q .non H2
theorem upd_id {H : Hp} {a : Addr} {o : HO} (h : H a = some o) : upd H a o = H := by
  funext b
  unfold upd
  split
  · rename_i e; rw [e, h]
  · rfl
theorem pe_ginit {gn : Str} {G : Addr} {e : Expr} {es : List Expr} {t : TA} {p1 p2 p3 : Pos} {pl : Sem Bool} (hg : Gl X gn) (hm : X.mg gn = some (.ref G)) (Z : Gi X.K G) (ha : PA X (e :: es) t) (hd : (gn == ("__debug__" : Str)) = false := by decide)
    (hs : starEach (e :: es) X.env = (false, eval e X.env) :: starEach es X.env := by rfl) (hplain : (backTo p3 (starEach es X.env)).any (·.1) = false := by rfl)
    (ht : eval (.Call (.Attribute (.Name gn p1) "__init__" p2) (e :: es) [] p3) X.env = (do
      let ov ← eval (.Name gn p1) X.env
      standAt p2.atName
      let (f, first) ← holding [ov] (getMethod ov "__init__" pl)
      callWith p3 f first (backTo p3 (starEach (e :: es) X.env)) (backToKw p3 (keywordEach [] X.env))) := by rfl) :
    PE X (.Call (.Attribute (.Name gn p1) "__init__" p2) (e :: es) [] p3) (tGinit X.K t) := by
  intro pins s σ H Q I h
  refine PySem.W.methodCall_KW (pl := pl) (ld_glob I hg hm ?_ hd) ht
  refine PySem.W.method_cls I.kIn Z.sp ?_
  refine PySem.W.cls_value I.kIn Z.rd Z.fd rfl ?_
  have hA := ha p3 pins _ σ H _ (I.tok (s.toks + 1)) h
  rw [hs] at hA ⊢
  refine Calls.callWith_builtin (by show (false || (backTo p3 (starEach es X.env)).any (·.1)) = false; rw [hplain] <;> rfl) (Calls.evalArgs_plain ?_)
  refine thn hA fun us s1 ⟨vs, H2, I1, r, x, C, d, y, ev, hx, ZC, q⟩ => ?_
  subst ev
  obtain ⟨u1, u2, rfl, r1, r2⟩ := vals2 r
  cases (show u1 = Value.ref x from r1)
  refine ve_init I1.kIn ZC (I1.errO hx) (by show 1 ≤ sizeLine; decide) fun h' hk ho => ?_
  have J := I1.write (x := x) (e := x) (t' := s1.toks) (by rw [hx]; trivial) (.inl rfl) (fun b u hb z => hk b u hb z) (let ⟨o, _, z, _⟩ := ho; ⟨o, z⟩) (ext_errO ho)
  rw [upd_id hx] at J
  exact ⟨.non, H2, J, rfl, q⟩
/-! ### C(..) -/
/-- an own error class whose __init__ is its own, at fI -/
structure Ei (K : PySem.W.Frag) (C fI : Addr) : Prop where
  x : XE K C
  kp : PySem.W.keepIn K (.ref C) = true
  fi : PySem.W.findIn K (.ref C) "__init__" = some (some (.ref fI))
  fn : PySem.W.typeIn K (.ref fI) = some (.type "function")
def tMkE (C : Addr) (sp : Sp) (t : TA) : TE := fun σ H Q => t σ H fun vs H1 => vs.length ≤ 1000 ∧ ∀ x, H1 x = none → sp (.ref x :: vs) (upd H1 x (.ext (ErrO x C none))) (fun v H2 => v = .non ∧ Q (.ref x) H2) E0
theorem Inv.newErr {pins : List (Addr × Obj)} {σ : St} {H : Hp} {s : Shared} {C : Addr} {us : List Value} (I : Inv X pins σ H s) : Inv X pins σ (upd H (s.heap.objs.size + 1) (.ext (ErrO (s.heap.objs.size + 1) C none))) { s with heap := newE s.heap C us, toks := s.toks } :=
  I.laid (t' := s.toks) (fun b u e => newE_keep e) (Nat.le_succ _) (ext_errO newE_at)
/-- an own error class without an __init__ of its own -/
structure Eo (K : PySem.W.Frag) (C : Addr) : Prop where
  x : XE K C
  kp : PySem.W.keepIn K (.ref C) = true
  fi : PySem.W.findIn K (.ref C) "__init__" = some (some (.builtin "ValueError.__init__"))
def tMkO (C : Addr) (t : TA) : TE := fun σ H Q => t σ H fun vs H1 => vs.length ≤ 1000 ∧ ∀ x, H1 x = none → Q (.ref x) (upd H1 x (.ext (ErrO x C none)))
end
end L2

/-! OWN: own error classes of a law as facts that the kernel looks up; lists of truths told apart; a law's errors. -/
namespace L2
open PySem PySem.Spec PyProof.Rows
section
variable {X : Cx}
/-- l != m, two lists of truths -/
def rNeB (K : PySem.W.Frag) : R2 := fun x y H Q => ∃ (a b : Addr) (bs : List Bool), x = .ref a ∧ y = .ref b ∧ SqL K H a (bs.map V.bl) ∧ SqL K H b (bs.map V.bl) ∧ Q (.bl false) H
end
/-! ### what the kernel looks up -/
def veB : List Value → Bool
  | .ref _ :: r => veB r
  | [.type a, .type b, .type c, .type d] => a == "ValueError" && b == "Exception" && c == "BaseException" && d == "object"
  | _ => false
theorem veB_tail : ∀ {l : List Value}, veB l = true → VeTail l
  | .ref c :: r, e => .step (veB_tail (l := r) e)
  | [.type a, .type b, .type c, .type d], e => by
    simp only [veB, Bool.and_eq_true, beq_iff_eq] at e
    obtain ⟨⟨⟨rfl, rfl⟩, rfl⟩, rfl⟩ := e
    exact .base
def xeB (K : PySem.W.Frag) (C : Addr) : Bool :=
  (match K.lookup C with
  | some ⟨.type "type", _, .cls cd, ⟨[_, _, _, _, some (.builtin n), _]⟩⟩ => (match cd.mro with
    | .ref C' :: bm => decide (C' = C) && (n == "ValueError.__new__" && (cd.hasDel == false && (cd.hasDict && (veB bm && (PySem.W.tailIn K veMro bm && PySem.W.nsOkIn K cd.ns)))))
    | _ => false)
  | _ => false) &&
  (PySem.W.findIn K (.ref C) "__getattribute__" == some (some (.builtin "BaseException.__getattribute__")) && (PySem.W.findIn K (.ref C) "__getattr__" == some none && (PySem.W.findIn K (.ref C) "__setattr__" == some (some (.builtin "object.__setattr__")) &&
  (PySem.W.findIn K (.ref C) "__class__" == some (some (.builtin "object.__class__")) && (PySem.W.specialIn K (.builtin "object.__class__") "__get__" == some (some (.builtin "getset_descriptor.__get__")) && (PySem.W.takesIn K (.builtin "object.__class__") == some true &&
  (PySem.W.mroIn K C (.type "object") == some true && PySem.W.keepIn K (.ref C))))))))
theorem xeB_of {K : PySem.W.Frag} {C : Addr} (h : xeB K C = true) : XE K C ∧ PySem.W.keepIn K (.ref C) = true := by
  unfold xeB at h
  simp only [Bool.and_eq_true, beq_iff_eq] at h
  obtain ⟨h0, h1, h2, h3, h4, h5, h6, h7, h8⟩ := h
  refine ⟨⟨?_, h1, h2, h3, h4, h5, h6, h7⟩, h8⟩
  split at h0
  · rename_i dd cd k0 k1 k2 k3 n k5 lk
    split at h0
    · rename_i C' bm hm
      simp only [Bool.and_eq_true, beq_iff_eq, decide_eq_true_eq] at h0
      obtain ⟨rfl, rfl, e1, e2, e3, e4, e5⟩ := h0
      exact ⟨dd, cd, k0, k1, k2, k3, k5, bm, lk, hm, e1, e2, veB_tail e3, e4, e5⟩
    · cases h0
  · cases h0
/-- which class is under which: each under itself alone, all under G and ValueError -/
def kitTab (K : PySem.W.Frag) (cs : List Addr) (G : Addr) : Bool :=
  (List.range cs.length).all fun i => ((List.range cs.length).all fun j => PySem.W.kitOne K (.ref (cs.getD i 0)) (.ref (cs.getD j 0)) == some (decide (i = j))) &&
    (PySem.W.kitOne K (.ref (cs.getD i 0)) (.ref G) == some true && PySem.W.kitOne K (.ref (cs.getD i 0)) (.type "ValueError") == some true)
structure Kits (K : PySem.W.Frag) (cs : List Addr) (G : Addr) (i : Nat) : Prop where
  one : ∀ j, j < cs.length → PySem.W.kitOne K (.ref (cs.getD i 0)) (.ref (cs.getD j 0)) = some (decide (i = j))
  g : PySem.W.kitOne K (.ref (cs.getD i 0)) (.ref G) = some true
  v : PySem.W.kitOne K (.ref (cs.getD i 0)) (.type "ValueError") = some true
theorem kitTab_of {K : PySem.W.Frag} {cs : List Addr} {G : Addr} (h : kitTab K cs G = true) : ∀ i, i < cs.length → Kits K cs G i := fun i hi => by
  have h1 := List.all_eq_true.mp h i (List.mem_range.mpr hi)
  simp only [Bool.and_eq_true, beq_iff_eq] at h1
  exact ⟨fun j hj => by simpa using List.all_eq_true.mp h1.1 j (List.mem_range.mpr hj), h1.2.1, h1.2.2⟩
/-! ### a class with its __init__ as one fact -/
structure Oe (P : Program) (w : World) (K : PySem.W.Frag) (mg : Str → Option Value) (base : Heap) (x : Str) (C : Addr) (ps : List Str) (k : Nat) (sp : Sp) : Prop where
  ex : ∃ (fI : Addr) (fd : FuncData), mg x = some (.ref C) ∧ Ei K C fI ∧ Binds K fd ps [] ∧ FnOk P w K mg base CX0 k fI fd ps sp
structure Oo (K : PySem.W.Frag) (mg : Str → Option Value) (x : Str) (C : Addr) : Prop where
  m : mg x = some (.ref C)
  e : Eo K C
section
variable {X : Cx} {k j : Nat} {ps : List Str} {sp : Sp} {x : Str} {C : Addr} {p pos : Pos} {e : Expr} {es : List Expr} {t : TA}
end
/-- __init__(self, v) that keeps v in f -/
def spE1 (C : Addr) (f : Str) : Sp := fun vs H Q _ => ∃ x v, vs = [.ref x, v] ∧ H x = some (.ext (ErrO x C none)) ∧ FmtV v ∧ ∀ d, H d = none → d ≠ x → Q .non (upd (upd H x (.ext (ErrO x C (some d)))) d (.ext (ErrD d [(f, v)])))
/-- __init__(self, z, v) that keeps z in f, v in g -/
def spE2 (C : Addr) (f g : Str) : Sp := fun vs H Q _ => ∃ x z v, vs = [.ref x, .str z, v] ∧ H x = some (.ext (ErrO x C none)) ∧ (reprText z).length ≤ 100000 ∧ FmtV v ∧
  ∀ d, H d = none → d ≠ x → Q .non (upd (upd H x (.ext (ErrO x C (some d)))) d (.ext (ErrD d [(g, v), (f, .str z)])))
end L2

/-! OWN: what the law of the refusals speaks of: the fifteen errors in a list. -/
namespace L2
open PySem PySem.Spec PyProof.Rows
theorem boot_ValueError : bootBuiltins "ValueError" = some (.type "ValueError") := by decide +kernel
/-- the fields of the fifteen -/
def fld (n : Int) (t : V) (w : Str) : List (List (Str × V)) := [[("row", t)], [("at", .int n), ("sign", .str w)], [("word", .int n)], [("number", .int n)], [("row", .int n)], [("at", t)], [("part", .int n)], [("owed", .int n)], [], [], [], [], [], [], []]
/-- the fifteen in a list -/
structure Errs (H : Hp) (l : Addr) (xs cs : List Addr) (fs : List (List (Str × V))) : Prop where
  lst : H l = some (.lst (xs.map V.ref))
  len : xs.length = 15
  one : ∀ i, i < 15 → ErrAt H (xs.getD i 0) (cs.getD i 0) (fs.getD i [])
theorem Errs.mono {H H' : Hp} {l : Addr} {xs cs : List Addr} {fs : List (List (Str × V))} (s : Same H H') (h : Errs H l xs cs fs) : Errs H' l xs cs fs := ⟨s _ _ h.lst, h.len, fun i hi => (h.one i hi).mono s⟩
theorem Errs.get {H : Hp} {l : Addr} {xs cs : List Addr} {fs : List (List (Str × V))} (h : Errs H l xs cs fs) {i : Nat} (hi : i < 15) : atI (xs.map V.ref) ((i : Nat) : Int) = some (.ref (xs.getD i 0)) := by
  refine atI_nat ?_
  have : i < xs.length := by have := h.len; omega
  rw [List.getElem?_map, List.getElem?_eq_getElem this, List.getD_eq_getElem?_getD, List.getElem?_eq_getElem this]
  rfl
def ths (i : Nat) : List Bool := (List.range 15).map fun j => decide (i = j)
def spMade (cs : List Addr) : Sp := fun vs H Q _ => ∃ n t w, vs = [.int n, t, .str w] ∧ FmtV (.int n) ∧ FmtV t ∧ (reprText w).length ≤ 100000 ∧ ∀ l xs H', Same H H' → Errs H' l xs cs (fld n t w) → Q (.ref l) H'
def spKinds (cs : List Addr) : Sp := fun vs H Q _ => ∃ x i fs, vs = [.ref x] ∧ i < 15 ∧ ErrAt H x (cs.getD i 0) fs ∧ ∀ l H', Same H H' → H' l = some (.lst ((ths i).map V.bl)) → Q (.ref l) H'
def spFields (cs : List Addr) : Sp := fun vs H Q _ => ∃ l xs n t w, vs = [.ref l, .int n, t, .str w] ∧ Errs H l xs cs (fld n t w) ∧ FmtV t ∧ ∀ H', Same H H' → Q (.bl true) H'
end L2

/-! OWN: steps that leave every object's dict as it is: what a tree of steps does not change is told beside what it does. -/
namespace L2
open PySem PySem.Spec PyProof.Rows
/-- no step of the tree writes a dict's place; none calls -/
def DK {α : Type} : Sem α → Prop
  | .pure _ | .raise _ | .unsupported _ | .finish _ | .register .. | .yield .. | .fork .. | .await .. => True
  | .rule _ k | .at _ k | .point _ k => DK (k ())
  | .load _ _ k => ∀ o, DK (k o)
  | .update _ _ f k => (∀ o : Obj, (f o).dict = o.dict) ∧ DK (k ())
  | .loadIfAlive _ k => ∀ o, DK (k o)
  | .alloc _ k => ∀ a, DK (k a)
  | .fresh k => ∀ t, DK (k t)
  | .ask k => ∀ x, DK (k x)
  | .choose _ _ k => ∀ n, DK (k n)
  | .os _ _ k => ∀ r, DK (k r)
  | .call .. | .resume .. => False
  | .handled _ k => ∀ x, DK (k x)
  | .genState _ k => ∀ x, DK (k x)
  | .newGen _ k => ∀ n, DK (k n)
  | .stack k => ∀ l, DK (k l)
  | .thread k => ∀ n, DK (k n)
/-- each object's dict as it was -/
def RK (h h' : Heap) : Prop := ∀ (b : Addr) (o : Obj), h.objs[b]? = some o → ∃ o', h'.objs[b]? = some o' ∧ o'.dict = o.dict
theorem RK.refl (h : Heap) : RK h h := fun _ o e => ⟨o, e, rfl⟩
theorem RK.trans {a b c : Heap} (x : RK a b) (y : RK b c) : RK a c := fun p o e =>
  let ⟨_, e1, d1⟩ := x p o e; let ⟨o2, e2, d2⟩ := y p _ e1; ⟨o2, e2, d2.trans d1⟩
theorem RK.push (h : Heap) (u : Obj) : RK h (h.push u) := fun b o e => ⟨o, by
  obtain ⟨objs, l⟩ := h
  show (objs.push u)[b]? = some o
  have e' : objs[b]? = some o := e
  have : b < objs.size := (Array.getElem?_eq_some_iff.mp e').1
  rw [Array.getElem?_push_lt this]
  rw [Array.getElem?_eq_getElem this] at e'
  exact e', rfl⟩
theorem RK.update (h : Heap) (a : Addr) (f : Obj → Obj) (hf : ∀ o : Obj, (f o).dict = o.dict) : RK h (h.update a f) := fun b o e => by
  obtain ⟨objs, l⟩ := h
  have e' : objs[b]? = some o := e
  by_cases z : a = b
  · subst z
    exact ⟨f o, by show (objs.modify a f)[a]? = _; rw [Array.getElem?_modify, if_pos rfl, e']; rfl, hf o⟩
  · exact ⟨o, by show (objs.modify a f)[b]? = _; rw [Array.getElem?_modify, if_neg z]; exact e', rfl⟩
theorem RK.get {h h' : Heap} (r : RK h h') {b : Addr} {o o' : Obj} (e : h.get? b = some o) (e' : h'.get? b = some o') : o'.dict = o.dict := by
  have raw : ∀ {g : Heap} {u : Obj}, g.get? b = some u → g.objs[b]? = some u := fun {g u} q => by
    unfold Heap.get? at q
    split at q
    · cases q
    · exact q
  obtain ⟨o1, e1, d1⟩ := r b o (raw e)
  rw [raw e'] at e1
  cases e1
  exact d1
theorem dk_wp {α : Type} {M : Model} {Γ : PySem.Ctx} : ∀ (t : Sem α) {Q : α → Pos → Shared → Prop} {E : Value → Pos → Shared → Prop} {p : Pos} {s : Shared}, DK t → Sem.wp M Γ t Q E p s →
    Sem.wp M Γ t (fun a p' s' => Q a p' s' ∧ RK s.heap s'.heap) (fun e p' s' => E e p' s' ∧ RK s.heap s'.heap) p s := by
  intro t
  induction t with
  | pure a => intro Q E p s _ h; exact ⟨h, RK.refl _⟩
  | raise e => intro Q E p s _ h; exact ⟨h, RK.refl _⟩
  | unsupported w => intro Q E p s _ h; exact h
  | finish e => intro Q E p s _ h; exact h
  | rule t k ih => intro Q E p s d h; exact ih () d h
  | «at» q k ih => intro Q E p s d h; exact ih () d h
  | load a q k ih => intro Q E p s d h; obtain ⟨o, e, h⟩ := h; exact ⟨o, e, ih o (d o) h⟩
  | update a q f k ih =>
    intro Q E p s d h
    refine ⟨h.1, ?_⟩
    have r := RK.update s.heap a f d.1
    exact Sem.wp_mono M Γ _ (fun _ _ _ z => ⟨z.1, r.trans z.2⟩) (fun _ _ _ z => ⟨z.1, r.trans z.2⟩) _ _ (ih () d.2 h.2)
  | alloc o k ih =>
    intro Q E p s d h
    have r := RK.push s.heap o
    exact Sem.wp_mono M Γ _ (fun _ _ _ z => ⟨z.1, r.trans z.2⟩) (fun _ _ _ z => ⟨z.1, r.trans z.2⟩) _ _ (ih _ (d _) h)
  | loadIfAlive a k ih => intro Q E p s d h; exact ih _ (d _) h
  | point l k ih => intro Q E p s d h; exact ih () d h
  | register a k ih => intro Q E p s d h; exact h
  | fresh k ih => intro Q E p s d h; exact ih _ (d _) h
  | ask k ih => intro Q E p s d h; exact ih _ (d _) h
  | choose a n k ih => intro Q E p s d h; exact ⟨h.1, ih _ (d _) h.2⟩
  | os a l k ih => intro Q E p s d h; exact ih _ (d _) h
  | call c a g l k ih => intro Q E p s d h; exact d.elim
  | handled o k ih => intro Q E p s d h; exact ih _ (d _) h
  | newGen c k ih => intro Q E p s d h; exact ih _ (d _) h
  | genState g k ih => intro Q E p s d h; obtain ⟨st, e, h⟩ := h; exact ⟨st, e, ih _ (d _) h⟩
  | resume g r l k ih => intro Q E p s d h; exact d.elim
  | yield v g l k ih => intro Q E p s d h; exact h
  | stack k ih => intro Q E p s d h; exact ih _ (d _) h
  | fork c k ih => intro Q E p s d h; exact h
  | thread k ih => intro Q E p s d h; exact ih _ (d _) h
  | await a k ih => intro Q E p s d h; exact h
theorem dk_any {α : Type} {M : Model} {A : Around} {E : Value → Shared → Prop} {s : Shared} {t : Sem α} {Q : α → Shared → Prop} (d : DK t) (h : wpAny M A t Q E s) : wpAny M A t (fun a s' => Q a s' ∧ RK s.heap s'.heap) (fun e s' => E e s' ∧ RK s.heap s'.heap) s :=
  fun Γ p hΓ => dk_wp t d (h Γ p hΓ)
theorem DK_bind {α β : Type} : ∀ (t : Sem α) (f : α → Sem β), DK t → (∀ a, DK (f a)) → DK (t.bind f) := by
  intro t f
  induction t with
  | pure a => intro _ h; exact h a
  | raise e => intro _ _; trivial
  | unsupported w => intro _ _; trivial
  | finish e => intro _ _; trivial
  | rule t k ih => intro d h; exact ih () d h
  | «at» q k ih => intro d h; exact ih () d h
  | load a q k ih => intro d h o; exact ih o (d o) h
  | update a q g k ih => intro d h; exact ⟨d.1, ih () d.2 h⟩
  | alloc o k ih => intro d h a; exact ih a (d a) h
  | loadIfAlive a k ih => intro d h o; exact ih o (d o) h
  | point l k ih => intro d h; exact ih () d h
  | register a k ih => intro _ _; trivial
  | fresh k ih => intro d h o; exact ih o (d o) h
  | ask k ih => intro d h o; exact ih o (d o) h
  | choose a n k ih => intro d h o; exact ih o (d o) h
  | os a l k ih => intro d h o; exact ih o (d o) h
  | call c a g l k ih => intro d h; exact d.elim
  | handled o k ih => intro d h o; exact ih o (d o) h
  | newGen c k ih => intro d h o; exact ih o (d o) h
  | genState g k ih => intro d h o; exact ih o (d o) h
  | resume g r l k ih => intro d h; exact d.elim
  | yield v g l k ih => intro _ _; trivial
  | stack k ih => intro d h o; exact ih o (d o) h
  | fork c k ih => intro _ _; trivial
  | thread k ih => intro d h o; exact ih o (d o) h
  | await a k ih => intro _ _; trivial
theorem DK_bind' {α β : Type} {t : Sem α} {f : α → Sem β} (d : DK t) (h : ∀ a, DK (f a)) : DK (t >>= f) := DK_bind t f d h
theorem DK_pure {α : Type} (a : α) : DK (pure a : Sem α) := trivial
theorem DK_uns {α : Type} (w : String) : DK (unsupported w : Sem α) := trivial
theorem DK_load (a : Addr) : DK (load a) := fun _ => trivial
theorem DK_stack : DK stack := fun _ => trivial
theorem mapFields_dict (f : Array Value → Array Value) (o : Obj) : (Obj.mapFields f o).dict = o.dict := by
  obtain ⟨c, d, dt, sl⟩ := o
  cases dt <;> rfl
theorem DK_field (v : Value) (i : Nat) : DK (field v i) := by
  unfold field
  refine DK_bind' ?_ fun a => ?_
  · unfold fieldsOf
    split
    · refine DK_bind' (DK_load _) fun o => ?_
      split
      · exact DK_pure _
      · exact DK_uns _
    · exact DK_uns _
  · split
    · exact DK_pure _
    · exact DK_uns _
theorem DK_updateField (a : Addr) (i : Nat) (v : Value) : DK (updateField a i v) := by
  unfold updateField
  refine DK_bind' (DK_load _) fun o => ?_
  split
  · split
    · exact ⟨mapFields_dict _, trivial⟩
    · exact DK_uns _
  · exact DK_uns _
theorem DK_setField (v : Value) (i : Nat) (x : Value) : DK (setField v i x) := by
  unfold setField
  split
  · exact DK_updateField _ _ _
  · exact DK_uns _
theorem DK_setFlight (e : Value) (f : Option Addr) : DK (setFlight e f) := by
  unfold setFlight
  refine DK_bind' (DK_field _ _) fun tb => ?_
  split
  · exact DK_setField _ _ _
  · exact DK_pure _
theorem DK_newEntry (a b c d e : Value) (pl : List Value) : DK (EntryCells.newEntry a b c d e pl) := by
  unfold EntryCells.newEntry newFields newObj
  generalize ([a, b, c, d, e] ++ (if pl.isEmpty then List.replicate 6 Value.none else pl)).toArray = arr
  dsimp only
  by_cases h : arr.size > sizeLine + 2
  · rw [if_pos h]
    trivial
  · rw [if_neg h]
    exact fun _ => trivial
theorem DK_under : DK underTheClaimsCaller := fun _ => trivial
theorem DK_behind (env : Env) (outer : List Env) : DK (behindIsImport env outer) := by
  unfold behindIsImport
  split
  · exact DK_pure _
  · split
    · exact DK_pure _
    · exact DK_bind' (DK_field _ _) fun _ => DK_pure _
theorem DK_kept (env : Env) (b : Bool) (l : List Env) : DK (keptBack env b l) := by
  cases l with
  | nil =>
    show DK (if env.scope.isGenerator || env.scope.isCoroutine then pure Value.none else do return if ← underTheClaimsCaller then Value.notImplemented else Value.none)
    split
    · exact DK_pure _
    · exact DK_bind' DK_under fun _ => DK_pure _
  | cons c l => exact DK_pure _
theorem DK_ready : ∀ l : List Env, DK (readyFrames l)
  | [] => trivial
  | env :: outer => by
    unfold readyFrames
    split
    · refine DK_bind' (DK_load _) fun o => ?_
      split
      · exact DK_pure _
      · refine DK_bind' (DK_behind _ _) fun b => DK_bind' (DK_kept _ _ _) fun v => DK_bind' ?_ fun _ => DK_ready outer
        exact ⟨fun _ => rfl, trivial⟩
    · exact DK_uns _
theorem DK_frameOf (env : Env) : DK (PySem.frameOf env) := by
  unfold PySem.frameOf
  refine DK_bind' (DK_bind' DK_stack fun _ => DK_pure _) fun l => DK_bind' ?_ fun r => ?_
  · generalize l.dropWhile (·.frame != env.frame) = l'
    cases l' with
    | nil => exact DK_pure _
    | cons e l' => exact DK_bind' (DK_ready _) fun _ => DK_pure _
  · split
    · exact DK_pure _
    · exact DK_uns _
theorem DK_place (f : Addr) (b : Bool) : DK (entryPlaceOf f b) := by
  unfold entryPlaceOf
  refine DK_bind' DK_stack fun l => ?_
  split <;> exact DK_pure _
theorem DK_note (e : Value) (env : Env) : DK (noteFrame e env) := by
  have tail : ∀ f head, DK (do setField e 1 (← EntryCells.newEntry head (← PySem.frameOf env) .none (rawInt f) .none (← entryPlaceOf f (head != .none)))) := fun f head =>
    DK_bind' (DK_frameOf _) fun _ => DK_bind' (DK_place _ _) fun _ => DK_bind' (DK_newEntry _ _ _ _ _ _) fun _ => DK_setField _ _ _
  unfold noteFrame
  split
  · refine DK_bind' (DK_field _ _) fun head => ?_
    split
    · refine DK_bind' (DK_field _ _) fun x => ?_
      split
      · exact DK_pure _
      · exact DK_bind' (DK_setField _ _ _) fun _ => tail _ _
    · exact tail _ _
  · exact DK_uns _
theorem DK_leaving (env : Env) (e : Value) : DK (leaving env e) := DK_bind' (DK_note _ _) fun _ => DK_setFlight _ _
end L2

/-! OWN RULES: own errors that have attributes are raised, pass and are caught. -/
namespace L2
open PySem PySem.Spec PyProof.Rows
/-- H without a -/
def del (H : Hp) (a : Addr) : Hp := fun b => if b = a then none else H b
theorem del_same {H : Hp} {a : Addr} : del H a a = none := if_pos rfl
theorem del_ne {H : Hp} {a b : Addr} (h : b ≠ a) : del H a b = H b := if_neg h
theorem del_none {H : Hp} {a b : Addr} (h : H b = none) : del H a b = none := by
  unfold del
  split
  · rfl
  · exact h
/-- how an exception lies behind a call: its object is younger than the call, its dict is told -/
def CX2 (P : Program) (w : World) : CXT := fun st H s E e s' => ∃ (a t C : Addr) (B : Heap) (H' : Hp) (d : Option Addr), e = .ref a ∧ s'.os = s.os ∧ AllBare s'.gens ∧ s.heap.objs.size ≤ a ∧ Fly P w st H H' B a C t s.heap s'.heap ∧ (∃ o, s'.heap.get? a = some o ∧ o.dict = d) ∧ E (.ref C) d H'
section
variable {X : Cx} {pins : List (Addr × Obj)} {σ : St} {H H' : Hp} {s : Shared}
/-- a tracked one leaves the frame in which it was raised -/
theorem Fly.firstE {x C t : Addr} {d : Option Addr} {h' : Heap} (I : Inv X pins σ H s) (hst : X.stack = X.env :: X.outer) (hf : X.env.frame = some X.env.locals) (hex : X.ex = []) (hx : H x = some (.ext (ErrO x C d))) (hsz : X.s₀.heap.objs.size ≤ x)
    (fl : Heap.FlyingW (PySem.W.hideAll s.heap (x :: frs X.stack)) X.outer x (.ref C) (.ref t) h') (sm : s.heap.UpToSlots h') : Fly X.prog X.w X.outer X.H₀ (del H x) (PySem.W.hideAll s.heap (x :: frs X.stack)) x C t X.s₀.heap h' := by
  have hS : frs X.stack = X.env.locals :: frs X.outer := by rw [hst]; exact frs_cons hf
  have hxx : ∀ b, b ∉ X.ex := fun b => by rw [hex]; exact nin
  have ne : ∀ b o, X.s₀.heap.get? b = some o → b ≠ X.env.locals := fun b o e => Nat.ne_of_lt (Nat.lt_of_lt_of_le (Heap.lt_size e) I.ok.above)
  have nx : ∀ b o, X.s₀.heap.get? b = some o → b ≠ x := fun b o e => Nat.ne_of_lt (Nat.lt_of_lt_of_le (Heap.lt_size e) hsz)
  have out : ∀ b o, X.s₀.heap.get? b = some o → b ∉ frs X.outer → b ∉ x :: frs X.stack := fun b o e n hb => by
    rcases List.mem_cons.mp hb with z | hb
    · exact nx b o e z
    rw [hS] at hb
    rcases List.mem_cons.mp hb with z | z
    · exact ne b o e z
    · exact n z
  have kB : ∀ b o, X.s₀.heap.get? b = some o → X.H₀ b = none → b ∉ frs X.outer → (PySem.W.hideAll s.heap (x :: frs X.stack)).get? b = some o := fun b o e n nb => PySem.W.hideAll_get _ (I.base.keep b o e n nb (hxx b)) (out b o e nb)
  have tB : ∀ b o, X.s₀.heap.get? b = some o → b ∉ frs X.outer → ∃ o', (PySem.W.hideAll s.heap (x :: frs X.stack)).get? b = some o' := fun b o e nb => by
    obtain ⟨o', e'⟩ := I.base.there b o e (hxx b)
    exact ⟨o', PySem.W.hideAll_get _ e' (out b o e nb)⟩
  have sl : ∀ b o, X.s₀.heap.get? b = some o → X.H₀ b = none → b ∈ frs X.outer → ∃ sl, h'.get? b = some { o with slots := sl } := fun b o e n hb => by
    obtain ⟨s1, e1⟩ := I.base.slot b o e n hb (hxx b)
    obtain ⟨_, o', ho', hd⟩ := I.ok.funs.mem hb
    rw [e] at ho'
    cases ho'
    obtain ⟨s3, e3⟩ := sm b _ e1 hd
    exact ⟨s3, e3⟩
  have dn : ∀ {b : Addr} {u : HO}, H b = some u → (∀ φ, u ≠ .ext φ) → del H x b = some u := fun {b u} e n => by
    rw [del_ne]
    · exact e
    · rintro rfl
      rw [hx] at e
      cases e
      exact n _ rfl
  refine ⟨⟨fun b o e n nb _ => fl.1 b o (kB b o e n nb), fun b o e n hb _ => sl b o e n hb, fun b o e n _ => del_none (I.base.free b o e n (hxx b)), fun b o e _ => ?_, fun b xs e => dn (I.base.tups b xs e) (fun φ z => nomatch z), fun b o u e => dn (I.base.frzs b o u e) (fun φ z => nomatch z),
    fun b ps e => let ⟨m, q⟩ := I.base.tbls b ps e; ⟨m, dn q (fun φ z => nomatch z)⟩⟩, kB, tB, fun b u q => ?_, fl⟩
  · by_cases hb : b ∈ frs X.outer
    · obtain ⟨s1, e1⟩ := sl b o e (I.ok.frf b hb) hb
      exact ⟨_, e1⟩
    · obtain ⟨o', e'⟩ := tB b o e hb
      exact ⟨o', fl.1 b o' e'⟩
  · have hbx : b ≠ x := fun z => by rw [z, del_same] at q; cases q
    rw [del_ne hbx] at q
    refine (I.hok b u q).stay (fun c v hc e => PySem.W.hideAll_get _ e fun hm => ?_) (fun _ z => dn z (fun φ z => nomatch z)) fun _ _ z => dn z (fun φ z => nomatch z)
    rcases List.mem_cons.mp hm with rfl | hm
    · rcases hc with z | z
      · exact hbx z.symm
      · rw [hx] at z; cases z
    · have n := I.stkFree c hm
      rcases hc with z | z
      · rw [z, q] at n
        cases n
      · rw [z] at n
        cases n
end
section
variable {P : Program} {w : World} {K : PySem.W.Frag} {mg : Str → Option Value} {base : Heap} {N : List Str} {qual : Str} {scope : Scope} {f : Addr} {cd : Value} {A : Around} {outer : List Env} {s : Shared} {H : Hp} {E : XK}
/-- a tracked exception leaves this code as E tells -/
def RaisesE (X : Cx) (E : XK) : Prop := ∀ (pins : List (Addr × Obj)) (σ : St) (H : Hp) (s : Shared) (x C : Addr) (d : Option Addr), Inv X pins σ H s → H x = some (.ext (ErrO x C d)) → X.s₀.heap.objs.size ≤ x → E (.ref C) d (del H x) → X.xe (.ref x) s
theorem raises2 : RaisesE (cxOf (CX2 P w) P w K mg base N qual scope f cd A outer s H E) E := by
  intro pins σ H1 s1 x C d I hx hsz q
  have hin : ∀ env ∈ (envOfC qual scope s.heap.objs.size f cd :: outer), ∀ b, env.frame = some b → b ∈ x :: frs (envOfC qual scope s.heap.objs.size f cd :: outer) := fun env he b hb => List.mem_cons_of_mem _ (List.mem_filterMap.mpr ⟨env, he, hb⟩)
  obtain ⟨o, vs, eo, hc, hd, ⟨⟨t, h0⟩, h1⟩, hdi⟩ := I.errO hx
  show wpAny (model P w) (A.deeper (envOfC qual scope s.heap.objs.size f cd)) (leaving (envOfC qual scope s.heap.objs.size f cd) (.ref x)) _ _ s1
  refine wpAny_mono (dk_any (DK_leaving _ _) (wpAny_leaving_firstW (E := fun _ _ => False) (base := PySem.W.hideAll s1.heap (x :: frs (envOfC qual scope s.heap.objs.size f cd :: outer)))
    (Q := fun _ s'' => ∃ h', s'' = { s1 with heap := h' } ∧ Heap.LeftW (PySem.W.hideAll s1.heap (x :: frs (envOfC qual scope s.heap.objs.size f cd :: outer))) (envOfC qual scope s.heap.objs.size f cd :: outer) x o.cls (.ref t) s1.heap h')
    I.ok.frames (PySem.W.funFrames_hide I.stack hin) rfl eo (fun b o z => PySem.W.of_hideAll _ z) (PySem.W.hideAll_none _ List.mem_cons_self) hd h1 h0 fun h' hL => ⟨h', rfl, hL⟩)) (fun _ s'' h2 => ?_) fun _ _ z => z.1.elim
  obtain ⟨⟨h', rfl, k1, ⟨_, _, k2⟩, k3, k4⟩, rk⟩ := h2
  rw [hc] at k3
  have fl : Heap.FlyingW (PySem.W.hideAll s1.heap (x :: frs (envOfC qual scope s.heap.objs.size f cd :: outer))) outer x (.ref C) (.ref t) h' := ⟨k1, PySem.W.hideAll_none _ List.mem_cons_self, k2, k3⟩
  obtain ⟨o', eo', _⟩ := fl.there
  exact ⟨x, t, C, _, _, d, rfl, I.os, I.bare, hsz, Fly.firstE I rfl rfl rfl hx hsz fl k4, ⟨o', eo', (rk.get eo eo').trans hdi⟩, q⟩
end
/-! ### raise -/
section
variable {X : Cx} {pins : List (Addr × Obj)} {σ : St}
theorem raiseStmt_err {s : Shared} {m : Sem Value} {Q : Flow → Shared → Prop} {E : Value → Shared → Prop} {M : Model} {A : Around} {env : Env} {K : PySem.W.Frag} (hh : A.handled = none)
    (h : wpAny M A m (fun v s1 => ∃ x C d, v = .ref x ∧ K.In s1.heap ∧ XE K C ∧ ErrO x C d s1.heap ∧ E (.ref x) s1) E s) : wpAny M A (raiseStmt env (some m) none) Q E s := by
  unfold raiseStmt
  refine wpAny_bind (wpAny_mono h (fun v s1 h1 => ?_) fun _ _ z => z)
  obtain ⟨x, C, d, rfl, X, Z, ⟨o, vs, eo, hc, hd, ⟨⟨t, h0⟩, h1⟩, hdi⟩, hE⟩ := h1
  obtain ⟨bm, N, nm, qn, bs, sn, sub, ab, col, dd, k0, k1, k2, k3, k5, mN, hC, hN, T, _⟩ := XE.obj X Z
  have hcB : (Value.ref C :: bm).contains (.type "BaseException") = true := by
    rw [List.contains_cons, T.hasType (X := "BaseException") (b := true) (by decide +kernel)]
    rfl
  obtain ⟨hp, g, dr, tk, os⟩ := s1
  obtain ⟨oc, od, odt, osl⟩ := o
  cases (show oc = .ref C from hc)
  cases (show odt = .fields vs from hd)
  have f1 : ∀ {Q' : Unit → Shared → Prop}, Q' () ⟨hp, g, dr, tk, os⟩ → wpAny M A (setFlight (.ref x) none) Q' E ⟨hp, g, dr, tk, os⟩ := fun {Q'} q => by
    unfold setFlight
    refine wpAny_bind (wpAny_field eo rfl h1 ?_)
    rw [if_neg (by decide)]
    exact wpAny_pure q
  repeat (first | with_reducible refine wpAny_loadPart_at eo ?_ | with_reducible refine wpAny_loadPart_at hC ?_ | (with_reducible refine wpAny_isSubtype_exc hC ?_; rw [hcB]) | (with_reducible refine wpAny_bind (f1 ?_)) | wp_step)
  exact wpAny_raiseNew_none hh hE
theorem mkE_at {x : Str} {C fI : Addr} {k : Nat} {fd : FuncData} {ps : List Str} {sp : Sp} {e : Expr} {es : List Expr} {t : TA} {p pos : Pos} {s : Shared} {H : Hp} {Q' : Addr → Hp → Prop} (M : Ei X.K C fI) (F : FnOk X.prog X.w X.K X.mg X.base CX0 k fI fd ps sp) (hr : Room (k + 1) X.A) (hg : Gl X x) (hm : X.mg x = some (.ref C)) (hb : Binds X.K fd ps [])
    (ha : PA X (e :: es) t) (I : Inv X pins σ H s) (h : t σ H fun vs H1 => vs.length ≤ 1000 ∧ ∀ x, H1 x = none → sp (.ref x :: vs) (upd H1 x (.ext (ErrO x C none))) (fun v H2 => v = .non ∧ Q' x H2) E0)
    (hdb : (x == ("__debug__" : Str)) = false := by decide) (he : starEach (e :: es) X.env = (false, eval e X.env) :: starEach es X.env := by rfl) (hpl : (backTo pos (starEach es X.env)).any (·.1) = false := by rfl) :
    wpAny (model X.prog X.w) X.A (eval (.Call (.Name x p) (e :: es) [] pos) X.env) (fun u s' => ∃ a H', u = .ref a ∧ X.s₀.heap.objs.size ≤ a ∧ Inv X pins σ H' s' ∧ Q' a H') X.xe s := by
  refine wpAny_Call_Name_kw (ld_glob I hg hm ?_ hdb)
  refine PySem.W.callWith_K (h₀ := X.base) I.ok.mod.kin M.kp (thn (ha pos pins s σ H _ I h) fun us s1 ⟨vs, H1, I1, r, hz, q⟩ => ⟨I1.kIn, ?_⟩) he hpl
  have hq := q (s1.heap.objs.size + 1) (I1.hok.fresh (Nat.le_succ _))
  have I2 := Inv.newErr (C := C) (us := us) I1
  have r2 : Vals (V.ref (s1.heap.objs.size + 1) :: vs) (Value.ref (s1.heap.objs.size + 1) :: us) := .cons rfl r
  have hl : (Value.ref (s1.heap.objs.size + 1) :: us ++ []).length = ps.length := by
    rw [List.append_nil, ← r2.length]
    exact F.len _ _ _ _ hq
  have hb2 := hb _ (Value.ref (s1.heap.objs.size + 1) :: us) I2.kIn hl
  rw [List.append_nil] at hb2
  refine err_call I1.kIn M.x M.fi (fun y => PySem.W.bind_fn I2.kIn (.ref y) M.fn) (by show us.length ≤ sizeLine; rw [← r.length]; exact Nat.le_of_lt (small1000 hz)) ?_
  refine wpAny_call (codeAny_mono (F.run _ X.stack _ _ ⟨Value.ref (s1.heap.objs.size + 1) :: us, []⟩ (Value.ref (s1.heap.objs.size + 1) :: us) _ _ E0 (hr.make C us []) (I2.env0.make C us []) hb2 r2 hq) fun rr s' hq' => ?_)
  cases rr with
  | error ev => exact (show False from hq').elim
  | ok fl =>
    cases fl with
    | ret u =>
      obtain ⟨v, H', I3, rv, ev, q3⟩ := I2.after hq'
      subst ev
      exact ⟨rv, s1.heap.objs.size + 1, H', rfl, Nat.le_trans I1.sz (Nat.le_succ _), I3, q3⟩
    | next => exact False.elim hq'
    | brk => exact False.elim hq'
    | cont => exact False.elim hq'
/-- raise C(..), C an own error class with an __init__ of its own -/
def tRaiseE (C : Addr) (sp : Sp) (t : TA) (E : XK) : TS := fun _ σ H => t σ H fun vs H1 => vs.length ≤ 1000 ∧ ∀ x, H1 x = none → sp (.ref x :: vs) (upd H1 x (.ext (ErrO x C none))) (fun v H2 => v = .non ∧ ∃ d, H2 x = some (.ext (ErrO x C d)) ∧ E (.ref C) d (del H2 x)) E0
theorem ps_raiseE {x : Str} {C : Addr} {k j : Nat} {ps : List Str} {sp : Sp} {e : Expr} {es : List Expr} {t : TA} {p cp pos : Pos} {E : XK} (R : RaisesE X E) (hc : X.calm = true) (O : Oe X.prog X.w X.K X.mg X.base x C ps k sp) (hr : Room j X.A) (hg : Gl X x) (ha : PA X (e :: es) t) (hk : k + 1 ≤ j := by decide)
    (hdb : (x == ("__debug__" : Str)) = false := by decide) (he : starEach (e :: es) X.env = (false, eval e X.env) :: starEach es X.env := by rfl) (hpl : (backTo cp (starEach es X.env)).any (·.1) = false := by rfl) :
    PS X (.Raise (some (.Call (.Name x p) (e :: es) [] cp)) none pos) (tRaiseE C sp t E) := by
  obtain ⟨fI, fd, m, M, b, F⟩ := O.ex
  intro pins s σ H D I h
  show wpAny (model X.prog X.w) X.A (do standAt pos; raiseStmt X.env (some (do let v ← eval (.Call (.Name x p) (e :: es) [] cp) X.env; standAt pos; pure v)) none) _ _ s
  refine wpAny_bind (wpAny_standAt (raiseStmt_err (K := X.K) (I.ok.hd hc) (wpAny_bind (wpAny_mono (mkE_at M F (hr.mono hk) hg m b ha I h hdb he hpl) (fun v s1 h1 => wpAny_bind (wpAny_standAt (wpAny_pure ?_))) fun _ _ z => z))))
  obtain ⟨a, H', rfl, hsz, I1, d, hx, q⟩ := h1
  exact ⟨a, C, d, rfl, I1.kIn, M.x, I1.errO hx, R _ _ _ _ _ _ _ I1 hx hsz q⟩
/-- raise C(..), C an own error class without one -/
def tRaiseO (C : Addr) (t : TA) (E : XK) : TS := fun _ σ H => t σ H fun vs H1 => vs.length ≤ 1000 ∧ E (.ref C) none H1
end
end L2

/-! OWN RULES: try: .. except G as n: .. of own errors that have attributes. -/
namespace L2
open PySem PySem.Spec PyProof.Rows
/-- the handler's context -/
abbrev X2h (X : Cx) (a : Addr) : Cx := { X with A := X.A.mark (some (.ref a)), calm := false, xe := fun _ _ => False }
section
variable {X : Cx} {pins : List (Addr × Obj)} {σ : St} {H : Hp} {s : Shared} {a : Addr}
theorem Cx.Ok.hand2 (ok : X.Ok) : (X2h X a).Ok :=
  ⟨ok.mod, ok.kind, ok.glob, ok.blt, ok.above, ok.inj, ok.has, ok.cab, (fun z => nomatch z), ok.frames, ok.stk, ok.exf, ok.bs, ok.bsz, ok.noex, ok.exfs, ok.funs, ok.frf⟩
theorem Inv.hand2 (I : Inv X pins σ H s) : Inv (X2h X a) pins σ H s := ⟨I.ok.hand2, I.os, I.bare, I.base, I.loc, I.cell, I.free, I.freeC, I.pin, I.hok, I.len⟩
theorem Inv.unhand2 (ok : X.Ok) (I : Inv (X2h X a) pins σ H s) : Inv X pins σ H s := ⟨ok, I.os, I.bare, I.base, I.loc, I.cell, I.free, I.freeC, I.pin, I.hok, I.len⟩
/-- behind the suite the name i goes -/
abbrev EndsH (D : Ends) (i : Nat) : Ends := { nx := fun σ' H' => D.nx (σ'.set i none) H', rt := D.rt, bk := fun σ' H' => D.bk (σ'.set i none) H', ct := fun σ' H' => D.ct (σ'.set i none) H' }
theorem suite_end2 {D : Ends} {f : Flow} {E : Value → Shared → Prop} {i : Nat} {n : Str} {hp : Pos} (ok : X.Ok) (hN : X.N.Nodup) (hi : X.N[i]? = some n) (hloc : X.env.scope.names.lookup n = some .local)
    (h : SP (X2h X a) pins (EndsH D i) f s) : wpAny (model X.prog X.w) X.A (do bindName X.env n .none; unbindBehindTheSuite X.env n hp) (fun _ s' => SP X pins D f s') E s := by
  cases f with
  | next => obtain ⟨σ', H', I, q⟩ := h; exact unbind_ok (I.unhand2 ok) hN hi hloc fun s' I' => ⟨_, H', I', q⟩
  | brk => obtain ⟨σ', H', I, q⟩ := h; exact unbind_ok (I.unhand2 ok) hN hi hloc fun s' I' => ⟨_, H', I', q⟩
  | cont => obtain ⟨σ', H', I, q⟩ := h; exact unbind_ok (I.unhand2 ok) hN hi hloc fun s' I' => ⟨_, H', I', q⟩
  | ret u => obtain ⟨v, σ', H', I, r, q⟩ := h; exact unbind_ok (I.unhand2 ok) hN hi hloc fun s' I' => ⟨v, _, H', I', r, q⟩
end
section
variable {X : Cx} {G : Addr} {gn n : Str} {gp hp tp ep : Pos} {b₀ : Stmt} {suite : List Stmt} {i : Nat} {th : TS}
/-- it is caught, and tracked from here on -/
theorem caught2 {pins : List (Addr × Obj)} {σ : St} {H1 H' : Hp} {s1 s' : Shared} {B : Heap} {a c t' : Addr} {d : Option Addr} {D : Ends} {E : Value → Shared → Prop} (I : Inv X pins σ H1 s1) (hst : X.stack = X.env :: X.outer) (hf : X.env.frame = some X.env.locals)
    (hgG : Gl X gn) (hmG : X.mg gn = some (.ref G)) (hG : XE X.K G) (hN : X.N.Nodup) (hi : X.N[i]? = some n) (hloc : X.env.scope.names.lookup n = some .local)
    (hs : ∀ a, PSs (X2h X a) (b₀ :: suite) th) (os : s'.os = s1.os) (bare : AllBare s'.gens) (sz : s1.heap.objs.size ≤ a) (F : Fly X.prog X.w X.stack H1 H' B a c t' s1.heap s'.heap) (hdct : ∃ o, s'.heap.get? a = some o ∧ o.dict = d)
    (Zc : XE X.K c) (ab : PySem.W.mroIn X.K c (.ref G) = some true) (q : th (EndsH D i) (σ.set i (some (.ref a))) (upd H' a (.ext (ErrT a c d)))) (hdG : (gn == ("__debug__" : Str)) = false) :
    wpAny (model X.prog X.w) X.A (noteFrame (.ref a) X.env) (fun _ s₂ => wpAny (model X.prog X.w) X.A (setFlight (.ref a) none) (fun _ s₃ =>
      wpAny (model X.prog X.w) X.A (handleBy (.ref a) X.env [.ExceptHandler (some (.Name gn gp)) (some n) (b₀ :: suite) hp]) (SP X pins D) E s₃) E s₂) E s' := by
  have hfr : X.A.frames = some (X.env :: X.outer) := by rw [← hst]; exact I.ok.frames
  have hfl : Heap.FlyingW B (X.env :: X.outer) a (.ref c) (.ref t') s'.heap := by rw [← hst]; exact F.fl
  obtain ⟨o0, eo0, ed0⟩ := hdct
  refine wpAny_mono (dk_any (DK_note _ _) (wpAny_looks_onW (E := fun _ _ => False) (Q := fun _ s'' => ∃ h', s'' = { s' with heap := h' } ∧ Heap.HeldW B (X.env :: X.outer) a (.ref c) (.ref t') X.env.locals h' ∧ s'.heap.UpToSlots h') hfr hf hfl fun h' x y => ⟨h', rfl, x, y⟩)) (fun _ s'' h2 => ?_) fun _ _ z => z.1.elim
  obtain ⟨⟨h₄, rfl, held₄, sm₄⟩, rk₄⟩ := h2
  refine wpAny_mono (dk_any (DK_setFlight _ _) (wpAny_landsW (E := fun _ _ => False) (s := { s' with heap := h₄ }) (Q := fun _ s'' => ∃ h', s'' = { s' with heap := h' } ∧ Heap.FlyingW B (X.env :: X.outer) a (.ref c) (.ref t') h' ∧ h₄.UpToSlots h') held₄ fun h' x y => ⟨h', rfl, x, y⟩)) (fun _ s'' h2 => ?_) fun _ _ z => z.1.elim
  obtain ⟨⟨h₅, rfl, fl₅, sm₅⟩, rk₅⟩ := h2
  have F₅ := F.on (by rw [hst]; exact fl₅) (sm₄.trans sm₅)
  have at5 : ∀ {h : Heap}, Fly X.prog X.w X.stack H1 H' B a c t' s1.heap h → Inv X pins σ H' { s' with heap := h } := fun {h} Fh => I.call' (s' := { s' with heap := h }) os Fh.un (Fh.hok.kept Fh.fl.1) bare (fun b z => absurd z nin)
  have I₅ := at5 F₅
  obtain ⟨oe₅, e₅, c₅⟩ := F₅.fl.there
  have J₅ : Inv (X2h X a) pins σ H' { s' with heap := h₅ } := I₅.hand2
  refine wpAny_handleBy_cons (codeAny_handlers_test (ld_glob (X := X2h X a) J₅ hgG hmG ?_ hdG)) (by intro z; cases z)
  obtain ⟨bm, N, nm, qn, bs, sn, sub, ab', col, dd, k0, k1, k2, k3, k5, mN, hC, hN', T, _, cd0, hcd, hmro, _⟩ := XE.obj I₅.kIn Zc
  obtain ⟨bm2, N2, nm2, qn2, bs2, sn2, sub2, ab2, col2, dd2, j0, j1, j2, j3, j5, mN2, hC2, hN2, T2, _⟩ := XE.obj I₅.kIn hG
  have hsub : (Value.ref c :: bm).contains (.ref G) = true := by
    unfold PySem.W.mroIn at ab
    rw [hcd] at ab
    dsimp only [Option.bind] at ab
    rw [hmro, if_neg (by simp)] at ab
    exact Option.some.inj ab
  obtain ⟨sh, sg, sd, stk, sos⟩ := s'
  refine excMatches_own hC hC2 e₅ c₅ (T2.hasType (X := "BaseException") (b := true) (by decide +kernel)) hsub (codeAny_handlers_suite_as ?_)
  refine wpAny_mono (dk_any (DK_setFlight _ _) (lands_againW (E := fun _ _ => False) (s := ⟨h₅, sg, sd, stk, sos⟩) (Q := fun _ s'' => ∃ h', s'' = ⟨h', sg, sd, stk, sos⟩ ∧ Heap.FlyingW B (X.env :: X.outer) a (.ref c) (.ref t') h' ∧ h₅.UpToSlots h') (by rw [hst] at F₅; exact F₅.fl) fun h' x y => ⟨h', rfl, x, y⟩)) (fun _ s'' h2 => ?_) fun _ _ z => z.1.elim
  obtain ⟨⟨h₆, rfl, fl₆, sm₆⟩, rk₆⟩ := h2
  have F₆ := F₅.on (by rw [hst]; exact fl₆) sm₆
  have I₆ := at5 F₆
  obtain ⟨_, _, _, oe, vs, _, _, _, e₆, c₆, d₆, _⟩ := F₆.fl
  have rk := (rk₄.trans rk₅).trans rk₆
  have ET : ErrT a c d h₆ := ⟨oe, vs, e₆, c₆.1, d₆, (rk.get eo0 e₆).trans ed0⟩
  have J₆ : Inv X pins σ (upd H' a (.ext (ErrT a c d))) ⟨h₆, sg, sd, stk, sos⟩ := I₆.adopt (I.fpOk sz F₆.free) (fun _ _ _ e => e) ⟨oe, e₆⟩ (ext_errT ET)
  refine store_ok (X := X2h X a) (v := .ref a) J₆.hand2 hN hi (.inl hloc) rfl (fun s₇ J₇ => ?_) (.inr hloc)
  refine wpAny_mono (hs a pins s₇ _ _ _ J₇ q) (fun f s₈ h₈ => ?_) fun _ _ z => z.elim
  exact suite_end2 I.ok hN hi hloc h₈
/-- an expression that may raise: what lies behind it either way -/
abbrev TEx := St → Hp → VK → XK → Prop
def PEx (X : Cx) (e : Expr) (t : TEx) : Prop := ∀ (pins : List (Addr × Obj)) (s : Shared) (σ : St) (H : Hp) (Q : VK) (E : XK), Inv X pins σ H s → t σ H Q E →
  wpAny (model X.prog X.w) X.A (eval e X.env) (EP X pins σ Q) (fun ev s' => ∃ H1 s1, Inv X pins σ H1 s1 ∧ CX2 X.prog X.w X.stack H1 s1 E ev s') s
def tCallx (sp : Sp) (dvs : List V) (t : TA) : TEx := fun σ H Q E => t σ H fun vs H1 => sp (vs ++ dvs) H1 Q E
theorem pex_call {k : Nat} {fa : Addr} {fd : FuncData} {ps : List Str} {sp : Sp} {dvs : List V} {ds : List Value} {x : Str} {p cp : Pos} {e : Expr} {es : List Expr} {t : TA} (F : FnOk X.prog X.w X.K X.mg X.base (CX2 X.prog X.w) k fa fd ps sp) (hr : Room k X.A) (hg : Gl X x) (hm : X.mg x = some (.ref fa)) (hk : PySem.W.keepIn X.K (.ref fa) = true) (hb : Binds X.K fd ps ds) (hd : Vals dvs ds)
    (ha : PA X.nox (e :: es) t) (hdb : (x == ("__debug__" : Str)) = false := by decide) (he : starEach (e :: es) X.env = (false, eval e X.env) :: starEach es X.env := by rfl) (hpl : (backTo cp (starEach es X.env)).any (·.1) = false := by rfl) :
    PEx X (.Call (.Name x p) (e :: es) [] cp) (tCallx sp dvs t) := by
  intro pins s σ H Q E I h
  refine wpAny_Call_Name_kw (ld_glob I hg hm ?_ hdb)
  refine PySem.W.callWith_K (h₀ := X.base) I.ok.mod.kin hk ?_ he hpl
  refine wpAny_mono (ha cp pins s σ H _ (I.wish _) h) (fun us s1 ⟨vs, H1, I1, r, hsp⟩ => ⟨I1.kIn, ?_⟩) fun _ _ z => z.elim
  have I1' : Inv X pins σ H1 s1 := I1.unwish
  have r2 : Vals (vs ++ dvs) (us ++ ds) := r.append hd
  have hl : (us ++ ds).length = ps.length := by rw [← r2.length]; exact F.len _ _ _ _ hsp
  refine wpAny_call (codeAny_mono (F.run X.A X.stack s1 H1 ⟨us, []⟩ (us ++ ds) (vs ++ dvs) _ E hr I1'.env0 (hb s1 us I1'.kIn hl) r2 hsp) fun rr s' hr' => ?_)
  cases rr with
  | error ev => exact ⟨H1, s1, I1', hr'⟩
  | ok fl =>
    cases fl with
    | ret u => exact I1'.after hr'
    | next => exact False.elim hr'
    | brk => exact False.elim hr'
    | cont => exact False.elim hr'
/-- what the handlers want of what was raised -/
def hE (K : PySem.W.Frag) (G : Addr) (i : Nat) (th : TS) (D : Ends) (σ : St) (E : XK) : Prop := ∀ Cv d H2, E Cv d H2 → ∃ c, Cv = .ref c ∧ XE K c ∧ PySem.W.mroIn K c (.ref G) = some true ∧ ∀ a, H2 a = none → th (EndsH D i) (σ.set i (some (.ref a))) (upd H2 a (.ext (ErrT a c d)))
def tTryE (K : PySem.W.Frag) (G : Addr) (t : TEx) (i : Nat) (th : TS) : TS := fun D σ H => ∃ E : XK, t σ H (fun _ H2 => D.nx σ H2) E ∧ hE K G i th D σ E
def tTryA (K : PySem.W.Frag) (G : Addr) (t : TEx) (j i : Nat) (th : TS) : TS := fun D σ H => ∃ E : XK, t σ H (fun v H2 => D.nx (σ.set j (some v)) H2) E ∧ hE K G i th D σ E
/-- the class that is caught -/
structure Gc (K : PySem.W.Frag) (mg : Str → Option Value) (x : Str) (G : Addr) : Prop where
  m : mg x = some (.ref G)
  e : XE K G
variable {e : Expr} {t : TEx}
theorem ps_tryA {j : Nat} {m : Str} {mp : Pos} (ht : PEx X e t) (hst : X.stack = X.env :: X.outer) (hf : X.env.frame = some X.env.locals) (hj : X.N[j]? = some m) (hlm : X.env.scope.names.lookup m = some .local) (hgG : Gl X gn) (Z : Gc X.K X.mg gn G) (hN : X.N.Nodup) (hi : X.N[i]? = some n) (hloc : X.env.scope.names.lookup n = some .local)
    (hs : ∀ a, PSs (X2h X a) (b₀ :: suite) th) (hdG : (gn == ("__debug__" : Str)) = false := by decide) (hsw : swapsWith e (some (.Name m mp)) ep.line X.env = pure false := by rfl) :
    PS X (.Try [.Assign [.Name m mp] e ep] [.ExceptHandler (some (.Name gn gp)) (some n) (b₀ :: suite) hp] [] [] tp) (tTryA X.K G t j i th) := by
  intro pins s σ H D I h
  obtain ⟨E, h, hh⟩ := h
  refine wpAny_Try_except (wpAny_execs_cons (wpAny_Assign_Name ?_ hsw))
  refine wpAny_mono (ht pins s σ H _ E I h) (fun u s1 ⟨v, H1, I1, rv, q⟩ => store_ok I1 hN hj (.inl hlm) rv (fun s2 I2 => wpAny_execs_nil (wpAny_execs_nil ⟨_, H1, I2, q⟩)) (.inr hlm)) fun ev s' ⟨H1, s1, I1, h2⟩ => ?_
  obtain ⟨a, t', C, B, H', d, rfl, os, bare, sz, Fl, hd, q⟩ := h2
  obtain ⟨c, ec, Zc, ab, q⟩ := hh _ _ _ q
  cases ec
  exact caught2 I1 hst hf hgG Z.m Z.e hN hi hloc hs os bare sz Fl hd Zc ab (q a Fl.free) hdG
/-- isinstance(x, C), x an own error or a plain thing -/
theorem call_isiU : CallR X (.builtin "isinstance") (fun xs H Q => ∃ x y u b, xs = [x, y] ∧ clsV y = some u ∧ ((∃ T, tyS H x = some T ∧ PySem.W.kitOne X.K (.type T) u = some b) ∨ ∃ a C fs, x = .ref a ∧ ErrAt H a C fs ∧ XE X.K C ∧ PySem.W.kitOne X.K (.ref C) u = some b) ∧ Q (.bl b) H) := by
  intro pins s σ H xs us Q I r h
  obtain ⟨x, y, u, b, rfl, hy, hx, q⟩ := h
  obtain ⟨v, w', rfl, rx, ry⟩ := vals2 r
  cases (clsV_is hy ry)
  rcases hx with ⟨T, ht, e⟩ | ⟨a, C, fs, rfl, hE, Z, e⟩
  · obtain ⟨P, Z, pz, ne⟩ := kit_of I rx ht
    exact PySem.W.kia_one Z I.kIn pz e ne fun tk => ⟨.bl b, H, I.tok tk, rfl, q⟩
  · cases (show v = Value.ref a from rx)
    exact PySem.W.kia_one (kitx_err Z) I.kIn (I.excAt hE) e (fun z => nomatch z) fun tk => ⟨.bl b, H, I.tok tk, rfl, q⟩
end
/-! ### a def that may raise, as one fact -/
structure Ow2 (P : Program) (w : World) (K : PySem.W.Frag) (mg : Str → Option Value) (base : Heap) (x : Str) (ps : List Str) (k : Nat) (sp : Sp) : Prop where
  ex : ∃ (f : Addr) (fd : FuncData), mg x = some (.ref f) ∧ PySem.W.keepIn K (.ref f) = true ∧ Binds K fd ps [] ∧ FnOk P w K mg base (CX2 P w) k f fd ps sp
theorem Df.ow2 {P : Program} {w : World} {K : PySem.W.Frag} {mg : Str → Option Value} {base : Heap} {x : Str} {st : Stmt} {ps : List Str} {f : Addr} {fd : FuncData} {k : Nat} {sp : Sp} (D : Df K mg x st ps f fd) (F : FnOk P w K mg base (CX2 P w) k f fd ps sp) :
    Ow2 P w K mg base x ps k sp := ⟨f, fd, D.m, D.F.kp, D.b, F⟩
theorem Fun.ok2 {P : Program} {w : World} {K : PySem.W.Frag} {mg : Str → Option Value} {base : Heap} {x qual : Str} {st : Stmt} {f : Addr} {fd : FuncData} {N ps : List Str} {k : Nat} {sp : Sp} (F : Fun K x qual st f fd) (S : FnScope N ps (defScope st)) (len : ∀ vs H Q E, sp vs H Q E → vs.length = ps.length)
    (hbody : ∀ (cdv : Value) (A : Around) (outer : List Env) (s : Shared) (H : Hp) (vs : List V) (Q : VK) (E : XK), Room k (A.deeper (envOfC qual (defScope st) s.heap.objs.size f cdv)) → sp vs H Q E →
      ∃ t, PSs (cxOf (CX2 P w) P w K mg base N qual (defScope st) f cdv A outer s H E) (defBody st) t ∧ t { nx := fun _ H' => Q .non H', rt := Q } (start N vs) H) : FnOk P w K mg base (CX2 P w) (k + 1) f fd ps sp := by
  obtain ⟨oc, od, kV, doc, pm, an, cdv, ct, osl, rfl, lk, hcd⟩ := F.ex
  exact fn_of lk hcd S len fun A outer s H vs Q E hr hsp => hbody cdv A outer s H vs Q E hr hsp
section
variable {X : Cx} {k j : Nat} {ps : List Str} {sp : Sp} {x : Str} {p pos : Pos} {e : Expr} {es : List Expr} {t : TA} {E : XK}
/-- a call under try -/
theorem pex_own2 (O : Ow2 X.prog X.w X.K X.mg X.base x ps k sp) (hr : Room j X.A) (hg : Gl X x) (ha : PA X.nox (e :: es) t) (hk : k ≤ j := by decide) (hdb : (x == ("__debug__" : Str)) = false := by decide)
    (he : starEach (e :: es) X.env = (false, eval e X.env) :: starEach es X.env := by rfl) (hpl : (backTo pos (starEach es X.env)).any (·.1) = false := by rfl) :
    PEx X (.Call (.Name x p) (e :: es) [] pos) (tCallx sp [] t) := by
  obtain ⟨f, fd, m, kp, b, F⟩ := O.ex
  exact pex_call F (hr.mono hk) hg m kp b .nil ha hdb he hpl
end
end L2

/-! OWN: plain things that may be rows of a picture, and what is at fault with them. -/
namespace L2
open PySem PySem.Spec PyProof.Rows G
section
variable {X : Cx}
/-- l.insert(i, y), i not below nought -/
def rInsert : V → List V → Hp → VK → Prop := fun x vs H Q => ∃ l xs i y, x = .ref l ∧ vs = [.int i, y] ∧ H l = some (.lst xs) ∧ 0 ≤ i ∧ i < 2 ^ 62 ∧ xs.length < sizeLine ∧ Q .non (upd H l (.lst (xs.take (min i.toNat xs.length) ++ y :: xs.drop (min i.toNat xs.length))))
theorem vals_take : ∀ {xs : List V} {us : List Value} (k : Nat), Vals xs us → Vals (xs.take k) (us.take k)
  | _, _, 0, _ => .nil
  | _, _, _ + 1, .nil => .nil
  | _, _, k + 1, .cons r t => .cons r (vals_take k t)
theorem vals_drop : ∀ {xs : List V} {us : List Value} (k : Nat), Vals xs us → Vals (xs.drop k) (us.drop k)
  | _, _, 0, r => r
  | _, _, _ + 1, .nil => .nil
  | _, _, k + 1, .cons _ t => vals_drop k t
theorem mt_insert : MtM X "list.insert" rInsert := by
  intro pins s σ H x vs v us Q I rx rv h
  obtain ⟨l, xs, i, y, rfl, rfl, hH, h1, h2, hz, q⟩ := h
  cases rx
  obtain ⟨u1, u2, rfl, r1, r2⟩ := vals2 rv
  obtain ⟨t, rfl⟩ := r1
  obtain ⟨z, its, n, r, hl, e⟩ := I.lstM hH
  have hf : Builtin.List.listFitsIndex i = true := by
    have := fitsIndex_both (k := i) (by omega) (by omega)
    exact this
  refine call_meets F.slot_list_insert ⟨_, e, rfl⟩ F.entry_list_insert (F.args_list_insert_3 _ _ _) (AutoSeq1.list_insert_list_int_val_1 l its.toArray n i t u2 (by rw [hf]; decide) (by rw [List.size_toArray]; omega)) ⟨e, ?_⟩
  refine ⟨.non, _, I.lset (its' := its.take (min i.toNat xs.length) ++ u2 :: its.drop (min i.toNat xs.length)) hH e ?_ ((vals_take _ r).append (.cons r2 (vals_drop _ r))) ?_, rfl, q⟩
  · show (its.toArray.extract 0 (if i < 0 then (i + (its.toArray.size : Int)).toNat else min i.toNat its.toArray.size)).push u2 ++ its.toArray.extract (if i < 0 then (i + (its.toArray.size : Int)).toNat else min i.toNat its.toArray.size) = _
    rw [if_neg (by omega), PySem.W.kl_ins_eq, List.size_toArray, hl]
  · rw [List.length_append, List.length_cons, List.length_take, List.length_drop]
    omega
end
/-- a row with at most N cells, or no list -/
def Row (N : Nat) (H : Hp) (v : V) : Prop := (∃ T, tyS H v = some T ∧ T ≠ "list") ∨ ∃ a xs, v = .ref a ∧ H a = some (.lst xs) ∧ xs.length ≤ N ∧ ∀ x ∈ xs, ∃ T, tyS H x = some T
theorem tyS_stay {H H' : Hp} (s : Same H H') {x : V} {T : String} (h : tyS H x = some T) : tyS H' x = some T := by
  cases x with
  | ref a =>
    simp only [tyS] at h ⊢
    cases e : H a with
    | none => rw [e] at h; cases h
    | some u => rw [s _ _ e]; rw [e] at h; exact h
  | _ => exact h
theorem Row.mono {N M : Nat} {H H' : Hp} (s : Same H H') (hn : N ≤ M) {v : V} (h : Row N H v) : Row M H' v := by
  rcases h with ⟨T, h1, h2⟩ | ⟨a, xs, e, h1, h2, h3⟩
  · exact .inl ⟨T, tyS_stay s h1, h2⟩
  · exact .inr ⟨a, xs, e, s _ _ h1, Nat.le_trans h2 hn, fun x hx => let ⟨T, h⟩ := h3 x hx; ⟨T, tyS_stay s h⟩⟩
theorem Row.ty {N : Nat} {H : Hp} {v : V} (h : Row N H v) : ∃ T, tyS H v = some T := by
  rcases h with ⟨T, h1, _⟩ | ⟨a, xs, rfl, h1, _⟩
  · exact ⟨T, h1⟩
  · exact ⟨"list", by simp only [tyS, h1]⟩
/-- a list stays a list: kinds stay -/
theorem tyS_lst {H : Hp} {p : Addr} {ys zs : List V} (hp : H p = some (.lst ys)) (x : V) : tyS (upd H p (.lst zs)) x = tyS H x := by
  cases x with
  | ref a =>
    by_cases e : a = p
    · subst e
      simp only [tyS, upd_same, hp]
    · simp only [tyS, upd_ne e]
  | _ => rfl
/-- whether it is a row of n cells -/
inductive RowIs (H : Hp) (n : Nat) : V → Bool → Prop
  | non {r : V} {T : String} : tyS H r = some T → T ≠ "list" → RowIs H n r false
  | lst {a : Addr} {xs : List V} : H a = some (.lst xs) → xs.length ≤ 200 → (∀ x ∈ xs, ∃ T, tyS H x = some T) → RowIs H n (.ref a) (decide (1 ≤ xs.length) && (decide (xs.length ≤ 64) && (decide (xs.length = n) && xs.all cellB)))
theorem RowIs.mono {H H' : Hp} {n : Nat} (s : Same H H') {r : V} {b : Bool} (h : RowIs H n r b) : RowIs H' n r b := by
  cases h with
  | non h1 h2 => exact .non (tyS_stay s h1) h2
  | lst h1 h2 h3 => exact .lst (s _ _ h1) h2 fun x hx => let ⟨T, h⟩ := h3 x hx; ⟨T, tyS_stay s h⟩
theorem Row.is {N : Nat} {H : Hp} {v : V} (hN : N ≤ 200) (h : Row N H v) (n : Nat) : ∃ b, RowIs H n v b := by
  rcases h with ⟨T, h1, h2⟩ | ⟨a, xs, rfl, h1, h2, h3⟩
  · exact ⟨_, .non h1 h2⟩
  · exact ⟨_, .lst h1 (by omega) h3⟩
/-- the first row's length, where it is a list -/
def First (H : Hp) (n : Nat) (r : V) : Prop := (∃ T, tyS H r = some T ∧ T ≠ "list") ∨ ∃ a xs, r = .ref a ∧ H a = some (.lst xs) ∧ xs.length = n
theorem First.mono {H H' : Hp} {n : Nat} (s : Same H H') {r : V} (h : First H n r) : First H' n r := by
  rcases h with ⟨T, h1, h2⟩ | ⟨a, xs, e, h1, h2⟩
  · exact .inl ⟨T, tyS_stay s h1, h2⟩
  · exact .inr ⟨a, xs, e, s _ _ h1, h2⟩
/-- what is at fault: nothing, all of it, a row -/
inductive Fault (H : Hp) : V → Option V → Prop
  | non {v : V} {T : String} : tyS H v = some T → T ≠ "list" → Fault H v (some .non)
  | many {l : Addr} {vs : List V} : H l = some (.lst vs) → vs.length ≤ 200 → ¬ (1 ≤ vs.length ∧ vs.length ≤ 64) → Fault H (.ref l) (some .non)
  | row {l : Addr} {vs : List V} {n i : Nat} {r0 : V} : H l = some (.lst vs) → vs.length ≤ 64 → vs[0]? = some r0 → First H n r0 → (∀ j r, j < i → vs[j]? = some r → RowIs H n r true) → (∀ r, vs[i]? = some r → RowIs H n r false) → i < vs.length → Fault H (.ref l) (some (.int i))
  | good {l : Addr} {ps : List Addr} {rows : List (List (Option Int))} {w h : Nat} : RowsAt H l ps rows → Rect w h rows → Fault H (.ref l) none
theorem Fault.mono {H H' : Hp} (s : Same H H') {v : V} {f : Option V} (h : Fault H v f) : Fault H' v f := by
  cases h with
  | non h1 h2 => exact .non (tyS_stay s h1) h2
  | many h1 h2 h3 => exact .many (s _ _ h1) h2 h3
  | row h1 h2 h3 h4 h5 h6 h7 => exact .row (s _ _ h1) h2 h3 (h4.mono s) (fun j r hj e => (h5 j r hj e).mono s) (fun r e => (h6 r e).mono s) h7
  | good h1 h2 => exact .good (h1.mono s) h2
theorem cells_of : ∀ {xs : List V}, xs.all cellB = true → ∃ r : List (Option Int), xs = r.map cellV ∧ Cells r
  | [], _ => ⟨[], rfl, fun _ h => nomatch h⟩
  | x :: xs, h => by
    rw [List.all_cons, Bool.and_eq_true] at h
    obtain ⟨r, e, hc⟩ := cells_of h.2
    have hx : ∃ c, x = cellV c ∧ Cell c := by
      cases x with
      | non => exact ⟨none, rfl, fun z e => nomatch e⟩
      | int z =>
        have h1 : (decide ((0 : Int) ≤ z) && decide (z ≤ 15)) = true := h.1
        simp only [Bool.and_eq_true, decide_eq_true_eq] at h1
        exact ⟨some z, rfl, fun y e => by cases e; exact h1⟩
      | _ => exact absurd (show false = true from h.1) Bool.false_ne_true
    obtain ⟨c, e1, hc1⟩ := hx
    refine ⟨c :: r, by rw [List.map_cons, e1, e], fun d hd => ?_⟩
    rcases List.mem_cons.mp hd with z | z
    · rw [z]; exact hc1
    · exact hc d z
theorem RowIs.good {H : Hp} {n : Nat} {r : V} {b : Bool} (h : RowIs H n r b) (hb : b = true) : ∃ a c, r = .ref a ∧ H a = some (.lst (c.map cellV)) ∧ 1 ≤ c.length ∧ c.length ≤ 64 ∧ c.length = n ∧ Cells c := by
  cases h with
  | non => cases hb
  | lst h1 h2 h3 =>
    simp only [Bool.and_eq_true, decide_eq_true_eq] at hb
    obtain ⟨c, e, hc⟩ := cells_of hb.2.2.2
    rename_i a xs
    subst e
    have := hb.1
    have := hb.2.1
    have := hb.2.2.1
    rw [List.length_map] at *
    exact ⟨_, c, rfl, h1, by omega, by omega, by omega, hc⟩
theorem rows_of_good {H : Hp} {n : Nat} : ∀ {vs : List V}, (∀ r ∈ vs, RowIs H n r true) → ∃ (ps : List Addr) (rows : List (List (Option Int))), vs = ps.map V.ref ∧ ps.length = rows.length ∧ (∀ (i : Nat) p r, ps[i]? = some p → rows[i]? = some r → H p = some (.lst (r.map cellV))) ∧ ∀ r ∈ rows, 1 ≤ r.length ∧ r.length ≤ 64 ∧ r.length = n ∧ Cells r
  | [], _ => ⟨[], [], rfl, rfl, (fun _ _ _ e => nomatch e), (fun _ h => nomatch h)⟩
  | v :: vs, h => by
    obtain ⟨ps, rows, e1, e2, e3, e4⟩ := rows_of_good fun r hr => h r (List.mem_cons_of_mem _ hr)
    obtain ⟨a, c, e5, e6, e7⟩ := (h v List.mem_cons_self).good rfl
    refine ⟨a :: ps, c :: rows, by rw [List.map_cons, e5, e1], by rw [List.length_cons, List.length_cons, e2], fun i p r h1 h2 => ?_, fun r hr => ?_⟩
    · cases i with
      | zero => cases h1; cases h2; exact e6
      | succ i => exact e3 i p r (by simpa using h1) (by simpa using h2)
    · rcases List.mem_cons.mp hr with z | z
      · rw [z]; exact e7
      · exact e4 r z
/-- all of it: rows in a list, or no list -/
def Thing (H : Hp) (v : V) : Prop := (∃ T, tyS H v = some T ∧ T ≠ "list") ∨ ∃ l vs, v = .ref l ∧ H l = some (.lst vs) ∧ vs.length ≤ 200 ∧ ∀ r ∈ vs, Row 200 H r
theorem Thing.mono {H H' : Hp} (s : Same H H') {v : V} (h : Thing H v) : Thing H' v := by
  rcases h with ⟨T, h1, h2⟩ | ⟨l, vs, e, h1, h2, h3⟩
  · exact .inl ⟨T, tyS_stay s h1, h2⟩
  · exact .inr ⟨l, vs, e, s _ _ h1, h2, fun r hr => (h3 r hr).mono s (Nat.le_refl _)⟩
theorem Thing.fault {H : Hp} {v : V} (h : Thing H v) : ∃ f, Fault H v f := by
  rcases h with ⟨T, h1, h2⟩ | ⟨l, vs, rfl, h1, h2, h3⟩
  · exact ⟨_, .non h1 h2⟩
  by_cases hn : 1 ≤ vs.length ∧ vs.length ≤ 64
  · obtain ⟨n1, n2⟩ := hn
    have h0 : vs[0]? = some (vs[0]'(by omega)) := List.getElem?_eq_getElem _
    have hF : ∃ n, First H n (vs[0]'(by omega)) := by
      rcases h3 _ (List.getElem_mem (show 0 < vs.length by omega)) with ⟨T, q1, q2⟩ | ⟨a, xs, e, q1, _⟩
      · exact ⟨0, .inl ⟨T, q1, q2⟩⟩
      · exact ⟨xs.length, .inr ⟨a, xs, e, q1, rfl⟩⟩
    obtain ⟨n, hF⟩ := hF
    -- the first one that is none
    have scan : ∀ k, k ≤ vs.length → (∀ j r, j < k → vs[j]? = some r → RowIs H n r true) ∨ ∃ i, i < k ∧ (∀ j r, j < i → vs[j]? = some r → RowIs H n r true) ∧ ∀ r, vs[i]? = some r → RowIs H n r false := by
      intro k
      induction k with
      | zero => intro _; exact .inl fun j r hj => absurd hj (Nat.not_lt_zero _)
      | succ k ih =>
        intro hk
        rcases ih (by omega) with ih | ⟨i, hi, q⟩
        · obtain ⟨b, hb⟩ := (h3 _ (List.getElem_mem (show k < vs.length by omega))).is (Nat.le_refl _) n
          cases b with
          | true =>
            refine .inl fun j r hj e => ?_
            by_cases hjk : j = k
            · subst hjk
              rw [List.getElem?_eq_getElem (by omega)] at e
              cases e
              exact hb
            · exact ih j r (by omega) e
          | false =>
            refine .inr ⟨k, by omega, ih, fun r e => ?_⟩
            rw [List.getElem?_eq_getElem (by omega)] at e
            cases e
            exact hb
        · exact .inr ⟨i, by omega, q⟩
    rcases scan vs.length (Nat.le_refl _) with q | ⟨i, hi, q1, q2⟩
    · obtain ⟨ps, rows, e1, e2, e3, e4⟩ := rows_of_good (H := H) (n := n) (vs := vs) fun r hr => by
        obtain ⟨j, hj, e⟩ := List.mem_iff_getElem.mp hr
        exact q j r hj (by rw [List.getElem?_eq_getElem hj, e])
      subst e1
      rw [List.length_map] at n1 n2
      have hr0 := e4 _ (List.getElem_mem (show 0 < rows.length by omega))
      exact ⟨none, .good ⟨h1, e2, e3⟩ (⟨rfl, by omega, by omega, by omega, by omega, fun r hr => ⟨(e4 r hr).2.2.1, (e4 r hr).2.2.2⟩⟩ : Rect n rows.length rows)⟩
    · exact ⟨_, .row h1 n2 h0 hF q1 q2 hi⟩
  · exact ⟨_, .many h1 h2 hn⟩
/-! ### promises -/
def spRowAny : Sp := fun vs H Q _ => ∃ r f n b, vs = [r, f] ∧ RowIs H n r b ∧ ((∃ T, tyS H r = some T ∧ T ≠ "list") ∨ ∃ m ys, f = .ref m ∧ H m = some (.lst ys) ∧ ys.length = n) ∧ ∀ H', Same H H' → Q (.bl b) H'
def spPicE (c : Addr) : Sp := fun vs H Q E => ∃ v f, vs = [v] ∧ Fault H v f ∧
  (∀ l ps rows w h p H', v = .ref l → f = none → RowsAt H l ps rows → Rect w h rows → Same H H' → PicAt H' p w rows → Q (.ref p) H') ∧
  ∀ z d H', f = some z → Same H H' → H' d = some (.ext (ErrD d [("row", z)])) → E (.ref c) (some d) H'
/-- ('fault', z) or nothing -/
def FRes (H : Hp) (f : Option V) (u : V) : Prop := match f with
  | none => u = .non
  | some z => ∃ t, u = .ref t ∧ H t = some (.tup [.str "fault", z])
def spFault : Sp := fun vs H Q _ => ∃ v f, vs = [v] ∧ Fault H v f ∧ ∀ u H', Same H H' → FRes H' f u → Q u H'
def spAsked : Sp := fun vs H Q _ => ∃ v f, vs = [v] ∧ Fault H v f ∧ (∀ l ps rows w h p H', v = .ref l → f = none → RowsAt H l ps rows → Rect w h rows → Same H H' → PicAt H' p w rows → Q (.ref p) H') ∧
  ∀ z u H', f = some z → Same H H' → FRes H' (some z) u → Q u H'
def spApart (c : Addr) : Sp := fun vs H Q _ => ∃ a fs, vs = [.ref a] ∧ ErrAt H a c fs ∧ Q (.bl true) H
def spCellIs : Sp := fun vs H Q _ => ∃ x T, vs = [x] ∧ tyS H x = some T ∧ Q (.bl (cellB x)) H
def spNoCell (K : PySem.W.Frag) : Sp := fun vs H Q _ => ∃ (a : Addr) (ns : List Int) (k : Int), vs = [.ref a, .int k] ∧ SqL K H a (ns.map V.int) ∧ 0 ≤ k ∧ k < 10000 ∧ ∀ x T H', Same H H' → tyS H' x = some T → Q x H'
def spNoRow (K : PySem.W.Frag) : Sp := fun vs H Q _ => ∃ (a : Addr) (ns : List Int) (k : Int) (l : Addr) (xs : List V), vs = [.ref a, .int k, .ref l] ∧ SqL K H a (ns.map V.int) ∧ 0 ≤ k ∧ k < 10000 ∧ H l = some (.lst xs) ∧ xs.length ≤ 200 ∧ ∀ x H', Same H H' → Row 65 H' x → Q x H'
def spSpoiled (K : PySem.W.Frag) : Sp := fun vs H Q _ => ∃ (a : Addr) (ns : List Int) (k : Int) (l : Addr) (rs : List V) (N : Nat), vs = [.ref a, .int k, .ref l] ∧ SqL K H a (ns.map V.int) ∧ 0 ≤ k ∧ k < 9000 ∧ H l = some (.lst rs) ∧ 1 ≤ rs.length ∧ rs.length ≤ 64 ∧ 64 ≤ N ∧ N ≤ 100 ∧ (∀ r ∈ rs, Row N H r) ∧
  ∀ l' rs' H', Same H H' → H' l' = some (.lst rs') → 1 ≤ rs'.length → rs'.length ≤ 64 → (∀ r ∈ rs', Row (N + 1) H' r) → Q (.ref l') H'
def spNoRows (K : PySem.W.Frag) : Sp := fun vs H Q _ => ∃ (a : Addr) (ns : List Int) (k : Int) (l : Addr) (rs : List V), vs = [.ref a, .int k, .ref l] ∧ SqL K H a (ns.map V.int) ∧ 0 ≤ k ∧ k < 10000 ∧ H l = some (.lst rs) ∧ 1 ≤ rs.length ∧ rs.length ≤ 64 ∧ (∀ r ∈ rs, Row 64 H r) ∧
  ∀ v H', Same H H' → Thing H' v → Q v H'
theorem FRes.alk {n : Nat} {H : Hp} {z u v : V} (hz : z = .non ∨ ∃ i, z = .int i) (a : FRes H (some z) u) (b : FRes H (some z) v) : Alk (n + 2) H u v := by
  obtain ⟨t, rfl, h1⟩ := a
  obtain ⟨t', rfl, h2⟩ := b
  refine .inr ⟨t, t', _, _, rfl, rfl, .inr ⟨h1, h2⟩, by show 2 ≤ 1000000; decide, rfl, fun i u v hu hv => ?_⟩
  match i, hu, hv with
  | 0, hu, hv => cases hu; cases hv; exact .inl ⟨rfl, .inr (.inr (.inr ⟨_, rfl⟩))⟩
  | 1, hu, hv =>
    cases hu; cases hv
    rcases hz with rfl | ⟨i, rfl⟩
    · exact Alk.non
    · exact Alk.int _
  | i + 2, hu, hv => cases hu
theorem FRes.mono {H H' : Hp} (s : Same H H') {f : Option V} {u : V} (h : FRes H f u) : FRes H' f u := by
  cases f with
  | none => exact h
  | some z => obtain ⟨t, e, q⟩ := h; exact ⟨t, e, s _ _ q⟩
theorem Fault.val {H : Hp} {v z : V} (h : Fault H v (some z)) : z = .non ∨ ∃ i, z = .int i := by
  cases h with
  | non => exact .inl rfl
  | many => exact .inl rfl
  | row => exact .inr ⟨_, rfl⟩
theorem good_is {H : Hp} {p : Addr} {r : List (Option Int)} {n : Nat} (h : H p = some (.lst (r.map cellV))) (hc : Cells r) (h1 : 1 ≤ r.length) (h2 : r.length ≤ 64) (hn : r.length = n) : RowIs H n (.ref p) true := by
  have e : (decide (1 ≤ (r.map cellV).length) && (decide ((r.map cellV).length ≤ 64) && (decide ((r.map cellV).length = n) && (r.map cellV).all cellB))) = true := by
    have ea : (r.map cellV).all cellB = true := by
      rw [List.all_eq_true]
      intro x hx
      obtain ⟨c, hc1, rfl⟩ := List.mem_map.mp hx
      cases c with
      | none => rfl
      | some z =>
        have := hc _ hc1 z rfl
        show (decide ((0 : Int) ≤ z) && decide (z ≤ 15)) = true
        rw [decide_eq_true this.1, decide_eq_true this.2]
        rfl
    rw [ea, List.length_map, decide_eq_true h1, decide_eq_true h2, decide_eq_true hn]
    rfl
  have z := RowIs.lst (n := n) h (by rw [List.length_map]; omega) fun x hx => by
    obtain ⟨c, _, rfl⟩ := List.mem_map.mp hx
    cases c with
    | none => exact ⟨"NoneType", rfl⟩
    | some z => exact ⟨"int", rfl⟩
  rw [e] at z
  exact z
/-- what a walk over the rows meets -/
theorem Fault.scan {H : Hp} {v : V} {f : Option V} (h : Fault H v f) : (f = some .non ∧ ((∃ T, tyS H v = some T ∧ T ≠ "list") ∨ ∃ l vs, v = .ref l ∧ H l = some (.lst vs) ∧ ¬ (1 ≤ vs.length ∧ vs.length ≤ 64))) ∨
    ∃ l vs n r0 k, v = .ref l ∧ H l = some (.lst vs) ∧ 1 ≤ vs.length ∧ vs.length ≤ 64 ∧ vs[0]? = some r0 ∧ First H n r0 ∧ (∀ j r, j < k → vs[j]? = some r → RowIs H n r true) ∧
      ((k < vs.length ∧ (∀ r, vs[k]? = some r → RowIs H n r false) ∧ f = some (.int k)) ∨ (k = vs.length ∧ f = none ∧ ∃ ps rows w h, vs = ps.map V.ref ∧ RowsAt H l ps rows ∧ Rect w h rows)) := by
  cases h with
  | non h1 h2 => exact .inl ⟨rfl, .inl ⟨_, h1, h2⟩⟩
  | many h1 h2 h3 => exact .inl ⟨rfl, .inr ⟨_, _, rfl, h1, h3⟩⟩
  | row h1 h2 h3 h4 h5 h6 h7 => exact .inr ⟨_, _, _, _, _, rfl, h1, by omega, h2, h3, h4, h5, .inl ⟨h7, h6, rfl⟩⟩
  | good RA R =>
    rename_i l ps rows w h
    have hl := RA.len
    have e1 := R.len
    have e2 := R.h1
    have e3 := R.h2
    have isr : ∀ j r, j < (ps.map V.ref).length → (ps.map V.ref)[j]? = some r → RowIs H w r true := fun j r hj e => by
      rw [List.length_map] at hj
      obtain ⟨p, hp, gr⟩ := RA.at (i := j) (by omega)
      rw [List.getElem?_map, hp] at e
      cases e
      have rr := R.row _ (List.getElem_mem (show j < rows.length by omega))
      have w1 := R.w1
      have w2 := R.w2
      exact good_is gr rr.2 (by omega) (by omega) rr.1
    have h0 : (ps.map V.ref)[0]? = some ((ps.map V.ref)[0]'(by rw [List.length_map]; omega)) := List.getElem?_eq_getElem _
    obtain ⟨a, c, q1, q2, _, _, q3, _⟩ := (isr 0 _ (by rw [List.length_map]; omega) h0).good rfl
    exact .inr ⟨l, _, w, _, (ps.map V.ref).length, rfl, RA.lst, by rw [List.length_map]; omega, by rw [List.length_map]; omega, h0, .inr ⟨a, _, q1, q2, by rw [List.length_map]; exact q3⟩, isr, .inr ⟨rfl, rfl, ps, rows, w, h, rfl, RA, R⟩⟩
/-- the first row's length may be asked where a row is a list -/
theorem first_ok {H : Hp} {vs : List V} {n k j : Nat} {r0 r : V} (h0 : vs[0]? = some r0) (hF : First H n r0) (hg : ∀ j r, j < k → vs[j]? = some r → RowIs H n r true) (hj : j ≤ k) (e : vs[j]? = some r) :
    (∃ T, tyS H r = some T ∧ T ≠ "list") ∨ ∃ m ys, r0 = .ref m ∧ H m = some (.lst ys) ∧ ys.length = n := by
  rcases hF with ⟨T, h1, h2⟩ | ⟨a, xs, h1, h2, h3⟩
  · by_cases hj0 : j = 0
    · subst hj0
      rw [h0] at e
      cases e
      exact .inl ⟨T, h1, h2⟩
    · obtain ⟨a, c, e1, e2, _⟩ := (hg 0 r0 (by omega) h0).good rfl
      subst e1
      simp only [tyS, e2] at h1
      cases h1
      exact absurd rfl h2
  · exact .inr ⟨a, xs, h1, h2, h3⟩
/-- behind the raise of an error with one attribute -/
theorem raised_err {H : Hp} {x d C : Addr} {fs : List (Str × V)} (nx : H x = none) (nd : (upd H x (.ext (ErrO x C none))) d = none) (hd : d ≠ x) :
    (upd (upd (upd H x (.ext (ErrO x C none))) x (.ext (ErrO x C (some d)))) d (.ext (ErrD d fs))) x = some (.ext (ErrO x C (some d))) ∧
    Same H (del (upd (upd (upd H x (.ext (ErrO x C none))) x (.ext (ErrO x C (some d)))) d (.ext (ErrD d fs))) x) ∧
    (del (upd (upd (upd H x (.ext (ErrO x C none))) x (.ext (ErrO x C (some d)))) d (.ext (ErrD d fs))) x) d = some (.ext (ErrD d fs)) := by
  rw [upd_ne hd] at nd
  refine ⟨by rw [upd_ne (Ne.symm hd), upd_same], fun b o e => ?_, by rw [del_ne hd, upd_same]⟩
  rw [del_ne (ne_of_none e nx), upd_ne (ne_of_none e nd), upd_ne (ne_of_none e nx), upd_ne (ne_of_none e nx)]
  exact e
/-- behind the catching -/
theorem caught_err {H : Hp} {a d C : Addr} {fs : List (Str × V)} (na : H a = none) (hd : H d = some (.ext (ErrD d fs))) : Same H (upd H a (.ext (ErrT a C (some d)))) ∧ ErrAt (upd H a (.ext (ErrT a C (some d)))) a C fs :=
  ⟨Same.new na, .inr ⟨d, ne_of_none hd na, .inr upd_same, by rw [upd_ne (ne_of_none hd na)]; exact hd⟩⟩
theorem ty_lst {H : Hp} {p : Addr} {xs : List V} : tyS (upd H p (.lst xs)) (.ref p) = some "list" := by simp only [tyS, upd_same]
theorem ty_tup {H : Hp} {p : Addr} {xs : List V} : tyS (upd H p (.tup xs)) (.ref p) = some "tuple" := by simp only [tyS, upd_same]
theorem ty_dK {H : Hp} {p : Addr} {kvs : List (Key × V)} : tyS (upd H p (.dK kvs)) (.ref p) = some "dict" := by simp only [tyS, upd_same]
theorem updTwo {H : Hp} {p : Addr} {u v : HO} (n : H p = none) : Same H (upd (upd H p u) p v) := by rw [upd_upd]; exact Same.new n
/-- of a new list of plain things: one of them is plain -/
theorem ty_in {xs : List V} {H : Hp} (h : ∀ x ∈ xs, ∃ T, tyS H x = some T) {r : Int} (h0 : 0 ≤ r) (h1 : r < xs.length) : ∃ v T, atI xs r = some v ∧ tyS H v = some T := by
  obtain ⟨v, e, m⟩ := at_some h0 h1
  obtain ⟨T, q⟩ := h v m
  exact ⟨v, T, e, q⟩
/-- a list is changed: rows stay rows -/
theorem Row.put {N : Nat} {H : Hp} {p : Addr} {ys zs : List V} {v : V} (hp : H p = some (.lst ys)) (hz : zs.length ≤ N) (ht : ∀ x ∈ zs, ∃ T, tyS H x = some T) (h : Row N H v) : Row N (upd H p (.lst zs)) v := by
  rcases h with ⟨T, h1, h2⟩ | ⟨a, xs, e, h1, h2, h3⟩
  · exact .inl ⟨T, (tyS_lst hp v).trans h1, h2⟩
  · by_cases ea : a = p
    · subst ea
      exact .inr ⟨a, zs, e, upd_same, hz, fun x hx => let ⟨T, h⟩ := ht x hx; ⟨T, (tyS_lst hp x).trans h⟩⟩
    · exact .inr ⟨a, xs, e, by rw [upd_ne ea]; exact h1, h2, fun x hx => let ⟨T, h⟩ := h3 x hx; ⟨T, (tyS_lst hp x).trans h⟩⟩
/-- a row whose list is new since H0 -/
def RowF (N : Nat) (H0 H : Hp) (v : V) : Prop := (∃ T, tyS H v = some T ∧ T ≠ "list") ∨ ∃ a xs, v = .ref a ∧ H0 a = none ∧ H a = some (.lst xs) ∧ xs.length ≤ N ∧ ∀ x ∈ xs, ∃ T, tyS H x = some T
theorem RowF.mono {N : Nat} {H0 H H' : Hp} (s : Same H H') {v : V} (h : RowF N H0 H v) : RowF N H0 H' v := by
  rcases h with ⟨T, h1, h2⟩ | ⟨a, xs, e, h0, h1, h2, h3⟩
  · exact .inl ⟨T, tyS_stay s h1, h2⟩
  · exact .inr ⟨a, xs, e, h0, s _ _ h1, h2, fun x hx => let ⟨T, h⟩ := h3 x hx; ⟨T, tyS_stay s h⟩⟩
theorem RowF.row {N M : Nat} {H0 H : Hp} {v : V} (h : RowF N H0 H v) (hN : N ≤ M) : Row M H v := by
  rcases h with h | ⟨a, xs, e, h0, h1, h2, h3⟩
  · exact .inl h
  · exact .inr ⟨a, xs, e, h1, Nat.le_trans h2 hN, h3⟩
theorem RowF.ne {N : Nat} {H0 H : Hp} {z : V} {l : Addr} (h : RowF N H0 H z) (n : H l = none) : z ≠ .ref l := fun e => by
  subst e
  rcases h with ⟨T, h1, _⟩ | ⟨a, xs, e, _, h1, _⟩
  · simp only [tyS, n] at h1
    cases h1
  · cases e
    rw [n] at h1
    cases h1
theorem ixN_of {n : Nat} {i : Int} (h0 : 0 ≤ i) (h1 : i < n) : ixN n i = some i.toNat := by
  unfold ixN
  rw [if_pos h0, if_pos h1]
/-- one row's list is changed: they are rows, one cell more at the most -/
theorem spoil_put {N : Nat} {H0 H : Hp} {l p : Addr} {zs xs ys : List V} (s : Same H0 H) (hp0 : H0 p = none) (hp : H p = some (.lst xs)) (hne : l ≠ p) (hl : H l = some (.lst zs)) (hF : ∀ z ∈ zs, RowF N H0 H z) (hy : ys.length ≤ N + 1) (ht : ∀ x ∈ ys, ∃ T, tyS H x = some T) :
    Same H0 (upd H p (.lst ys)) ∧ (upd H p (.lst ys)) l = some (.lst zs) ∧ ∀ z ∈ zs, Row (N + 1) (upd H p (.lst ys)) z :=
  ⟨s.put hp0, by rw [upd_ne hne]; exact hl, fun z hz => Row.put hp hy ht ((hF z hz).row (Nat.le_succ _))⟩
/-- a row is put in another's place -/
theorem spoil_set {N j : Nat} {H0 H : Hp} {l : Addr} {zs : List V} {x : V} (s : Same H0 H) (hl0 : H0 l = none) (hl : H l = some (.lst zs)) (hF : ∀ z ∈ zs, RowF N H0 H z) (hn : 64 ≤ N) (hz : zs.length ≤ 64) (hx : Row 65 H x) :
    Same H0 (upd H l (.lst (zs.set j x))) ∧ ∀ z ∈ zs.set j x, Row (N + 1) (upd H l (.lst (zs.set j x))) z := by
  have all : ∀ z ∈ zs.set j x, Row (N + 1) H z := fun z h => by
    rcases List.mem_or_eq_of_mem_set h with h | h
    · exact (hF z h).row (Nat.le_succ _)
    · rw [h]
      exact hx.mono (Same.refl _) (by omega)
  exact ⟨s.put hl0, fun z h => Row.put hl (by rw [List.length_set]; omega) (fun y hy => (all y hy).ty) (all z h)⟩
theorem cellV_inj {c d : Option Int} (h : cellV c = cellV d) : c = d := by
  cases c <;> cases d <;> first | rfl | (cases h; rfl) | cases h
theorem map_inj' {α β : Type} {f : α → β} (hf : ∀ x y, f x = f y → x = y) : ∀ {xs ys : List α}, xs.map f = ys.map f → xs = ys
  | [], [], _ => rfl
  | [], _ :: _, h => by cases h
  | _ :: _, [], h => by cases h
  | x :: xs, y :: ys, h => by
    rw [List.map_cons, List.map_cons] at h
    injection h with h1 h2
    rw [hf _ _ h1, map_inj' hf h2]
/-- a heap tells one picture's rows at most -/
theorem RowsAt.uniq {H : Hp} {l : Addr} {ps ps' : List Addr} {rows rows' : List (List (Option Int))} (a : RowsAt H l ps rows) (b : RowsAt H l ps' rows') : rows = rows' := by
  have e := a.lst.symm.trans b.lst
  injection e with e
  injection e with e
  have ep := map_inj' (fun x y h => V.ref.inj h) e
  subst ep
  have h1 := a.len
  have h2 := b.len
  refine List.ext_getElem (by omega) fun i hi hi' => ?_
  have r1 := a.row i (ps[i]'(by omega)) _ (List.getElem?_eq_getElem _) (List.getElem?_eq_getElem hi)
  have r2 := b.row i (ps[i]'(by omega)) _ (List.getElem?_eq_getElem _) (List.getElem?_eq_getElem hi')
  have e2 := r1.symm.trans r2
  injection e2 with e2
  injection e2 with e2
  exact map_inj' (fun x y h => cellV_inj h) e2
theorem Rect.wide {w h w' h' : Nat} {rows : List (List (Option Int))} (a : Rect w h rows) (b : Rect w' h' rows) : w = w' := by
  have h0 : 0 < rows.length := by have := a.len; have := a.h1; omega
  have h1 := (a.row _ (List.getElem_mem h0)).1
  have h2 := (b.row _ (List.getElem_mem h0)).1
  omega
end L2

local macro_rules | `(tactic| walk_at "r1") => `(tactic| first
  | refine ⟨_, rfl, ?_⟩
  | refine ⟨_, _, rfl, rfl, ?_⟩
  | refine ⟨rfl, ?_⟩
  | refine ⟨(by show (0 : Int) < _; first | decide | omega), ?_⟩
  | refine ⟨⟨(by first | decide | omega), (by first | decide | omega)⟩, ?_⟩
  | refine ⟨L2.mulL (by first | decide | omega) (by first | decide | omega), ?_⟩
  | refine ⟨L2.mulR (by first | decide | omega) (by first | decide | omega), ?_⟩
  | refine ⟨L2.powS (by first | decide | omega) (by first | decide | omega) (by first | decide | omega), ?_⟩
  | refine ⟨L2.szV (by simp), ?_⟩)
local macro_rules | `(tactic| walk_at "rs") => `(tactic| repeat walk_at "r1")
namespace K04
open PySem PyProof.Rows L2 G
def topS (i : Nat) : Stmt := PySem.Challenge.pw_glowboard_k04_what_makes_no_picture.main.body.getD i (.Pass ⟨0, 0, 0, 0⟩)
abbrev s_iswhole : Stmt := topS 10
abbrev s_iswithin : Stmt := topS 11
abbrev s_isside : Stmt := topS 13
abbrev s_iscell : Stmt := topS 14
abbrev s_iscellsrow : Stmt := topS 15
abbrev s_paintof : Stmt := topS 16
abbrev s_maskof : Stmt := topS 17
abbrev s_packed : Stmt := topS 18
abbrev s_pictured : Stmt := topS 19
abbrev s_lawdraw : Stmt := topS 21
abbrev s_lawgreat : Stmt := topS 22
abbrev s_lawalike : Stmt := topS 23
abbrev s_lawsides : Stmt := topS 24
abbrev s_lawrows : Stmt := topS 25
abbrev s_lawpacked : Stmt := topS 26
abbrev s_lawnocell : Stmt := topS 27
abbrev s_lawnorow : Stmt := topS 28
abbrev s_lawspoiled : Stmt := topS 29
abbrev s_lawnorows : Stmt := topS 30
abbrev s_lawcellis : Stmt := topS 31
abbrev s_lawfault : Stmt := topS 32
abbrev s_lawapart : Stmt := topS 33
abbrev s_lawasked : Stmt := topS 34
abbrev s_law : Stmt := topS 35
structure Blt (mg : Str → Option Value) : Prop where
  f_ValueError : mg "ValueError" = none
  f_len : mg "len" = none
  f_range : mg "range" = none
  f_enumerate : mg "enumerate" = none
  f_reversed : mg "reversed" = none
  f_isinstance : mg "isinstance" = none
  f_int : mg "int" = none
  f_bool : mg "bool" = none
  f_str : mg "str" = none
  f_list : mg "list" = none
  f_tuple : mg "tuple" = none
  f_all : mg "all" = none
structure Cl (K : PySem.W.Frag) (mg : Str → Option Value) (c_GlowError c_NoPicture c_NoTable c_NoFont c_NoLine c_NoNote c_NoText c_NoRow : Addr) : Prop where
  m_GlowError : mg "GlowError" = some (.ref c_GlowError)
  gi : Gi K c_GlowError
  x_GlowError : XE K c_GlowError
  tup : PySem.W.kitOne K (.type "tuple") (.ref c_GlowError) = some false
  ab : ∀ c ∈ ([c_NoPicture, c_NoTable, c_NoFont, c_NoLine, c_NoNote, c_NoText, c_NoRow] : List Addr), PySem.W.mroIn K c (.ref c_GlowError) = some true
  m_NoPicture : mg "NoPicture" = some (.ref c_NoPicture)
  x_NoPicture : XE K c_NoPicture
  f_NoPicture_row : PySem.W.findIn K (.ref c_NoPicture) "row" = some none
  m_NoTable : mg "NoTable" = some (.ref c_NoTable)
  x_NoTable : XE K c_NoTable
  m_NoFont : mg "NoFont" = some (.ref c_NoFont)
  x_NoFont : XE K c_NoFont
  m_NoLine : mg "NoLine" = some (.ref c_NoLine)
  x_NoLine : XE K c_NoLine
  m_NoNote : mg "NoNote" = some (.ref c_NoNote)
  x_NoNote : XE K c_NoNote
  f_NoNote_row : PySem.W.findIn K (.ref c_NoNote) "row" = some none
  m_NoText : mg "NoText" = some (.ref c_NoText)
  x_NoText : XE K c_NoText
  f_NoText_at : PySem.W.findIn K (.ref c_NoText) "at" = some none
  m_NoRow : mg "NoRow" = some (.ref c_NoRow)
  x_NoRow : XE K c_NoRow
  kt : ∀ i, i < 7 → Kits K [c_NoPicture, c_NoTable, c_NoFont, c_NoLine, c_NoNote, c_NoText, c_NoRow] c_GlowError i
section
variable {P : Program} {w : World} {K : PySem.W.Frag} {mg : Str → Option Value} {base : Heap}
abbrev i_NoPicture : Stmt := inClass (topS 2) 0
theorem si_NoPicture : FnScope ["self", "row"] ["self", "row"] (defScope i_NoPicture) := ⟨rfl, rfl, rfl, by decide +kernel, rfl, by decide +kernel, by decide +kernel⟩
theorem oi_NoPicture {c_GlowError c_NoPicture c_NoTable c_NoFont c_NoLine c_NoNote c_NoText c_NoRow : Addr} (Z : Cl K mg c_GlowError c_NoPicture c_NoTable c_NoFont c_NoLine c_NoNote c_NoText c_NoRow) {f : Addr} {fd : FuncData} (D : Fun K "__init__" "NoPicture.__init__" i_NoPicture f fd) : FnOk P w K mg base CX0 1 f fd ["self", "row"] (spE1 c_NoPicture "row") := by
  refine D.ok si_NoPicture (fun vs H Q E h => ?_) (fun cdv A outer s H vs Q E hr h => ?_)
  · obtain ⟨x, v, rfl, _⟩ := h
    rfl
  obtain ⟨x, v, rfl, hx, hv, q⟩ := h
  refine ⟨_, pss_cons (ps_expr (pe_ginit rfl Z.m_GlowError Z.gi (pa_cons (pv 0) (pa_cons (pe_fstr (pfs_cons pf_text (pfs_cons (pf_val (pv 1)) pfs_nil))) pa_nil)))) (pss_one (ps_err1 (pv 0) (pv 1) rfl)), ?_⟩
  refine ⟨_, rfl, ⟨by decide, ⟨_, rfl, hv, rfl⟩, trivial⟩, fun z => ⟨x, c_NoPicture, none, _, rfl, hx, Z.x_NoPicture, ?_⟩⟩
  exact ⟨_, rfl, _, rfl, x, c_NoPicture, rfl, hx, Z.x_NoPicture, Z.f_NoPicture_row, fun d nd hd => q d nd hd⟩
abbrev i_NoNote : Stmt := inClass (topS 6) 0
theorem si_NoNote : FnScope ["self", "row"] ["self", "row"] (defScope i_NoNote) := ⟨rfl, rfl, rfl, by decide +kernel, rfl, by decide +kernel, by decide +kernel⟩
theorem oi_NoNote {c_GlowError c_NoPicture c_NoTable c_NoFont c_NoLine c_NoNote c_NoText c_NoRow : Addr} (Z : Cl K mg c_GlowError c_NoPicture c_NoTable c_NoFont c_NoLine c_NoNote c_NoText c_NoRow) {f : Addr} {fd : FuncData} (D : Fun K "__init__" "NoNote.__init__" i_NoNote f fd) : FnOk P w K mg base CX0 1 f fd ["self", "row"] (spE1 c_NoNote "row") := by
  refine D.ok si_NoNote (fun vs H Q E h => ?_) (fun cdv A outer s H vs Q E hr h => ?_)
  · obtain ⟨x, v, rfl, _⟩ := h
    rfl
  obtain ⟨x, v, rfl, hx, hv, q⟩ := h
  refine ⟨_, pss_cons (ps_expr (pe_ginit rfl Z.m_GlowError Z.gi (pa_cons (pv 0) (pa_cons (pe_fstr (pfs_cons pf_text (pfs_cons (pf_val (pv 1)) pfs_nil))) pa_nil)))) (pss_one (ps_err1 (pv 0) (pv 1) rfl)), ?_⟩
  refine ⟨_, rfl, ⟨by decide, ⟨_, rfl, hv, rfl⟩, trivial⟩, fun z => ⟨x, c_NoNote, none, _, rfl, hx, Z.x_NoNote, ?_⟩⟩
  exact ⟨_, rfl, _, rfl, x, c_NoNote, rfl, hx, Z.x_NoNote, Z.f_NoNote_row, fun d nd hd => q d nd hd⟩
abbrev i_NoText : Stmt := inClass (topS 7) 0
theorem si_NoText : FnScope ["self", "at"] ["self", "at"] (defScope i_NoText) := ⟨rfl, rfl, rfl, by decide +kernel, rfl, by decide +kernel, by decide +kernel⟩
theorem oi_NoText {c_GlowError c_NoPicture c_NoTable c_NoFont c_NoLine c_NoNote c_NoText c_NoRow : Addr} (Z : Cl K mg c_GlowError c_NoPicture c_NoTable c_NoFont c_NoLine c_NoNote c_NoText c_NoRow) {f : Addr} {fd : FuncData} (D : Fun K "__init__" "NoText.__init__" i_NoText f fd) : FnOk P w K mg base CX0 1 f fd ["self", "at"] (spE1 c_NoText "at") := by
  refine D.ok si_NoText (fun vs H Q E h => ?_) (fun cdv A outer s H vs Q E hr h => ?_)
  · obtain ⟨x, v, rfl, _⟩ := h
    rfl
  obtain ⟨x, v, rfl, hx, hv, q⟩ := h
  refine ⟨_, pss_cons (ps_expr (pe_ginit rfl Z.m_GlowError Z.gi (pa_cons (pv 0) (pa_cons (pe_fstr (pfs_cons pf_text (pfs_cons (pf_val (pv 1)) pfs_nil))) pa_nil)))) (pss_one (ps_err1 (pv 0) (pv 1) rfl)), ?_⟩
  refine ⟨_, rfl, ⟨by decide, ⟨_, rfl, hv, rfl⟩, trivial⟩, fun z => ⟨x, c_NoText, none, _, rfl, hx, Z.x_NoText, ?_⟩⟩
  exact ⟨_, rfl, _, rfl, x, c_NoText, rfl, hx, Z.x_NoText, Z.f_NoText_at, fun d nd hd => q d nd hd⟩
end
section
variable {P : Program} {w : World} {K : PySem.W.Frag} {mg : Str → Option Value} {base : Heap}
theorem sc_lawalike : FnScope ["_law_found", "_law_due"] ["_law_found", "_law_due"] (defScope s_lawalike) := ⟨rfl, rfl, rfl, by decide +kernel, rfl, by decide +kernel, by decide +kernel⟩
theorem okn_lawalike {f : Addr} {fd : FuncData} (D : Df K mg "_law_alike" s_lawalike ["_law_found", "_law_due"] f fd) (B : Blt mg) : ∀ n, FnOk P w K mg base CX0 n f fd ["_law_found", "_law_due"] (spAlike n)
  | 0 => ⟨fun vs H Q E h => by obtain ⟨x, y, _, h, _⟩ := h; exact h.elim, fun A outer s H args us vs Q E _ _ _ _ h => by obtain ⟨x, y, _, h, _⟩ := h; exact h.elim⟩
  | n + 1 => by
    have IH := okn_lawalike D B n
    refine D.F.ok sc_lawalike (fun vs H Q E h => ?_) (fun cdv A outer s H vs Q E hr h => ?_)
    · obtain ⟨x, y, rfl, _⟩ := h
      rfl
    obtain ⟨x, y, rfl, ha, q⟩ := h
    refine ⟨_, (pss_cons (ps_if (pt_val (pe_callB call_isiT rfl B.f_isinstance boot_isinstance (pa_cons (pv 1) (pa_cons (pe_tup (pa_cons (pe_bltn (v := .ty "tuple") rfl B.f_tuple boot_tuple rfl) (pa_cons (pe_bltn (v := .ty "list") rfl B.f_list boot_list rfl) pa_nil))) pa_nil)))) (pss_cons (ps_if (PW.pt (pw_or (pt_cmpR op_ne (pe_callB call_isi rfl B.f_isinstance boot_isinstance (pa_cons (pv 1) (pa_cons (pe_bltn (v := .ty "tuple") rfl B.f_tuple boot_tuple rfl) pa_nil))) (pe_callB call_isi rfl B.f_isinstance boot_isinstance (pa_cons (pv 0) (pa_cons (pe_bltn (v := .ty "tuple") rfl B.f_tuple boot_tuple rfl) pa_nil))) (nomark _)) (pw_or1 (pt_cmpR op_ne (pe_callB call_isi rfl B.f_isinstance boot_isinstance (pa_cons (pv 1) (pa_cons (pe_bltn (v := .ty "list") rfl B.f_list boot_list rfl) pa_nil))) (pe_callB call_isi rfl B.f_isinstance boot_isinstance (pa_cons (pv 0) (pa_cons (pe_bltn (v := .ty "list") rfl B.f_list boot_list rfl) pa_nil))) (nomark _))))) (pss_one (ps_ret pe_bl)) pss_nil)
    (pss_cons (ps_if (pt_cmpR op_ne (pe_callB call_len_seq rfl B.f_len boot_len (pa_cons (pv 0) pa_nil)) (pe_callB call_len_seq rfl B.f_len boot_len (pa_cons (pv 1) pa_nil)) (nomark _)) (pss_one (ps_ret pe_bl)) pss_nil)
    (pss_one (ps_ret (pe_callB (call_all rfl) rfl B.f_all boot_all (pa_cons (pe_comp (locs := ["_law_k"]) (ix := [0, 1]) rfl (BlkSc.look (dsc := defScope s_lawalike) (N := ["_law_found", "_law_due"]) rfl rfl (by decide +kernel)) (pi_range1 rfl B.f_range (pa_cons (pe_callB call_len_seq rfl B.f_len boot_len (pa_cons (pv 1) pa_nil)) pa_nil)) (fun _ _ _ _ _ _ => (pg_name (i := 0) (by decide +kernel : (["_law_k", "_law_found", "_law_due"] : List Str).Nodup) rfl (Or.inl rfl))) (fun _ _ _ _ _ _ => pts_nil) (fun _ _ _ _ _ _ => (pe_call IH hr rfl D.m D.F.kp D.b .nil pass0 (pa_cons (pe_ix ix_seqB (pv 1) (pv 0) (fun _ _ => rfl)) (pa_cons (pe_ix ix_seqB (pv 2) (pv 0) (fun _ _ => rfl)) pa_nil))))) pa_nil)))))) pss_nil)
    (pss_cons (ps_if (PW.pt (pw_or (pt_cmpR op_isN (pv 1) pe_non (nomark _)) (pw_or1 (pt_cmpR op_isN (pv 0) pe_non (nomark _))))) (pss_one (ps_ret (pe_and (pe_cmpR op_isN (pv 1) pe_non (nomark _)) (pe_one (pe_cmpR op_isN (pv 0) pe_non (nomark _)))))) pss_nil)
    (pss_cons (ps_if (PW.pt (pw_or (pt_val (pe_callB call_isi rfl B.f_isinstance boot_isinstance (pa_cons (pv 1) (pa_cons (pe_bltn (v := .ty "bool") rfl B.f_bool boot_bool rfl) pa_nil)))) (pw_or1 (pt_val (pe_callB call_isi rfl B.f_isinstance boot_isinstance (pa_cons (pv 0) (pa_cons (pe_bltn (v := .ty "bool") rfl B.f_bool boot_bool rfl) pa_nil))))))) (pss_one (ps_ret (pe_and (pe_callB call_isi rfl B.f_isinstance boot_isinstance (pa_cons (pv 1) (pa_cons (pe_bltn (v := .ty "bool") rfl B.f_bool boot_bool rfl) pa_nil))) (pe_and (pe_callB call_isi rfl B.f_isinstance boot_isinstance (pa_cons (pv 0) (pa_cons (pe_bltn (v := .ty "bool") rfl B.f_bool boot_bool rfl) pa_nil))) (pe_one (pe_cmpR op_eq (pv 0) (pv 1) (nomark _))))))) pss_nil)
    (pss_cons (ps_if (pt_val (pe_callB call_isi rfl B.f_isinstance boot_isinstance (pa_cons (pv 1) (pa_cons (pe_bltn (v := .ty "str") rfl B.f_str boot_str rfl) pa_nil)))) (pss_one (ps_ret (pe_and (pe_callB call_isi rfl B.f_isinstance boot_isinstance (pa_cons (pv 0) (pa_cons (pe_bltn (v := .ty "str") rfl B.f_str boot_str rfl) pa_nil))) (pe_one (pe_cmpR op_eq (pv 0) (pv 1) (nomark _)))))) pss_nil)
    (pss_one (ps_ret (pe_and (pe_callB call_isi rfl B.f_isinstance boot_isinstance (pa_cons (pv 0) (pa_cons (pe_bltn (v := .ty "int") rfl B.f_int boot_int rfl) pa_nil))) (pe_one (pe_cmpR op_eq (pv 0) (pv 1) (nomark _)))))))))), ?_⟩
    refine ⟨_, rfl, (by show 2 ≤ sizeLine; decide), fun p hp => ?_⟩
    have s1 : Same H (upd H p (.tup [.ty "tuple", .ty "list"])) := Same.new hp
    have tp : SqT K (upd H p (.tup [.ty "tuple", .ty "list"])) p (["tuple", "list"].map V.ty) := SqT.of upd_same
    rcases ha with ⟨rfl, hx⟩ | ⟨a, b, xs, ys, rfl, rfl, hab, hlen, hl, hi⟩
    · -- a scalar
      have hT : ∃ T, tyS (upd H p (.tup [.ty "tuple", .ty "list"])) x = some T ∧ (["tuple", "list"].any (isiB T)) = false := by
        rcases hx with rfl | ⟨c, rfl⟩ | ⟨i, rfl⟩ | ⟨z, rfl⟩
        · exact ⟨"NoneType", rfl, by decide⟩
        · exact ⟨"bool", rfl, by decide⟩
        · exact ⟨"int", rfl, by decide⟩
        · exact ⟨"str", rfl, by decide⟩
      obtain ⟨T, hT, hno⟩ := hT
      refine ⟨_, p, ["tuple", "list"], T, rfl, tp, by decide, hT, _, rfl, iteFb hno ?_⟩
      rcases hx with rfl | ⟨c, rfl⟩ | ⟨i, rfl⟩ | ⟨z, rfl⟩
      · refine ⟨_, rfl, rfl, _, rfl, iteTb rfl (iteTb rfl ⟨_, rfl, rfl, _, rfl, iteTb rfl ⟨_, rfl, rfl, ?_⟩⟩)⟩
        exact q _ s1
      · refine ⟨_, rfl, rfl, _, rfl, iteFb rfl ⟨_, rfl, rfl, _, rfl, iteFb rfl ?_⟩⟩
        refine ⟨_, rfl, _, "bool", "bool", rfl, by decide, rfl, _, rfl, iteTb (by decide) (iteTb rfl ?_)⟩
        refine ⟨_, rfl, _, "bool", "bool", rfl, by decide, rfl, _, rfl, iteTb (by decide) ⟨_, rfl, _, "bool", "bool", rfl, by decide, rfl, _, rfl, iteTb (by decide) ⟨_, rfl, _, rfl, rfl, ?_⟩⟩⟩
        rw [decide_eq_true rfl]
        exact q _ s1
      · refine ⟨_, rfl, rfl, _, rfl, iteFb rfl ⟨_, rfl, rfl, _, rfl, iteFb rfl ?_⟩⟩
        refine ⟨_, rfl, _, "bool", "int", rfl, by decide, rfl, _, rfl, iteFb (by decide) ⟨_, rfl, _, "bool", "int", rfl, by decide, rfl, _, rfl, iteFb (by decide) ?_⟩⟩
        refine ⟨_, rfl, _, "str", "int", rfl, by decide, rfl, _, rfl, iteFb (by decide) ?_⟩
        refine ⟨_, rfl, _, "int", "int", rfl, by decide, rfl, _, rfl, iteTb (by decide) ⟨_, rfl, _, rfl, rfl, ?_⟩⟩
        rw [decide_eq_true rfl]
        exact q _ s1
      · refine ⟨_, rfl, rfl, _, rfl, iteFb rfl ⟨_, rfl, rfl, _, rfl, iteFb rfl ?_⟩⟩
        refine ⟨_, rfl, _, "bool", "str", rfl, by decide, rfl, _, rfl, iteFb (by decide) ⟨_, rfl, _, "bool", "str", rfl, by decide, rfl, _, rfl, iteFb (by decide) ?_⟩⟩
        refine ⟨_, rfl, _, "str", "str", rfl, by decide, rfl, _, rfl, iteTb (by decide) ?_⟩
        refine ⟨_, rfl, _, "str", "str", rfl, by decide, rfl, _, rfl, iteTb (by decide) ⟨_, rfl, _, rfl, rfl, ?_⟩⟩
        rw [decide_eq_true rfl]
        exact q _ s1
    · -- two lists, two tuples
      generalize eH : upd H p (.tup [.ty "tuple", .ty "list"]) = H1 at s1 tp
      have hab1 : (H1 a = some (.lst xs) ∧ H1 b = some (.lst ys)) ∨ (H1 a = some (.tup xs) ∧ H1 b = some (.tup ys)) := by
        rcases hab with ⟨h1, h2⟩ | ⟨h1, h2⟩
        · exact .inl ⟨s1 _ _ h1, s1 _ _ h2⟩
        · exact .inr ⟨s1 _ _ h1, s1 _ _ h2⟩
      have hT : ∃ T, tyS H1 (.ref a) = some T ∧ tyS H1 (.ref b) = some T ∧ (["tuple", "list"].any (isiB T)) = true := by
        rcases hab1 with ⟨h1, h2⟩ | ⟨h1, h2⟩
        · exact ⟨"list", by simp only [tyS, h1], by simp only [tyS, h2], by decide⟩
        · exact ⟨"tuple", by simp only [tyS, h1], by simp only [tyS, h2], by decide⟩
      obtain ⟨T, hTa, hTb, hyes⟩ := hT
      have sa : SqL K H1 a xs ∨ SqT K H1 a xs := hab1.elim (fun h => .inl (SqL.of h.1)) fun h => .inr (SqT.of h.1)
      have sb : SqL K H1 b ys ∨ SqT K H1 b ys := hab1.elim (fun h => .inl (SqL.of h.2)) fun h => .inr (SqT.of h.2)
      have big : (ys.length : Int) < 2 ^ 62 := by
        have : (1000000 : Int) < 2 ^ 62 := by decide
        omega
      refine ⟨_, p, ["tuple", "list"], T, rfl, tp, by decide, hTb, _, rfl, iteTb hyes ?_⟩
      refine ⟨_, rfl, _, "tuple", T, rfl, by decide, hTb, _, rfl, _, "tuple", T, rfl, by decide, hTa, rfl, _, rfl, iteFb (by simp) ⟨_, rfl, _, "list", T, rfl, by decide, hTb, _, rfl, _, "list", T, rfl, by decide, hTa, rfl, _, rfl, iteFb (by simp) ?_⟩⟩
      refine ⟨_, rfl, a, xs, rfl, sa, _, rfl, b, ys, rfl, sb, rfl, _, rfl, iteFb (by rw [hl]; simp) ?_⟩
      refine ⟨_, rfl, b, ys, rfl, sb, _, rfl, by omega, big, ?_⟩
      refine comp_by (n := ys.length) (fun i σ zs H2 => ∃ v, σ = [v, some (.ref a), some (.ref b)] ∧ zs = (List.replicate i true).map V.bl ∧ Same H1 H2) ⟨none, rfl, rfl, Same.refl _⟩ ?_ ?_ ?_ ?_ ?_ ?_
      · have : (1000000 : Nat) ≤ sizeLine := by decide
        omega
      · rintro i σ zs H2 ⟨v, _, rfl, _⟩
        rw [List.length_map, List.length_replicate]
      · rintro σ zs H2 _
        show ((ys.length : Int)).toNat ≤ ys.length
        omega
      · intro i σ zs H2 hi' _
        show i < ((ys.length : Int)).toNat
        omega
      · rintro i σ zs H2 x H' Z hi' ⟨v, rfl, rfl, s2⟩ ⟨rfl, rfl⟩ hZ
        have hx : xs[i]? = some (xs[i]'(by omega)) := List.getElem?_eq_getElem (by omega)
        have hy : ys[i]? = some ys[i] := List.getElem?_eq_getElem hi'
        have e0 : (0 : Int) + (i : Int) = (i : Int) := by omega
        have ixa : rIx K (.ref a) (.int (0 + (i : Int))) H' = rIx K (.ref a) (.int (i : Int)) H' := by rw [e0]
        have ixb : rIx K (.ref b) (.int (0 + (i : Int))) H' = rIx K (.ref b) (.int (i : Int)) H' := by rw [e0]
        have ra : ∀ Q' : VK, Q' (xs[i]'(by omega)) H' → rIx K (.ref a) (.int (0 + (i : Int))) H' Q' := fun Q' hq => by
          rw [ixa]
          rcases hab1 with ⟨h1, h2⟩ | ⟨h1, h2⟩
          · exact .inl ⟨a, xs, _, _, rfl, rfl, SqL.of (s2 _ _ h1), atI_nat hx, hq⟩
          · exact .inr (.inl ⟨a, xs, _, _, rfl, rfl, SqT.of (s2 _ _ h1), atI_nat hx, hq⟩)
        have rb : ∀ Q' : VK, Q' ys[i] H' → rIx K (.ref b) (.int (0 + (i : Int))) H' Q' := fun Q' hq => by
          rw [ixb]
          rcases hab1 with ⟨h1, h2⟩ | ⟨h1, h2⟩
          · exact .inl ⟨b, ys, _, _, rfl, rfl, SqL.of (s2 _ _ h2), atI_nat hy, hq⟩
          · exact .inr (.inl ⟨b, ys, _, _, rfl, rfl, SqT.of (s2 _ _ h2), atI_nat hy, hq⟩)
        refine ⟨_, rfl, _, rfl, ra _ ⟨_, rfl, _, rfl, rb _ ⟨_, _, rfl, (hi i _ _ hx hy).mono (s1.trans s2), fun H3 s3 => ?_⟩⟩⟩
        refine hZ _ _ _ ⟨_, rfl, ?_, s2.trans s3⟩
        rw [List.replicate_succ', List.map_append]
        rfl
      · rintro σ zs H2 ⟨v, rfl, rfl, s2⟩ l hl'
        refine ⟨l, List.replicate ys.length true, rfl, SqL.of upd_same, ?_⟩
        have e : (List.replicate ys.length true).all id = true := by simp
        rw [e]
        exact q _ ((s1.trans s2).trans (Same.new hl'))
theorem ok_lawalike {f : Addr} {fd : FuncData} (D : Df K mg "_law_alike" s_lawalike ["_law_found", "_law_due"] f fd) (B : Blt mg) : Ow P w K mg base "_law_alike" ["_law_found", "_law_due"] 3 (spAlike 3) := D.ow (okn_lawalike D B _)


theorem sc_lawdraw : FnScope ["_law_script", "_law_k", "_law_many", "_law_number"] ["_law_script", "_law_k", "_law_many"] (defScope s_lawdraw) := ⟨rfl, rfl, rfl, by decide +kernel, rfl, by decide +kernel, by decide +kernel⟩
theorem ok_lawdraw {f : Addr} {fd : FuncData} (D : Df K mg "_law_draw" s_lawdraw ["_law_script", "_law_k", "_law_many"] f fd) (B : Blt mg) :
    Ow P w K mg base "_law_draw" ["_law_script", "_law_k", "_law_many"] 1 (spDraw K) := by
  refine D.ow (D.F.ok sc_lawdraw (fun vs H Q E h => ?_) (fun cdv A outer s H vs Q E hr h => ?_))
  · obtain ⟨a, ns, k, m, rfl, _⟩ := h
    rfl
  obtain ⟨a, ns, k, m, rfl, hS, k0, k1, hm, q⟩ := h
  refine ⟨_, (pss_cons (ps_set (i := 3) sc_lawdraw.nd rfl (Or.inl rfl) pe_int)
    (pss_cons (ps_if (pt_cmpR op_gt (pe_callB call_len_seq rfl B.f_len boot_len (pa_cons (pv 0) pa_nil)) pe_int (nomark _)) (pss_one (ps_set (i := 3) sc_lawdraw.nd rfl (Or.inl rfl) (pe_op op_mod (pe_ix ix_list (pv 0) (pe_op op_mod (pv 1) (pe_callB call_len_seq rfl B.f_len boot_len (pa_cons (pv 0) pa_nil))) (fun _ _ => rfl)) pe_int))) pss_nil)
    (pss_cons (ps_set (i := 3) sc_lawdraw.nd rfl (Or.inl rfl) (pe_op op_add (pe_op op_mul (pe_op op_add (pv 3) pe_int) pe_int) (pe_op op_mul (pe_op op_mul (pe_op op_add (pv 1) pe_int) (pe_op op_add (pv 1) pe_int)) pe_int)))
    (pss_one (ps_ret (pe_op op_mod (pe_op op_mod (pe_op op_mul (pe_op op_mod (pv 3) pe_int) pe_int) pe_int) (pv 2))))))), ?_⟩
  refine ⟨_, rfl, a, _, rfl, .inl hS, ?_⟩
  walk_at "rs"
  refine iteD (fun c => ?_) (fun c => ?_)
  · have hl : 0 < ns.length := by
      rw [List.length_map] at c
      omega
    obtain ⟨z, hz⟩ := atI_mod hl k
    refine ⟨_, rfl, _, rfl, _, rfl, a, _, rfl, .inl hS, _, _, rfl, rfl, (by rw [List.length_map]; show (0 : Int) < (ns.length : Int); omega), a, _, _, _, rfl, rfl, hS, hz, ?_⟩
    walk_at "rs"
    exact q _ (Int.emod_nonneg _ (by omega)) (Int.emod_lt_of_pos _ hm)
  · walk_at "rs"
    exact q _ (Int.emod_nonneg _ (by omega)) (Int.emod_lt_of_pos _ hm)
theorem sc_lawgreat : FnScope ["_law_script", "_law_k", "_law_many", "_law_number"] ["_law_script", "_law_k", "_law_many"] (defScope s_lawgreat) := ⟨rfl, rfl, rfl, by decide +kernel, rfl, by decide +kernel, by decide +kernel⟩
theorem ok_lawgreat {f : Addr} {fd : FuncData} (D : Df K mg "_law_great" s_lawgreat ["_law_script", "_law_k", "_law_many"] f fd) (B : Blt mg) :
    Ow P w K mg base "_law_great" ["_law_script", "_law_k", "_law_many"] 1 (spDraw K) := by
  refine D.ow (D.F.ok sc_lawgreat (fun vs H Q E h => ?_) (fun cdv A outer s H vs Q E hr h => ?_))
  · obtain ⟨a, ns, k, m, rfl, _⟩ := h
    rfl
  obtain ⟨a, ns, k, m, rfl, hS, k0, k1, hm, q⟩ := h
  refine ⟨_, (pss_cons (ps_set (i := 3) sc_lawgreat.nd rfl (Or.inl rfl) pe_int)
    (pss_cons (ps_if (pt_cmpR op_gt (pe_callB call_len_seq rfl B.f_len boot_len (pa_cons (pv 0) pa_nil)) pe_int (nomark _)) (pss_one (ps_set (i := 3) sc_lawgreat.nd rfl (Or.inl rfl) (pe_ix ix_list (pv 0) (pe_op op_mod (pv 1) (pe_callB call_len_seq rfl B.f_len boot_len (pa_cons (pv 0) pa_nil))) (fun _ _ => rfl)))) pss_nil)
    (pss_one (ps_ret (pe_op op_mod (pe_op op_add (pe_op op_mul (pe_op op_mod (pv 3) (pv 2)) pe_int) (pe_op op_mul (pe_op op_mul (pe_op op_add (pv 1) pe_int) (pe_op op_add (pv 1) pe_int)) pe_int)) (pv 2)))))), ?_⟩
  refine ⟨_, rfl, a, _, rfl, .inl hS, ?_⟩
  walk_at "rs"
  refine iteD (fun c => ?_) (fun c => ?_)
  · have hl : 0 < ns.length := by
      rw [List.length_map] at c
      omega
    obtain ⟨z, hz⟩ := atI_mod hl k
    refine ⟨_, rfl, _, rfl, _, rfl, a, _, rfl, .inl hS, _, _, rfl, rfl, (by rw [List.length_map]; show (0 : Int) < (ns.length : Int); omega), a, _, _, _, rfl, rfl, hS, hz, ?_⟩
    walk_at "rs"
    exact q _ (Int.emod_nonneg _ (by omega)) (Int.emod_lt_of_pos _ hm)
  · walk_at "rs"
    exact q _ (Int.emod_nonneg _ (by omega)) (Int.emod_lt_of_pos _ hm)
theorem sc_lawsides : FnScope ["_law_script", "_law_k", "_law_wide", "_law_high", "_law_way"] ["_law_script", "_law_k"] (defScope s_lawsides) := ⟨rfl, rfl, rfl, by decide +kernel, rfl, by decide +kernel, by decide +kernel⟩
theorem ok_lawsides {f : Addr} {fd : FuncData} (D : Df K mg "_law_sides" s_lawsides ["_law_script", "_law_k"] f fd)
    (O_lawdraw : Ow P w K mg base "_law_draw" ["_law_script", "_law_k", "_law_many"] 1 (spDraw K)) (B : Blt mg) :
    Ow P w K mg base "_law_sides" ["_law_script", "_law_k"] 2 (spSides K) := by
  refine D.ow (D.F.ok sc_lawsides (fun vs H Q E h => ?_) (fun cdv A outer s H vs Q E hr h => ?_))
  · obtain ⟨a, ns, k, rfl, _⟩ := h
    rfl
  obtain ⟨a, ns, k, rfl, hS, k0, k1, q⟩ := h
  refine ⟨_, (pss_cons (ps_set (i := 2) sc_lawsides.nd rfl (Or.inl rfl) (pe_op op_add pe_int (pe_own O_lawdraw hr rfl (pa_cons (pv 0) (pa_cons (pv 1) (pa_cons pe_int pa_nil))))))
    (pss_cons (ps_set (i := 3) sc_lawsides.nd rfl (Or.inl rfl) (pe_op op_add pe_int (pe_own O_lawdraw hr rfl (pa_cons (pv 0) (pa_cons (pe_op op_add (pv 1) pe_int) (pa_cons pe_int pa_nil))))))
    (pss_cons (ps_set (i := 4) sc_lawsides.nd rfl (Or.inl rfl) (pe_own O_lawdraw hr rfl (pa_cons (pv 0) (pa_cons (pe_op op_add (pv 1) pe_int) (pa_cons pe_int pa_nil)))))
    (pss_cons (ps_if (pt_cmpR op_eq (pv 4) pe_int (nomark _)) (pss_one (ps_ret (pe_tup (pa_cons (pe_op op_sub pe_int (pe_op op_fdiv (pv 3) pe_int)) (pa_cons (pe_op op_add pe_int (pe_op op_mod (pv 2) pe_int)) pa_nil))))) pss_nil)
    (pss_cons (ps_if (pt_cmpR op_eq (pv 4) pe_int (nomark _)) (pss_one (ps_ret (pe_tup (pa_cons (pe_op op_add pe_int (pe_op op_mod (pv 3) pe_int)) (pa_cons (pe_op op_sub pe_int (pe_op op_fdiv (pv 2) pe_int)) pa_nil))))) pss_nil)
    (pss_one (ps_ret (pe_tup (pa_cons (pv 2) (pa_cons (pv 3) pa_nil)))))))))), ?_⟩
  refine ⟨_, rfl, _, rfl, a, ns, k, _, rfl, hS, k0, by omega, (by decide), fun r1 a1 a2 => ?_⟩
  walk_at "rs"
  refine ⟨a, ns, k + 1, _, rfl, hS, by omega, by omega, (by decide), fun r2 b1 b2 => ?_⟩
  walk_at "rs"
  refine ⟨a, ns, k + 2, _, rfl, hS, by omega, by omega, (by decide), fun r3 c1 c2 => ?_⟩
  walk_at "rs"
  refine iteD (fun _ => ?_) (fun _ => ?_)
  · walk_at "rs"
    intro p hp
    refine q _ _ p ?_ ?_ ?_ ?_ hp <;> omega
  walk_at "rs"
  refine iteD (fun _ => ?_) (fun _ => ?_)
  · walk_at "rs"
    intro p hp
    refine q _ _ p ?_ ?_ ?_ ?_ hp <;> omega
  · walk_at "rs"
    intro p hp
    refine q _ _ p ?_ ?_ ?_ ?_ hp <;> omega
theorem sc_lawrows : FnScope ["_law_script", "_law_k", "_law_wide", "_law_high", "_law_most", "_law_rows_here", "_law_y", "_law_row", "_law_x", "_law_cell"] ["_law_script", "_law_k", "_law_wide", "_law_high"] (defScope s_lawrows) := ⟨rfl, rfl, rfl, by decide +kernel, rfl, by decide +kernel, by decide +kernel⟩
theorem ok_lawrows {f : Addr} {fd : FuncData} (D : Df K mg "_law_rows" s_lawrows ["_law_script", "_law_k", "_law_wide", "_law_high"] f fd)
    (O_lawdraw : Ow P w K mg base "_law_draw" ["_law_script", "_law_k", "_law_many"] 1 (spDraw K)) (B : Blt mg) :
    Ow P w K mg base "_law_rows" ["_law_script", "_law_k", "_law_wide", "_law_high"] 2 (spRows K) := by
  refine D.ow (D.F.ok sc_lawrows (fun vs H Q E h => ?_) (fun cdv A outer s H vs Q E hr h => ?_))
  · obtain ⟨a, ns, k, w, h, rfl, _⟩ := h
    rfl
  obtain ⟨a, ns, k, wd, hg, rfl, hS, k0, k1, w1, w2, h1, h2, q⟩ := h
  refine ⟨_, (pss_cons (ps_set (i := 4) sc_lawrows.nd rfl (Or.inl rfl) (pe_ix ix_list (pe_lst (pa_cons pe_int (pa_cons pe_int (pa_cons pe_int (pa_cons pe_int pa_nil))))) (pe_own O_lawdraw hr rfl (pa_cons (pv 0) (pa_cons (pv 1) (pa_cons pe_int pa_nil)))) (fun _ _ => rfl)))
    (pss_cons (ps_set (i := 5) sc_lawrows.nd rfl (Or.inl rfl) (pe_lst pa_nil))
    (pss_cons (ps_for PassesOwn.never rfl (pi_range1 rfl B.f_range (pa_cons (pv 3) pa_nil)) (pg_name (i := 6) sc_lawrows.nd rfl (Or.inl rfl)) (pss_cons (ps_set (i := 7) sc_lawrows.nd rfl (Or.inl rfl) (pe_lst pa_nil))
    (pss_cons (ps_for PassesOwn.never rfl (pi_range1 rfl B.f_range (pa_cons (pv 2) pa_nil)) (pg_name (i := 8) sc_lawrows.nd rfl (Or.inl rfl)) (pss_cons (ps_set (i := 9) sc_lawrows.nd rfl (Or.inl rfl) (pe_own O_lawdraw hr rfl (pa_cons (pv 0) (pa_cons (pe_op op_add (pe_op op_add (pe_op op_add (pv 1) pe_int) (pe_op op_mul (pv 6) (pv 2))) (pv 8)) (pa_cons (pv 4) pa_nil)))))
    (pss_cons (ps_if (pt_cmpR op_gt (pv 9) pe_int (nomark _)) (pss_one (ps_set (i := 9) sc_lawrows.nd rfl (Or.inl rfl) pe_non)) pss_nil)
    (pss_one (ps_expr (pe_bm PySem.F.plainAttrs_list PySem.F.slot_list_append PySem.F.type_list_append mt_append (pv 7) (pa_cons (pv 9) pa_nil)))))))
    (pss_one (ps_expr (pe_bm PySem.F.plainAttrs_list PySem.F.slot_list_append PySem.F.type_list_append mt_append (pv 5) (pa_cons (pv 7) pa_nil)))))))
    (pss_one (ps_ret (pv 5)))))), ?_⟩
  walk_at "rs"
  intro p0 n0
  have s0 : Same H (upd H p0 (.lst [.int 16, .int 24, .int 40, .int 300])) := Same.new n0
  walk_at "rs"
  refine ⟨a, ns, k, _, rfl, s0.seq hS, by omega, by omega, (by decide), fun r1 a1 a2 => ?_⟩
  obtain ⟨m, hm, hm0⟩ := at4 (a := 16) (b := 24) (c := 40) (d := 300) a1 a2 (by decide) (by decide) (by decide) (by decide)
  refine ⟨p0, _, _, _, rfl, rfl, SqL.of upd_same, hm, ?_⟩
  generalize upd H p0 (.lst [.int 16, .int 24, .int 40, .int 300]) = H1 at s0
  walk_at "rs"
  intro l nl
  refine ⟨_, rfl, _, rfl, (rngS (by omega) (by omega)).1, (rngS (by omega) (by omega)).2, ?_⟩
  refine for_range (n := hg.toNat) (fun y σ H2 => ∃ ps rows v6 v7 v8 v9, σ = [some (.ref a), some (.int k), some (.int wd), some (.int hg), some (.int m), some (.ref l), v6, v7, v8, v9] ∧ RowsB H H2 l ps rows ∧ rows.length = y ∧ ∀ r ∈ rows, r.length = wd.toNat ∧ Cells r)
    ⟨[], [], none, none, none, none, rfl, rowsNil s0 nl, rfl, (fun _ hr => nomatch hr)⟩ ?_ ?_
  · rintro y σ H2 hy ⟨ps, rows, v6, v7, v8, v9, rfl, RB, hlen, hrow⟩
    walk_at "rs"
    intro p np
    have npl : p ≠ l := fun e => by
      have := RB.rat.lst
      rw [← e, np] at this
      cases this
    have npp : p ∉ ps := fun hp => by
      obtain ⟨i, hi, e⟩ := List.mem_iff_getElem.mp hp
      have hl := RB.rat.len
      have := RB.rat.row i p (rows[i]'(by omega)) (by rw [List.getElem?_eq_getElem hi, e]) (List.getElem?_eq_getElem _)
      rw [np] at this
      cases this
    have np0 : H p = none := RB.same.free np
    have RB1 : RowsB H (upd H2 p (.lst [])) l ps rows := RB.put np0 npl npp
    have g1 : (upd H2 p (.lst [])) p = some (.lst []) := upd_same
    generalize upd H2 p (.lst []) = H3 at RB1 g1
    refine ⟨_, rfl, _, rfl, (rngS (by omega) (by omega)).1, (rngS (by omega) (by omega)).2, ?_⟩
    refine for_range (n := wd.toNat) (fun x σ H4 => ∃ r v8 v9, σ = [some (.ref a), some (.int k), some (.int wd), some (.int hg), some (.int m), some (.ref l), some (.int (0 + (y : Int))), some (.ref p), v8, v9] ∧ RowsB H H4 l ps rows ∧ H4 p = some (.lst (r.map cellV)) ∧ r.length = x ∧ Cells r)
      ⟨[], v8, v9, rfl, RB1, g1, rfl, (fun _ hc => nomatch hc)⟩ ?_ ?_
    · rintro x σ H4 hx ⟨r, v8, v9, rfl, RB4, g4, hr, hc⟩
      have hmul := mul64 (y := 0 + (y : Int)) (w := wd) (by omega) (by omega) (by omega) (by omega)
      walk_at "rs"
      refine ⟨a, ns, _, _, rfl, RB4.same.seq hS, by omega, by omega, hm0, fun z z0 z1 => ?_⟩
      walk_at "rs"
      have app : ∀ c : Option Int, Cell c → ∃ r' : List (Option Int), r'.length = x + 1 ∧ Cells r' ∧ r.map cellV ++ [cellV c] = r'.map cellV := fun c hcell => ⟨r ++ [c], by rw [List.length_append, hr]; rfl, fun d hd => by
        rcases List.mem_append.mp hd with e | e
        · exact hc d e
        · rw [List.mem_singleton.mp e]; exact hcell, by rw [List.map_append]; rfl⟩
      have sz : (r.map cellV).length < sizeLine := by
        rw [List.length_map]
        exact small1000 (by omega)
      refine iteD (fun c15 => ?_) (fun c15 => ?_)
      · obtain ⟨r', e1, e2, e3⟩ := app none (fun z e => nomatch e)
        refine ⟨_, rfl, .inl ⟨rfl, _, SqL.of g4⟩, _, rfl, p, _, _, rfl, rfl, g4, sz, ?_⟩
        exact ⟨r', _, _, rfl, RB4.put np0 npl npp, by rw [upd_same, ← e3]; rfl, e1, e2⟩
      · obtain ⟨r', e1, e2, e3⟩ := app (some z) (fun y e => by cases e; omega)
        refine ⟨_, rfl, .inl ⟨rfl, _, SqL.of g4⟩, _, rfl, p, _, _, rfl, rfl, g4, sz, ?_⟩
        exact ⟨r', _, _, rfl, RB4.put np0 npl npp, by rw [upd_same, ← e3]; rfl, e1, e2⟩
    · rintro σ H4 ⟨r, v8, v9, rfl, RB4, g4, hr, hc⟩
      have sz : (ps.map V.ref).length < sizeLine := by
        rw [List.length_map]
        have := RB4.rat.len
        exact small1000 (by omega)
      refine ⟨_, rfl, .inl ⟨rfl, _, SqL.of RB4.rat.lst⟩, _, rfl, l, _, _, rfl, rfl, RB4.rat.lst, sz, ?_⟩
      refine ⟨ps ++ [p], rows ++ [r], _, _, _, _, rfl, RB4.push np0 npl g4, by rw [List.length_append, hlen]; rfl, fun r' hr' => ?_⟩
      rcases List.mem_append.mp hr' with e | e
      · exact hrow r' e
      · rw [List.mem_singleton.mp e]
        exact ⟨hr, hc⟩
  · rintro σ H2 ⟨ps, rows, v6, v7, v8, v9, rfl, RB, hlen, hrow⟩
    refine ⟨_, rfl, ?_⟩
    exact q l ps rows H2 RB.same RB.fl (fun p hp => (RB.fp p hp).1) RB.rat ⟨hlen, by omega, by omega, by omega, by omega, hrow⟩
theorem sc_lawpacked : FnScope ["_law_rows_here", "_law_paints", "_law_masks", "_law_row", "_law_paint", "_law_mask", "_law_cell"] ["_law_rows_here"] (defScope s_lawpacked) := ⟨rfl, rfl, rfl, by decide +kernel, rfl, by decide +kernel, by decide +kernel⟩
theorem ok_lawpacked {f : Addr} {fd : FuncData} (D : Df K mg "_law_packed" s_lawpacked ["_law_rows_here"] f fd) (B : Blt mg) :
    Ow P w K mg base "_law_packed" ["_law_rows_here"] 1 spPacked := by
  refine D.ow (D.F.ok sc_lawpacked (fun vs H Q E h => ?_) (fun cdv A outer s H vs Q E hr h => ?_))
  · obtain ⟨l, ps, rows, w, h, rfl, _⟩ := h
    rfl
  obtain ⟨l, ps, rows, wd, hg, rfl, RA, R, q⟩ := h
  refine ⟨_, (pss_cons (ps_set (i := 1) sc_lawpacked.nd rfl (Or.inl rfl) (pe_lst pa_nil))
    (pss_cons (ps_set (i := 2) sc_lawpacked.nd rfl (Or.inl rfl) (pe_lst pa_nil))
    (pss_cons (ps_for PassesOwn.never rfl (pi_list (pv 0)) (pg_name (i := 3) sc_lawpacked.nd rfl (Or.inl rfl)) (pss_cons (ps_set (i := 4) sc_lawpacked.nd rfl (Or.inl rfl) pe_int)
    (pss_cons (ps_set (i := 5) sc_lawpacked.nd rfl (Or.inl rfl) pe_int)
    (pss_cons (ps_for PassesOwn.never rfl (pi_rev rfl B.f_reversed (pa_cons (pv 3) pa_nil)) (pg_name (i := 6) sc_lawpacked.nd rfl (Or.inl rfl)) (pss_cons (ps_set (i := 4) sc_lawpacked.nd rfl (Or.inl rfl) (pe_op op_mul (pv 4) pe_int))
    (pss_cons (ps_set (i := 5) sc_lawpacked.nd rfl (Or.inl rfl) (pe_op op_mul (pv 5) pe_int))
    (pss_one (ps_if (pt_cmpR op_notN (pv 6) pe_non (nomark _)) (pss_cons (ps_set (i := 4) sc_lawpacked.nd rfl (Or.inl rfl) (pe_op op_add (pv 4) (pv 6)))
    (pss_one (ps_set (i := 5) sc_lawpacked.nd rfl (Or.inl rfl) (pe_op op_add (pv 5) pe_int)))) pss_nil)))))
    (pss_cons (ps_expr (pe_bm PySem.F.plainAttrs_list PySem.F.slot_list_append PySem.F.type_list_append mt_append (pv 1) (pa_cons (pv 4) pa_nil)))
    (pss_one (ps_expr (pe_bm PySem.F.plainAttrs_list PySem.F.slot_list_append PySem.F.type_list_append mt_append (pv 2) (pa_cons (pv 5) pa_nil)))))))))
    (pss_one (ps_ret (pe_tup (pa_cons (pe_callB call_len_seq rfl B.f_len boot_len (pa_cons (pe_ix ix_list (pv 0) pe_int (fun _ _ => rfl)) pa_nil)) (pa_cons (pe_callB call_len_seq rfl B.f_len boot_len (pa_cons (pv 0) pa_nil)) (pa_cons (pe_callTy call_tuple_of rfl B.f_tuple boot_tuple (pa_cons (pv 1) pa_nil)) (pa_cons (pe_callTy call_tuple_of rfl B.f_tuple boot_tuple (pa_cons (pv 2) pa_nil)) pa_nil)))))))))), ?_⟩
  walk_at "rs"
  intro lp np
  walk_at "rs"
  intro lm nm
  have hlen := RA.len
  have hR := R.len
  have hR2 := R.h2
  have hpm : lp ≠ lm := fun e => by
    rw [← e, upd_same] at nm
    cases nm
  have s1 : Same H (upd (upd H lp (.lst [])) lm (.lst [])) := (Same.new np).trans (Same.new nm)
  have nm0 : H lm = none := (Same.new np).free nm
  have g1 : (upd (upd H lp (.lst [])) lm (.lst [])) lp = some (.lst []) := by rw [upd_ne hpm, upd_same]
  have g2 : (upd (upd H lp (.lst [])) lm (.lst [])) lm = some (.lst []) := upd_same
  generalize upd (upd H lp (.lst [])) lm (.lst []) = H1 at s1 g1 g2
  refine ⟨_, rfl, l, rfl, ⟨_, SqL.of (s1 _ _ RA.lst)⟩, ?_⟩
  refine for_list (K := K) (a := l) (xs := ps.map V.ref) (fun i σ H2 => ∃ v3 v4 v5 v6, σ = [some (.ref l), some (.ref lp), some (.ref lm), v3, v4, v5, v6] ∧ Same H H2 ∧ H2 lp = some (.lst (((rows.take i).map paintI).map V.int)) ∧ H2 lm = some (.lst (((rows.take i).map maskI).map V.int)))
    ⟨none, none, none, none, rfl, s1, g1, g2⟩ (fun i σ H2 _ ⟨_, _, _, _, _, s, _⟩ => SqL.of (s _ _ RA.lst)) ?_ ?_
  · rintro i x σ H2 hi ⟨v3, v4, v5, v6, rfl, s2, gp, gm⟩
    have hil : i < rows.length := by
      have := (List.getElem?_eq_some_iff.mp hi).1
      rw [List.length_map] at this
      omega
    obtain ⟨p, hp, gr⟩ := RA.at hil
    rw [List.getElem?_map, hp] at hi
    cases hi
    obtain ⟨hw, hc⟩ := R.row0 hil
    generalize hrow : rows[i]'hil = r at gr hw hc
    have hw2 := R.w2
    walk_at "rs"
    refine ⟨p, _, rfl, SqL.of (s2 _ _ gr), ?_⟩
    refine for_rev (K := K) (a := p) (xs := r.map cellV) (fun j σ H3 => ∃ v6, σ = [some (.ref l), some (.ref lp), some (.ref lm), some (.ref p), some (.int (paintI (r.drop (r.length - j)))), some (.int (maskI (r.drop (r.length - j)))), v6] ∧ H3 = H2)
      ⟨v6, by rw [Nat.sub_zero, List.drop_length]; rfl, rfl⟩ (fun j σ H3 _ ⟨_, _, e⟩ => by rw [e]; exact SqL.of (s2 _ _ gr)) ?_ ?_
    · rintro j x σ H3 hj hx ⟨v6, rfl, rfl⟩
      rw [List.length_map] at hj hx
      have hd : r.drop (r.length - (j + 1)) = r[r.length - 1 - j]'(by omega) :: r.drop (r.length - j) := by
        have e1 : r.length - (j + 1) = r.length - 1 - j := by omega
        have e2 : r.length - j = r.length - 1 - j + 1 := by omega
        rw [e1, e2]
        exact List.drop_eq_getElem_cons (by omega)
      rw [List.getElem?_map, List.getElem?_eq_getElem (by omega)] at hx
      have hx' : x = cellV (r[r.length - 1 - j]'(by omega)) := (Option.some.inj hx).symm
      subst hx'
      have hcell := hc _ (List.getElem_mem (show r.length - 1 - j < r.length by omega))
      generalize r[r.length - 1 - j]'(by omega) = c at hd hcell
      cases c with
      | none =>
        walk_at "rs"
        refine iteN (fun n => absurd rfl n) (fun _ => ?_)
        refine ⟨some (cellV none), ?_, rfl⟩
        rw [hd]
        show _ = [_, _, _, _, some (V.int ((none : Option Int).getD 0 + 16 * paintI (r.drop (r.length - j)))), some (V.int ((if (none : Option Int).isSome = true then 1 else 0) + 2 * maskI (r.drop (r.length - j)))), _]
        have e1 : (none : Option Int).getD 0 + 16 * paintI (r.drop (r.length - j)) = paintI (r.drop (r.length - j)) * 16 := by
          show (0 : Int) + _ = _
          omega
        have e2 : (if (none : Option Int).isSome = true then (1 : Int) else 0) + 2 * maskI (r.drop (r.length - j)) = maskI (r.drop (r.length - j)) * 2 := by
          rw [if_neg (by simp)]
          omega
        rw [e1, e2]
        rfl
      | some z =>
        walk_at "rs"
        refine ⟨some (cellV (some z)), ?_, rfl⟩
        rw [hd]
        show _ = [_, _, _, _, some (V.int ((some z : Option Int).getD 0 + 16 * paintI (r.drop (r.length - j)))), some (V.int ((if (some z : Option Int).isSome = true then 1 else 0) + 2 * maskI (r.drop (r.length - j)))), _]
        have e1 : (some z : Option Int).getD 0 + 16 * paintI (r.drop (r.length - j)) = paintI (r.drop (r.length - j)) * 16 + z := by
          show z + _ = _
          omega
        have e2 : (if (some z : Option Int).isSome = true then (1 : Int) else 0) + 2 * maskI (r.drop (r.length - j)) = maskI (r.drop (r.length - j)) * 2 + 1 := by
          rw [if_pos (show (some z).isSome = true from rfl)]
          omega
        rw [e1, e2]
        rfl
    · rintro σ H3 ⟨v6, rfl, rfl⟩
      rw [List.length_map, Nat.sub_self, List.drop_zero]
      have szp : (((rows.take i).map paintI).map V.int).length < sizeLine := by
        rw [List.length_map, List.length_map, List.length_take]
        exact small1000 (by omega)
      have szm : (((rows.take i).map maskI).map V.int).length < sizeLine := by
        rw [List.length_map, List.length_map, List.length_take]
        exact small1000 (by omega)
      refine ⟨_, rfl, .inl ⟨rfl, _, SqL.of gp⟩, _, rfl, lp, _, _, rfl, rfl, gp, szp, ?_⟩
      have gm' : (upd H3 lp (.lst (((rows.take i).map paintI).map V.int ++ [.int (paintI r)]))) lm = some (.lst (((rows.take i).map maskI).map V.int)) := by
        rw [upd_ne (Ne.symm hpm)]
        exact gm
      refine ⟨_, rfl, .inl ⟨rfl, _, SqL.of gm'⟩, _, rfl, lm, _, _, rfl, rfl, gm', szm, ?_⟩
      have tk : rows.take (i + 1) = rows.take i ++ [r] := by
        rw [List.take_succ, List.getElem?_eq_getElem hil, hrow]
        rfl
      refine ⟨_, _, _, _, rfl, (s2.put np).put nm0, ?_, ?_⟩
      · rw [upd_ne hpm, upd_same, tk, List.map_append, List.map_append]
        rfl
      · rw [upd_same, tk, List.map_append, List.map_append]
        rfl
  · rintro σ H2 ⟨v3, v4, v5, v6, rfl, s2, gp, gm⟩
    rw [List.length_map, hlen, List.take_length] at gp gm
    obtain ⟨p0, e0, g0⟩ := (RA.mono s2).atI R.ne
    refine ⟨_, rfl, l, _, 0, _, rfl, rfl, SqL.of (s2 _ _ RA.lst), e0, p0, _, rfl, .inl (SqL.of g0), _, rfl, l, _, rfl, .inl (SqL.of (s2 _ _ RA.lst)), _, rfl, lp, _, rfl, .inl ⟨SqL.of gp, fun t1 n1 => ?_⟩⟩
    refine ⟨_, rfl, lm, _, rfl, .inl ⟨SqL.of ((Same.new n1) _ _ gm), fun t2 n2 => ?_⟩⟩
    refine ⟨szV (by simp), fun t3 n3 => ?_⟩
    refine q t3 _ (((s2.trans (Same.new n1)).trans (Same.new n2)).trans (Same.new n3)) ⟨t1, t2, ?_, ?_, ?_⟩
    · rw [upd_same, List.length_map, List.length_map, hlen, (R.row0 R.ne).1]
    · exact (Same.new n3) _ _ ((Same.new n2) _ _ upd_same)
    · exact (Same.new n3) _ _ upd_same


theorem sc_iswhole : FnScope ["thing"] ["thing"] (defScope s_iswhole) := ⟨rfl, rfl, rfl, by decide +kernel, rfl, by decide +kernel, by decide +kernel⟩
theorem ok_iswhole {f : Addr} {fd : FuncData} (D : Df K mg "is_whole" s_iswhole ["thing"] f fd) (B : Blt mg) :
    Ow P w K mg base "is_whole" ["thing"] 1 spWhole := by
  refine D.ow (D.F.ok sc_iswhole (fun vs H Q E h => ?_) (fun cdv A outer s H vs Q E hr h => ?_))
  · obtain ⟨x, T, rfl, _⟩ := h
    rfl
  obtain ⟨x, T, rfl, hT, q⟩ := h
  refine ⟨_, (pss_one (ps_ret (pe_and (pe_callB call_isi rfl B.f_isinstance boot_isinstance (pa_cons (pv 0) (pa_cons (pe_bltn (v := .ty "int") rfl B.f_int boot_int rfl) pa_nil))) (pe_one (pe_not (pe_callB call_isi rfl B.f_isinstance boot_isinstance (pa_cons (pv 0) (pa_cons (pe_bltn (v := .ty "bool") rfl B.f_bool boot_bool rfl) pa_nil)))))))), ?_⟩
  refine ⟨x, rfl, x, "int", T, rfl, by decide, hT, _, rfl, ?_⟩
  have e := whole_table T (tyS_mem hT)
  cases hi : isiB T "int" with
  | true =>
    rw [hi, if_pos rfl] at e
    refine iteT ⟨x, rfl, x, "bool", T, rfl, by decide, hT, _, rfl, ?_⟩
    rw [e]
    exact q
  | false =>
    rw [hi, if_neg (by decide)] at e
    refine iteF ?_
    rw [e]
    exact q
theorem sc_iswithin : FnScope ["thing", "least", "most"] ["thing", "least", "most"] (defScope s_iswithin) := ⟨rfl, rfl, rfl, by decide +kernel, rfl, by decide +kernel, by decide +kernel⟩
theorem ok_iswithin {f : Addr} {fd : FuncData} (D : Df K mg "is_within" s_iswithin ["thing", "least", "most"] f fd)
    (O_iswhole : Ow P w K mg base "is_whole" ["thing"] 1 spWhole) (B : Blt mg) :
    Ow P w K mg base "is_within" ["thing", "least", "most"] 2 spWithin := by
  refine D.ow (D.F.ok sc_iswithin (fun vs H Q E h => ?_) (fun cdv A outer s H vs Q E hr h => ?_))
  · obtain ⟨x, a, b, T, rfl, _⟩ := h
    rfl
  obtain ⟨x, a, b, T, rfl, hT, q⟩ := h
  refine ⟨_, (pss_one (ps_ret (pe_and (pe_own O_iswhole hr rfl (pa_cons (pv 0) pa_nil)) (pe_one (pe_chain op_le op_le (pv 1) (pv 0) (pv 2)))))), ?_⟩
  refine ⟨_, rfl, x, T, rfl, hT, _, rfl, ?_⟩
  by_cases hi : ∃ i, x = .int i
  · obtain ⟨i, rfl⟩ := hi
    cases hT
    refine iteTb rfl ?_
    walk_at "rs"
    refine iteD (fun c1 => ?_) (fun c1 => ?_)
    · walk_at "rs"
      have e : inB (.int i) a b = decide (i ≤ b) := by
        show (decide (a ≤ i) && decide (i ≤ b)) = _
        rw [decide_eq_true c1, Bool.true_and]
      rw [e] at q
      exact q
    · have e : inB (.int i) a b = false := by
        show (decide (a ≤ i) && decide (i ≤ b)) = _
        rw [decide_eq_false c1, Bool.false_and]
      rw [e] at q
      exact q
  · have e : inB x a b = false := by
      cases x <;> first | rfl | exact absurd ⟨_, rfl⟩ hi
    rw [e] at q
    refine iteFb ?_ q
    exact tyS_int hT hi
theorem sc_isside : FnScope ["thing"] ["thing"] (defScope s_isside) := ⟨rfl, rfl, rfl, by decide +kernel, rfl, by decide +kernel, by decide +kernel⟩
theorem ok_isside {f : Addr} {fd : FuncData} (D : Df K mg "is_side" s_isside ["thing"] f fd)
    (O_iswithin : Ow P w K mg base "is_within" ["thing", "least", "most"] 2 spWithin) (B : Blt mg) :
    Ow P w K mg base "is_side" ["thing"] 3 spSide := by
  refine D.ow (D.F.ok sc_isside (fun vs H Q E h => ?_) (fun cdv A outer s H vs Q E hr h => ?_))
  · obtain ⟨x, T, rfl, _⟩ := h
    rfl
  obtain ⟨x, T, rfl, hT, q⟩ := h
  refine ⟨_, (pss_one (ps_ret (pe_own O_iswithin hr rfl (pa_cons (pv 0) (pa_cons pe_int (pa_cons pe_int pa_nil)))))), ?_⟩
  exact ⟨_, rfl, x, _, _, T, rfl, hT, q⟩
theorem sc_iscell : FnScope ["thing"] ["thing"] (defScope s_iscell) := ⟨rfl, rfl, rfl, by decide +kernel, rfl, by decide +kernel, by decide +kernel⟩
theorem ok_iscell {f : Addr} {fd : FuncData} (D : Df K mg "is_cell" s_iscell ["thing"] f fd)
    (O_iswithin : Ow P w K mg base "is_within" ["thing", "least", "most"] 2 spWithin) (B : Blt mg) :
    Ow P w K mg base "is_cell" ["thing"] 3 spIsCell := by
  refine D.ow (D.F.ok sc_iscell (fun vs H Q E h => ?_) (fun cdv A outer s H vs Q E hr h => ?_))
  · obtain ⟨x, T, rfl, _⟩ := h
    rfl
  obtain ⟨x, T, rfl, hT, q⟩ := h
  refine ⟨_, (pss_one (ps_ret (pe_or (pe_cmpR op_isN (pv 0) pe_non (nomark _)) (pe_one (pe_own O_iswithin hr rfl (pa_cons (pv 0) (pa_cons pe_int (pa_cons pe_int pa_nil)))))))), ?_⟩
  walk_at "rs"
  refine iteD (fun c => ?_) (fun c => ?_)
  · subst c
    exact q
  · have e : cellB x = inB x 0 15 := by
      cases x <;> first | rfl | exact absurd rfl c
    rw [e] at q
    exact ⟨_, rfl, x, _, _, T, rfl, hT, q⟩
theorem sc_paintof : FnScope ["row", "paint", "x", "cell"] ["row"] (defScope s_paintof) := ⟨rfl, rfl, rfl, by decide +kernel, rfl, by decide +kernel, by decide +kernel⟩
theorem ok_paintof {f : Addr} {fd : FuncData} (D : Df K mg "paint_of" s_paintof ["row"] f fd) (B : Blt mg) :
    Ow P w K mg base "paint_of" ["row"] 1 spPaint := by
  refine D.ow (D.F.ok sc_paintof (fun vs H Q E h => ?_) (fun cdv A outer s H vs Q E hr h => ?_))
  · obtain ⟨l, r, rfl, _⟩ := h
    rfl
  obtain ⟨l, r, rfl, hl, hc, hn, q⟩ := h
  refine ⟨_, (pss_cons (ps_set (i := 1) sc_paintof.nd rfl (Or.inl rfl) pe_int)
    (pss_cons (ps_for PassesOwn.never rfl (pi_enum rfl B.f_enumerate (pa_cons (pv 0) pa_nil)) (pg_tup (n := 2) rfl (pgs_cons (pg_name (i := 2) sc_paintof.nd rfl (Or.inl rfl)) (pgs_cons (pg_name (i := 3) sc_paintof.nd rfl (Or.inl rfl)) pgs_nil))) (pss_one (ps_if (pt_cmpR op_notN (pv 3) pe_non (nomark _)) (pss_one (ps_set (i := 1) sc_paintof.nd rfl (Or.inl rfl) (pe_op op_or (pv 1) (pe_op op_shl (pv 3) (pe_op op_mul pe_int (pv 2)))))) pss_nil)))
    (pss_one (ps_ret (pv 1))))), ?_⟩
  refine ⟨_, rfl, l, rfl, ⟨_, SqL.of hl⟩, ?_⟩
  refine for_enum (K := K) (a := l) (xs := r.map cellV) (fun i σ H2 => ∃ v w, σ = [some (.ref l), some (.int (paintI (r.take i))), v, w] ∧ Same H H2) ⟨none, none, rfl, Same.refl _⟩ (fun i σ H2 _ ⟨_, _, _, s⟩ => SqL.of (s _ _ hl)) ?_ ?_
  · rintro i x σ H2 T hi ⟨v, w, rfl, s2⟩ nT
    have hil : i < r.length := by
      have := (List.getElem?_eq_some_iff.mp hi).1
      rwa [List.length_map] at this
    rw [List.getElem?_map, List.getElem?_eq_getElem hil] at hi
    have hx : x = cellV (r[i]'hil) := (Option.some.inj hi).symm
    subst hx
    have tk : r.take (i + 1) = r.take i ++ [r[i]'hil] := by
      rw [List.take_succ, List.getElem?_eq_getElem hil]
      rfl
    have hcell := hc _ (List.getElem_mem hil)
    have hpre : Cells (r.take i) := fun d hd => hc d (List.mem_of_mem_take hd)
    have hb := paint_lt hpre
    have hln : (r.take i).length = i := by rw [List.length_take]; omega
    have sn := paint_snoc (r[i]'hil) (r.take i)
    rw [← tk, hln] at sn
    rw [hln] at hb
    generalize r[i]'hil = c at hcell sn
    have s3 : Same H2 (upd H2 T (.tup [.int i, cellV c])) := Same.new nT
    refine ⟨T, _, rfl, SqT.of upd_same, rfl, _, _, rfl, _, _, rfl, rfl, ?_⟩
    cases c with
    | none =>
      walk_at "rs"
      refine iteN (fun n => absurd rfl n) (fun _ => ?_)
      refine ⟨some (.int i), some (cellV none), ?_, s2.trans s3⟩
      have e : paintI (r.take (i + 1)) = paintI (r.take i) := by
        rw [sn]
        show _ + 0 * _ = _
        omega
      rw [e]
      rfl
    | some z =>
      obtain ⟨z0, z1⟩ := hcell z rfl
      walk_at "rs"
      refine ⟨some (.int i), some (cellV (some z)), ?_, s2.trans s3⟩
      have e : paintI (r.take (i + 1)) = Builtin.bitOr (paintI (r.take i)) (z * 2 ^ ((4 : Int) * (i : Int)).toNat) := by
        have e4 : ((4 : Int) * (i : Int)).toNat = 4 * i := by omega
        rw [e4, or_high hb.1 (by rw [two4]; exact hb.2) z0, sn, two4]
        rfl
      rw [e]
      rfl
  · rintro σ H2 ⟨v, w, rfl, s2⟩
    refine ⟨_, rfl, ?_⟩
    rw [List.length_map, List.take_length]
    exact q _ s2
theorem sc_maskof : FnScope ["row", "mask", "x", "cell"] ["row"] (defScope s_maskof) := ⟨rfl, rfl, rfl, by decide +kernel, rfl, by decide +kernel, by decide +kernel⟩
theorem ok_maskof {f : Addr} {fd : FuncData} (D : Df K mg "mask_of" s_maskof ["row"] f fd) (B : Blt mg) :
    Ow P w K mg base "mask_of" ["row"] 1 spMask := by
  refine D.ow (D.F.ok sc_maskof (fun vs H Q E h => ?_) (fun cdv A outer s H vs Q E hr h => ?_))
  · obtain ⟨l, r, rfl, _⟩ := h
    rfl
  obtain ⟨l, r, rfl, hl, hc, hn, q⟩ := h
  refine ⟨_, (pss_cons (ps_set (i := 1) sc_maskof.nd rfl (Or.inl rfl) pe_int)
    (pss_cons (ps_for PassesOwn.never rfl (pi_enum rfl B.f_enumerate (pa_cons (pv 0) pa_nil)) (pg_tup (n := 2) rfl (pgs_cons (pg_name (i := 2) sc_maskof.nd rfl (Or.inl rfl)) (pgs_cons (pg_name (i := 3) sc_maskof.nd rfl (Or.inl rfl)) pgs_nil))) (pss_one (ps_if (pt_cmpR op_notN (pv 3) pe_non (nomark _)) (pss_one (ps_set (i := 1) sc_maskof.nd rfl (Or.inl rfl) (pe_op op_or (pv 1) (pe_op op_shl pe_int (pv 2))))) pss_nil)))
    (pss_one (ps_ret (pv 1))))), ?_⟩
  refine ⟨_, rfl, l, rfl, ⟨_, SqL.of hl⟩, ?_⟩
  refine for_enum (K := K) (a := l) (xs := r.map cellV) (fun i σ H2 => ∃ v w, σ = [some (.ref l), some (.int (maskI (r.take i))), v, w] ∧ Same H H2) ⟨none, none, rfl, Same.refl _⟩ (fun i σ H2 _ ⟨_, _, _, s⟩ => SqL.of (s _ _ hl)) ?_ ?_
  · rintro i x σ H2 T hi ⟨v, w, rfl, s2⟩ nT
    have hil : i < r.length := by
      have := (List.getElem?_eq_some_iff.mp hi).1
      rwa [List.length_map] at this
    rw [List.getElem?_map, List.getElem?_eq_getElem hil] at hi
    have hx : x = cellV (r[i]'hil) := (Option.some.inj hi).symm
    subst hx
    have tk : r.take (i + 1) = r.take i ++ [r[i]'hil] := by
      rw [List.take_succ, List.getElem?_eq_getElem hil]
      rfl
    have hb := mask_lt (r.take i)
    have hln : (r.take i).length = i := by rw [List.length_take]; omega
    have sn := mask_snoc (r[i]'hil) (r.take i)
    rw [← tk, hln] at sn
    rw [hln] at hb
    generalize r[i]'hil = c at sn
    have s3 : Same H2 (upd H2 T (.tup [.int i, cellV c])) := Same.new nT
    refine ⟨T, _, rfl, SqT.of upd_same, rfl, _, _, rfl, _, _, rfl, rfl, ?_⟩
    cases c with
    | none =>
      walk_at "rs"
      refine iteN (fun n => absurd rfl n) (fun _ => ?_)
      refine ⟨some (.int i), some (cellV none), ?_, s2.trans s3⟩
      have e : maskI (r.take (i + 1)) = maskI (r.take i) := by
        rw [sn, if_neg (by simp)]
        omega
      rw [e]
      rfl
    | some z =>
      walk_at "rs"
      refine ⟨some (.int i), some (cellV (some z)), ?_, s2.trans s3⟩
      have e : maskI (r.take (i + 1)) = Builtin.bitOr (maskI (r.take i)) ((1 : Int) * 2 ^ (i : Int).toNat) := by
        rw [Int.toNat_natCast, or_high hb.1 hb.2 (by decide), sn, if_pos (show (some z).isSome = true from rfl)]
      rw [e]
      rfl
  · rintro σ H2 ⟨v, w, rfl, s2⟩
    refine ⟨_, rfl, ?_⟩
    rw [List.length_map, List.take_length]
    exact q _ s2


theorem sc_packed : FnScope ["wide", "rows", "paints", "masks"] ["wide", "rows"] (defScope s_packed) := ⟨rfl, rfl, rfl, by decide +kernel, rfl, by decide +kernel, by decide +kernel⟩
theorem ok_packed {f : Addr} {fd : FuncData} (D : Df K mg "packed" s_packed ["wide", "rows"] f fd)
    (O_paintof : Ow P w K mg base "paint_of" ["row"] 1 spPaint)
    (O_maskof : Ow P w K mg base "mask_of" ["row"] 1 spMask) (B : Blt mg) :
    Ow P w K mg base "packed" ["wide", "rows"] 2 spPk := by
  refine D.ow (D.F.ok sc_packed (fun vs H Q E h => ?_) (fun cdv A outer s H vs Q E hr h => ?_))
  · obtain ⟨l, ps, rows, w, h, rfl, _⟩ := h
    rfl
  obtain ⟨l, ps, rows, wd, hg, rfl, RA, R, q⟩ := h
  refine ⟨_, (pss_cons (ps_set (i := 2) sc_packed.nd rfl (Or.inl rfl) (pe_callTy call_tuple_of rfl B.f_tuple boot_tuple (pa_cons (pe_comp (locs := ["row"]) (ix := []) rfl (BlkSc.look (dsc := defScope s_packed) (N := ["wide", "rows", "paints", "masks"]) rfl rfl (by decide +kernel)) (pi_list (pv 1)) (fun _ _ _ _ _ _ => (pg_name (i := 0) (by decide +kernel : (["row"] : List Str).Nodup) rfl (Or.inl rfl))) (fun _ _ _ _ _ _ => pts_nil) (fun _ _ _ _ _ _ => (pe_own O_paintof hr rfl (pa_cons (pv 0) pa_nil)))) pa_nil)))
    (pss_cons (ps_set (i := 3) sc_packed.nd rfl (Or.inl rfl) (pe_callTy call_tuple_of rfl B.f_tuple boot_tuple (pa_cons (pe_comp (locs := ["row"]) (ix := []) rfl (BlkSc.look (dsc := defScope s_packed) (N := ["wide", "rows", "paints", "masks"]) rfl rfl (by decide +kernel)) (pi_list (pv 1)) (fun _ _ _ _ _ _ => (pg_name (i := 0) (by decide +kernel : (["row"] : List Str).Nodup) rfl (Or.inl rfl))) (fun _ _ _ _ _ _ => pts_nil) (fun _ _ _ _ _ _ => (pe_own O_maskof hr rfl (pa_cons (pv 0) pa_nil)))) pa_nil)))
    (pss_one (ps_ret (pe_tup (pa_cons (pv 0) (pa_cons (pe_callB call_len_seq rfl B.f_len boot_len (pa_cons (pv 1) pa_nil)) (pa_cons (pv 2) (pa_cons (pv 3) pa_nil))))))))), ?_⟩
  have hlen := RA.len
  have hR := R.len
  have hR2 := R.h2
  have hw2 := R.w2
  refine ⟨_, rfl, l, rfl, ⟨_, SqL.of RA.lst⟩, ?_⟩
  refine comp_by (n := rows.length) (fun i σ zs H3 => ∃ v, σ = [v] ∧ zs = ((rows.take i).map paintI).map V.int ∧ Same H H3 ∧ i ≤ rows.length) ⟨none, rfl, rfl, Same.refl _, Nat.zero_le _⟩ (Nat.le_of_lt (small1000 (by omega))) ?_ ?_ ?_ ?_ ?_
  · rintro i σ zs H3 ⟨v, _, rfl, _, hi⟩
    rw [List.length_map, List.length_map, List.length_take]
    omega
  · rintro σ zs H3 ⟨v, _, _, s3, _⟩
    exact ⟨_, SqL.of (s3 _ _ RA.lst), by rw [List.length_map, hlen]; exact Nat.le_refl _⟩
  · rintro i σ zs H3 hi ⟨v, _, _, s3, _⟩
    obtain ⟨p, hp, _⟩ := RA.at hi
    exact ⟨_, .ref p, SqL.of (s3 _ _ RA.lst), by rw [List.getElem?_map, hp]; rfl⟩
  · rintro i σ zs H3 x H' Z hi ⟨v, rfl, rfl, s3, _⟩ ⟨rfl, hx⟩ hZ
    obtain ⟨p, hp, gr⟩ := (RA.mono s3).at hi
    have e := hx _ (SqL.of (s3 _ _ RA.lst))
    rw [List.getElem?_map, hp] at e
    cases e
    obtain ⟨hw, hc⟩ := R.row0 hi
    refine ⟨_, rfl, p, _, rfl, gr, hc, by omega, fun H4 s4 => ?_⟩
    refine hZ _ _ _ ⟨_, rfl, ?_, s3.trans s4, hi⟩
    rw [List.take_succ, List.getElem?_eq_getElem hi, List.map_append, List.map_append]
    rfl
  rintro σ zs H3 ⟨v, rfl, rfl, s3, _⟩ l1 n1
  rw [List.take_length]
  refine ⟨l1, _, rfl, .inl ⟨SqL.of upd_same, fun t1 m1 => ?_⟩⟩
  have s4 : Same H3 _ := (Same.new (o := .lst ((rows.map paintI).map V.int)) n1).trans (Same.new (o := .tup ((rows.map paintI).map V.int)) m1)
  have gp : (upd (upd H3 l1 (.lst ((rows.map paintI).map V.int))) t1 (.tup ((rows.map paintI).map V.int))) t1 = some (.tup ((rows.map paintI).map V.int)) := upd_same
  generalize upd (upd H3 l1 (.lst ((rows.map paintI).map V.int))) t1 (.tup ((rows.map paintI).map V.int)) = H4 at s4 gp
  have A4 := (RA.mono s3).mono s4
  have t4 := s3.trans s4
  refine ⟨_, rfl, l, rfl, ⟨_, SqL.of A4.lst⟩, ?_⟩
  refine comp_by (n := rows.length) (fun i σ zs H5 => ∃ v, σ = [v] ∧ zs = ((rows.take i).map maskI).map V.int ∧ Same H4 H5 ∧ i ≤ rows.length) ⟨none, rfl, rfl, Same.refl _, Nat.zero_le _⟩ (Nat.le_of_lt (small1000 (by omega))) ?_ ?_ ?_ ?_ ?_
  · rintro i σ zs H5 ⟨v, _, rfl, _, hi⟩
    rw [List.length_map, List.length_map, List.length_take]
    omega
  · rintro σ zs H5 ⟨v, _, _, s5, _⟩
    exact ⟨_, SqL.of (s5 _ _ A4.lst), by rw [List.length_map, hlen]; exact Nat.le_refl _⟩
  · rintro i σ zs H5 hi ⟨v, _, _, s5, _⟩
    obtain ⟨p, hp, _⟩ := A4.at hi
    exact ⟨_, .ref p, SqL.of (s5 _ _ A4.lst), by rw [List.getElem?_map, hp]; rfl⟩
  · rintro i σ zs H5 x H' Z hi ⟨v, rfl, rfl, s5, _⟩ ⟨rfl, hx⟩ hZ
    obtain ⟨p, hp, gr⟩ := (A4.mono s5).at hi
    have e := hx _ (SqL.of (s5 _ _ A4.lst))
    rw [List.getElem?_map, hp] at e
    cases e
    obtain ⟨hw, hc⟩ := R.row0 hi
    refine ⟨_, rfl, p, _, rfl, gr, hc, by omega, fun H6 s6 => ?_⟩
    refine hZ _ _ _ ⟨_, rfl, ?_, s5.trans s6, hi⟩
    rw [List.take_succ, List.getElem?_eq_getElem hi, List.map_append, List.map_append]
    rfl
  rintro σ zs H5 ⟨v, rfl, rfl, s5, _⟩ l2 n2
  rw [List.take_length]
  refine ⟨l2, _, rfl, .inl ⟨SqL.of upd_same, fun t2 m2 => ?_⟩⟩
  have s6 : Same H5 _ := (Same.new (o := .lst ((rows.map maskI).map V.int)) n2).trans (Same.new (o := .tup ((rows.map maskI).map V.int)) m2)
  have gm : (upd (upd H5 l2 (.lst ((rows.map maskI).map V.int))) t2 (.tup ((rows.map maskI).map V.int))) t2 = some (.tup ((rows.map maskI).map V.int)) := upd_same
  generalize upd (upd H5 l2 (.lst ((rows.map maskI).map V.int))) t2 (.tup ((rows.map maskI).map V.int)) = H6 at s6 gm
  have A6 := (A4.mono s5).mono s6
  have t6 := (t4.trans s5).trans s6
  have gp6 := s6 _ _ (s5 _ _ gp)
  refine ⟨_, rfl, _, rfl, l, _, rfl, .inl (SqL.of A6.lst), _, rfl, _, rfl, szV (by simp), fun t3 n3 => ?_⟩
  refine q t3 _ (t6.trans (Same.new n3)) (t6.free n3) ⟨t1, t2, ?_, (Same.new n3) _ _ gp6, (Same.new n3) _ _ gm⟩
  rw [upd_same, List.length_map, hlen]


theorem sc_iscellsrow : FnScope ["row", "first"] ["row", "first"] (defScope s_iscellsrow) := ⟨rfl, rfl, rfl, by decide +kernel, rfl, by decide +kernel, by decide +kernel⟩
theorem ok_iscellsrow {f : Addr} {fd : FuncData} (D : Df K mg "is_cells_row" s_iscellsrow ["row", "first"] f fd)
    (O_isside : Ow P w K mg base "is_side" ["thing"] 3 spSide)
    (O_iscell : Ow P w K mg base "is_cell" ["thing"] 3 spIsCell) (B : Blt mg) :
    Ow P w K mg base "is_cells_row" ["row", "first"] 4 spRowAny := by
  refine D.ow (D.F.ok sc_iscellsrow (fun vs H Q E h => ?_) (fun cdv A outer s H vs Q E hr h => ?_))
  · obtain ⟨r, f, n, b, rfl, _⟩ := h
    rfl
  obtain ⟨r, f, n, b, rfl, hr1, hf, q⟩ := h
  refine ⟨_, (pss_cons (ps_if (PW.pt (pw_or (pt_not (pt_val (pe_callB call_isi rfl B.f_isinstance boot_isinstance (pa_cons (pv 0) (pa_cons (pe_bltn (v := .ty "list") rfl B.f_list boot_list rfl) pa_nil))))) (pw_or (pt_not (pt_val (pe_own O_isside hr rfl (pa_cons (pe_callB call_len_seq rfl B.f_len boot_len (pa_cons (pv 0) pa_nil)) pa_nil)))) (pw_or1 (pt_cmpR op_ne (pe_callB call_len_seq rfl B.f_len boot_len (pa_cons (pv 0) pa_nil)) (pe_callB call_len_seq rfl B.f_len boot_len (pa_cons (pv 1) pa_nil)) (nomark _)))))) (pss_one (ps_ret pe_bl)) pss_nil)
    (pss_one (ps_ret (pe_callB (call_all rfl) rfl B.f_all boot_all (pa_cons (pe_comp (locs := ["cell"]) (ix := []) rfl (BlkSc.look (dsc := defScope s_iscellsrow) (N := ["row", "first"]) rfl rfl (by decide +kernel)) (pi_list (pv 0)) (fun _ _ _ _ _ _ => (pg_name (i := 0) (by decide +kernel : (["cell"] : List Str).Nodup) rfl (Or.inl rfl))) (fun _ _ _ _ _ _ => pts_nil) (fun _ _ _ _ _ _ => (pe_own O_iscell hr rfl (pa_cons (pv 0) pa_nil)))) pa_nil))))), ?_⟩
  cases hr1 with
  | non hT hne =>
    refine ⟨_, rfl, _, "list", _, rfl, by decide, hT, _, rfl, iteTb (by simp [isiB, hne]) ?_⟩
    exact q _ (Same.refl _)
  | lst hl h200 hty =>
    rename_i a xs
    have hT : tyS H (.ref a) = some "list" := by simp only [tyS, hl]
    rcases hf with ⟨T, e, ne⟩ | ⟨m, ys, rfl, hm, hn⟩
    · rw [hT] at e
      cases e
      exact absurd rfl ne
    refine ⟨_, rfl, _, "list", "list", rfl, by decide, hT, _, rfl, iteFb rfl ?_⟩
    refine ⟨_, rfl, a, _, rfl, .inl (SqL.of hl), _, "int", rfl, rfl, _, rfl, ?_⟩
    by_cases c1 : 1 ≤ xs.length ∧ xs.length ≤ 64
    · refine iteFb ?_ ?_
      · show (!(decide ((1 : Int) ≤ (xs.length : Int)) && decide ((xs.length : Int) ≤ 64))) = false
        rw [decide_eq_true (by omega), decide_eq_true (by omega)]
        rfl
      refine ⟨_, rfl, a, _, rfl, .inl (SqL.of hl), _, rfl, m, _, rfl, .inl (SqL.of hm), rfl, _, rfl, ?_⟩
      by_cases c2 : xs.length = n
      · refine iteFb (by rw [hn, c2]; simp) ?_
        refine ⟨_, rfl, a, rfl, ⟨_, SqL.of hl⟩, ?_⟩
        refine comp_by (n := xs.length) (fun i σ zs H2 => ∃ v, σ = [v] ∧ zs = ((xs.take i).map cellB).map V.bl ∧ H2 = H ∧ i ≤ xs.length) ⟨none, rfl, rfl, rfl, Nat.zero_le _⟩ (Nat.le_of_lt (small1000 (by omega))) ?_ ?_ ?_ ?_ ?_
        · rintro i σ zs H2 ⟨v, _, rfl, _, hi⟩
          rw [List.length_map, List.length_map, List.length_take]
          omega
        · rintro σ zs H2 ⟨v, _, _, rfl, _⟩
          exact ⟨_, SqL.of hl, Nat.le_refl _⟩
        · rintro i σ zs H2 hi ⟨v, _, _, rfl, _⟩
          exact ⟨_, xs[i]'hi, SqL.of hl, List.getElem?_eq_getElem hi⟩
        · rintro i σ zs H2 x H' Z hi ⟨v, rfl, rfl, rfl, _⟩ ⟨rfl, hx⟩ hZ
          have e := hx _ (SqL.of hl)
          rw [List.getElem?_eq_getElem hi] at e
          cases e
          obtain ⟨T, hT⟩ := hty _ (List.getElem_mem hi)
          refine ⟨_, rfl, _, T, rfl, hT, ?_⟩
          refine hZ _ _ _ ⟨_, rfl, ?_, rfl, hi⟩
          rw [List.take_succ, List.getElem?_eq_getElem hi, List.map_append, List.map_append]
          rfl
        · rintro σ zs H2 ⟨v, rfl, rfl, rfl, _⟩ l' hl'
          rw [List.take_length]
          refine ⟨l', _, rfl, SqL.of upd_same, ?_⟩
          have e : (decide (1 ≤ xs.length) && (decide (xs.length ≤ 64) && (decide (xs.length = n) && xs.all cellB))) = (xs.map cellB).all id := by
            rw [decide_eq_true c1.1, decide_eq_true c1.2, decide_eq_true c2, List.all_map]
            rfl
          rw [e] at q
          exact q _ (Same.new hl')
      · refine iteTb ?_ ?_
        · have : V.int (xs.length : Int) ≠ V.int (ys.length : Int) := fun z => by
            injection z with z
            omega
          rw [decide_eq_false this]
          rfl
        have e : (decide (1 ≤ xs.length) && (decide (xs.length ≤ 64) && (decide (xs.length = n) && xs.all cellB))) = false := by
          rw [decide_eq_false c2, Bool.false_and, Bool.and_false, Bool.and_false]
        rw [e] at q
        exact q _ (Same.refl _)
    · refine iteTb ?_ ?_
      · show (!(decide ((1 : Int) ≤ (xs.length : Int)) && decide ((xs.length : Int) ≤ 64))) = true
        by_cases c3 : 1 ≤ xs.length
        · rw [decide_eq_false (p := ((xs.length : Int) ≤ 64)) (by omega), Bool.and_false]
          rfl
        · rw [decide_eq_false (by omega)]
          rfl
      have e : (decide (1 ≤ xs.length) && (decide (xs.length ≤ 64) && (decide (xs.length = n) && xs.all cellB))) = false := by
        by_cases c3 : 1 ≤ xs.length
        · rw [decide_eq_false (p := xs.length ≤ 64) (by omega), Bool.false_and, Bool.and_false]
        · rw [decide_eq_false (by omega), Bool.false_and]
      rw [e] at q
      exact q _ (Same.refl _)
theorem sc_pictured : FnScope ["rows", "number", "row"] ["rows"] (defScope s_pictured) := ⟨rfl, rfl, rfl, by decide +kernel, rfl, by decide +kernel, by decide +kernel⟩
theorem ok_pictured {f : Addr} {fd : FuncData} (D : Df K mg "pictured" s_pictured ["rows"] f fd)
    {c_GlowError c_NoPicture c_NoTable c_NoFont c_NoLine c_NoNote c_NoText c_NoRow : Addr} (Z : Cl K mg c_GlowError c_NoPicture c_NoTable c_NoFont c_NoLine c_NoNote c_NoText c_NoRow)
    (O_isside : Ow P w K mg base "is_side" ["thing"] 3 spSide)
    (O_iscellsrow : Ow P w K mg base "is_cells_row" ["row", "first"] 4 spRowAny)
    (O_packed : Ow P w K mg base "packed" ["wide", "rows"] 2 spPk)
    (E_NoPicture : Oe P w K mg base "NoPicture" c_NoPicture ["self", "row"] 1 (spE1 c_NoPicture "row")) (B : Blt mg) :
    Ow2 P w K mg base "pictured" ["rows"] 5 (spPicE c_NoPicture) := by
  refine D.ow2 (D.F.ok2 sc_pictured (fun vs H Q E h => ?_) (fun cdv A outer s H vs Q E hr h => ?_))
  · obtain ⟨v, f, rfl, _⟩ := h
    rfl
  obtain ⟨v, f, rfl, hF, q1, q2⟩ := h
  refine ⟨_, (pss_cons (ps_if (PW.pt (pw_or (pt_not (pt_val (pe_callB call_isi rfl B.f_isinstance boot_isinstance (pa_cons (pv 0) (pa_cons (pe_bltn (v := .ty "list") rfl B.f_list boot_list rfl) pa_nil))))) (pw_or1 (pt_not (pt_val (pe_own O_isside hr rfl (pa_cons (pe_callB call_len_seq rfl B.f_len boot_len (pa_cons (pv 0) pa_nil)) pa_nil))))))) (pss_one (ps_raiseE raises2 rfl E_NoPicture hr rfl (pa_cons pe_non pa_nil))) pss_nil)
    (pss_cons (ps_for PassesOwn.leaving rfl (pi_enum rfl B.f_enumerate (pa_cons (pv 0) pa_nil)) (pg_tup (n := 2) rfl (pgs_cons (pg_name (i := 1) sc_pictured.nd rfl (Or.inl rfl)) (pgs_cons (pg_name (i := 2) sc_pictured.nd rfl (Or.inl rfl)) pgs_nil))) (pss_one (ps_if (pt_not (pt_val (pe_own O_iscellsrow hr rfl (pa_cons (pv 2) (pa_cons (pe_ix ix_list (pv 0) pe_int (fun _ _ => rfl)) pa_nil))))) (pss_one (ps_raiseE raises2 rfl E_NoPicture hr rfl (pa_cons (pv 1) pa_nil))) pss_nil)))
    (pss_one (ps_ret (pe_own O_packed hr rfl (pa_cons (pe_callB call_len_seq rfl B.f_len boot_len (pa_cons (pe_ix ix_list (pv 0) pe_int (fun _ _ => rfl)) pa_nil)) (pa_cons (pv 0) pa_nil))))))), ?_⟩
  have raise0 : ∀ H2, Same H H2 → ∀ z, f = some z → FmtV z → ∀ x, H2 x = none → spE1 c_NoPicture "row" [.ref x, z] (upd H2 x (.ext (ErrO x c_NoPicture none))) (fun v H3 => v = .non ∧ ∃ d, H3 x = some (.ext (ErrO x c_NoPicture d)) ∧ E (.ref c_NoPicture) d (del H3 x)) E0 := fun H2 s2 z ez hz x nx =>
    ⟨x, z, rfl, upd_same, hz, fun d nd hd => by
      obtain ⟨g1, g2, g3⟩ := raised_err (fs := [("row", z)]) nx nd hd
      exact ⟨rfl, some d, g1, q2 z d _ ez (s2.trans g2) g3⟩⟩
  rcases hF.scan with ⟨ef, hb⟩ | ⟨l, vs, n, r0, k, rfl, hl, n1, n2, h0, h1, hg, hk⟩
  · subst ef
    rcases hb with ⟨T, hT, hne⟩ | ⟨l, vs, rfl, hl, hn⟩
    · refine ⟨_, rfl, _, "list", _, rfl, by decide, hT, _, rfl, iteTb (by simp [isiB, hne]) ?_⟩
      exact ⟨by decide, raise0 H (Same.refl _) _ rfl trivial⟩
    · have hT : tyS H (.ref l) = some "list" := by simp only [tyS, hl]
      refine ⟨_, rfl, _, "list", "list", rfl, by decide, hT, _, rfl, iteFb rfl ?_⟩
      refine ⟨_, rfl, l, _, rfl, .inl (SqL.of hl), _, "int", rfl, rfl, _, rfl, iteTb ?_ ?_⟩
      · show (!(decide ((1 : Int) ≤ (vs.length : Int)) && decide ((vs.length : Int) ≤ 64))) = true
        by_cases c3 : 1 ≤ vs.length
        · rw [decide_eq_false (p := ((vs.length : Int) ≤ 64)) (by omega), Bool.and_false]
          rfl
        · rw [decide_eq_false (by omega)]
          rfl
      · exact ⟨by decide, raise0 H (Same.refl _) _ rfl trivial⟩
  · have hT : tyS H (.ref l) = some "list" := by simp only [tyS, hl]
    refine ⟨_, rfl, _, "list", "list", rfl, by decide, hT, _, rfl, iteFb rfl ?_⟩
    refine ⟨_, rfl, l, _, rfl, .inl (SqL.of hl), _, "int", rfl, rfl, _, rfl, iteFb ?_ ?_⟩
    · show (!(decide ((1 : Int) ≤ (vs.length : Int)) && decide ((vs.length : Int) ≤ 64))) = false
      rw [decide_eq_true (by omega), decide_eq_true (by omega)]
      rfl
    refine ⟨_, rfl, l, rfl, ⟨_, SqL.of hl⟩, ?_⟩
    refine for_enum (K := K) (a := l) (xs := vs) (fun i σ H2 => ∃ v w, σ = [some (.ref l), v, w] ∧ Same H H2 ∧ i ≤ k) ⟨none, none, rfl, Same.refl _, Nat.zero_le _⟩ (fun i σ H2 _ ⟨_, _, _, s, _⟩ => SqL.of (s _ _ hl)) ?_ ?_
    · rintro i x σ H2 T hi ⟨v, w, rfl, s2, hik⟩ nT
      have hil : i < vs.length := (List.getElem?_eq_some_iff.mp hi).1
      have s3 : Same H2 (upd H2 T (.tup [.int i, x])) := Same.new nT
      have t3 := s2.trans s3
      have e0 : atI vs 0 = some r0 := atI_nat (j := 0) h0
      have hfo := first_ok h0 h1 hg hik hi
      refine ⟨T, _, rfl, SqT.of upd_same, rfl, _, _, rfl, _, _, rfl, rfl, ?_⟩
      have hfo3 : (∃ T', tyS (upd H2 T (.tup [.int i, x])) x = some T' ∧ T' ≠ "list") ∨ ∃ m ys, r0 = .ref m ∧ (upd H2 T (.tup [.int i, x])) m = some (.lst ys) ∧ ys.length = n := by
        rcases hfo with ⟨T', a1, a2⟩ | ⟨m, ys, a1, a2, a3⟩
        · exact .inl ⟨T', tyS_stay t3 a1, a2⟩
        · exact .inr ⟨m, ys, a1, t3 _ _ a2, a3⟩
      by_cases hlt : i < k
      · refine ⟨_, rfl, _, rfl, l, _, 0, _, rfl, rfl, SqL.of (t3 _ _ hl), e0, x, r0, n, true, rfl, (hg i x hlt hi).mono t3, hfo3, fun H4 s4 => ?_⟩
        refine ⟨_, rfl, iteF ?_⟩
        exact ⟨_, _, rfl, t3.trans s4, hlt⟩
      · have eik : i = k := by omega
        subst eik
        rcases hk with ⟨k1, k2, k3⟩ | ⟨k1, _⟩
        · refine ⟨_, rfl, _, rfl, l, _, 0, _, rfl, rfl, SqL.of (t3 _ _ hl), e0, x, r0, n, false, rfl, (k2 x hi).mono t3, hfo3, fun H4 s4 => ?_⟩
          refine ⟨_, rfl, iteT ?_⟩
          refine ⟨_, rfl, (by show 1 ≤ 1000; decide), raise0 H4 (t3.trans s4) _ k3 ?_⟩
          show (i : Int).natAbs.log2 < 1920
          rw [Int.natAbs_natCast]
          have := Nat.log2_le_self i
          omega
        · omega
    · rintro σ H2 ⟨v, w, rfl, s2, hik⟩
      rcases hk with ⟨k1, _⟩ | ⟨k1, k2, ps, rows, wd, hg', rfl, RA, R⟩
      · omega
      have A2 := RA.mono s2
      obtain ⟨p0, e0, g0⟩ := A2.atI R.ne
      have hw0 := (R.row0 R.ne).1
      refine ⟨_, rfl, l, _, 0, _, rfl, rfl, SqL.of A2.lst, e0, p0, _, rfl, .inl (SqL.of g0), ?_⟩
      rw [List.length_map, hw0]
      exact ⟨_, rfl, l, ps, rows, wd, hg', rfl, A2, R, fun p H3 s3 n3 PC => q1 l ps rows wd hg' p H3 rfl k2 RA R (s2.trans s3) PC⟩
theorem sc_lawnocell : FnScope ["_law_script", "_law_k", "_law_far", "_law_some"] ["_law_script", "_law_k"] (defScope s_lawnocell) := ⟨rfl, rfl, rfl, by decide +kernel, rfl, by decide +kernel, by decide +kernel⟩
theorem ok_lawnocell {f : Addr} {fd : FuncData} (D : Df K mg "_law_no_cell" s_lawnocell ["_law_script", "_law_k"] f fd)
    (O_lawdraw : Ow P w K mg base "_law_draw" ["_law_script", "_law_k", "_law_many"] 1 (spDraw K))
    (O_lawgreat : Ow P w K mg base "_law_great" ["_law_script", "_law_k", "_law_many"] 1 (spDraw K)) (B : Blt mg) :
    Ow P w K mg base "_law_no_cell" ["_law_script", "_law_k"] 2 (spNoCell K) := by
  refine D.ow (D.F.ok sc_lawnocell (fun vs H Q E h => ?_) (fun cdv A outer s H vs Q E hr h => ?_))
  · obtain ⟨a, ns, k, rfl, _⟩ := h
    rfl
  obtain ⟨a, ns, k, rfl, hS, k0, k1, q⟩ := h
  refine ⟨_, (@pss_cons _ _ _ _ _ (ps_set (i := 2) sc_lawnocell.nd rfl (Or.inl rfl) (pe_own O_lawgreat hr rfl (@pa_cons _ _ _ _ _ (pv 0) (@pa_cons _ _ _ _ _ (pv 1) (@pa_cons _ _ _ _ _ (pe_op op_sub (pe_op op_pow pe_int pe_int) pe_int) pa_nil (by rfl)) (by rfl)) (by rfl)))) (@pss_cons _ _ _ _ _ (ps_set (i := 3) sc_lawnocell.nd rfl (Or.inl rfl) (@pe_lst _ _ _ _ (@pa_cons _ _ _ _ _ pe_bl (@pa_cons _ _ _ _ _ pe_bl (@pa_cons _ _ _ _ _ pe_int (@pa_cons _ _ _ _ _ (pe_un un_neg pe_int) (@pa_cons _ _ _ _ _ (pe_op op_add pe_int (pv 2)) (@pa_cons _ _ _ _ _ (pe_op op_sub (pe_un un_neg pe_int) (pv 2)) (@pa_cons _ _ _ _ _ pe_str (@pa_cons _ _ _ _ _ pe_str (@pa_cons _ _ _ _ _ (@pe_lst _ _ _ _ (@pa_cons _ _ _ _ _ pe_int pa_nil (by rfl))) (@pa_cons _ _ _ _ _ (pe_tup (@pa_cons _ _ _ _ _ pe_int pa_nil (by rfl))) (@pa_cons _ _ _ _ _ (pe_disp (pps_cons pe_int pe_int pps_nil) rfl rfl (by simp) (by decide)) (@pa_cons _ _ _ _ _ (@pe_lst _ _ _ _ pa_nil) (@pa_cons _ _ _ _ _ (pe_tup pa_nil) pa_nil (by rfl)) (by rfl)) (by rfl)) (by rfl)) (by rfl)) (by rfl)) (by rfl)) (by rfl)) (by rfl)) (by rfl)) (by rfl)) (by rfl)) (by rfl)))) (@pss_one _ _ _ (ps_ret (pe_ix ix_list (pv 3) (pe_own O_lawdraw hr rfl (@pa_cons _ _ _ _ _ (pv 0) (@pa_cons _ _ _ _ _ (pe_op op_add (pv 1) pe_int) (@pa_cons _ _ _ _ _ pe_int pa_nil (by rfl)) (by rfl)) (by rfl))) (fun _ _ => rfl)))))), ?_⟩
  walk_at "rs"
  refine ⟨a, ns, k, _, rfl, hS, k0, by omega, (by decide), fun z z0 z1 => ?_⟩
  walk_at "rs"
  intro p1 n1
  have s1 : Same H (upd H p1 (.lst [.int 3])) := Same.new n1
  have t1 := ty_lst (H := H) (p := p1) (xs := [.int 3])
  generalize upd H p1 (.lst [.int 3]) = H1 at s1 t1 ⊢
  refine ⟨szV (by simp), fun p2 n2 => ?_⟩
  have s2 : Same H1 (upd H1 p2 (.tup [.int 3])) := Same.new n2
  have t2 := ty_tup (H := H1) (p := p2) (xs := [.int 3])
  generalize upd H1 p2 (.tup [.int 3]) = H2 at s2 t2 ⊢
  intro p3 n3
  refine ⟨upd_same, [(.inl 3, .int 3)], rfl, by show 1 ≤ 15; decide, ?_⟩
  have s3 : Same H2 (upd (upd H2 p3 (.dK [])) p3 (.dK (mergeK [] [(.inl 3, .int 3)]))) := updTwo n3
  have t3 := ty_dK (H := upd H2 p3 (.dK [])) (p := p3) (kvs := mergeK [] [(.inl 3, .int 3)])
  generalize upd (upd H2 p3 (.dK [])) p3 (.dK (mergeK [] [(.inl 3, .int 3)])) = H3 at s3 t3 ⊢
  refine ⟨szV (by simp), fun p4 n4 => ?_⟩
  have s4 : Same H3 (upd H3 p4 (.lst [])) := Same.new n4
  have t4 := ty_lst (H := H3) (p := p4) (xs := [])
  generalize upd H3 p4 (.lst []) = H4 at s4 t4 ⊢
  refine ⟨szV (by simp), fun p5 n5 => ?_⟩
  have s5 : Same H4 (upd H4 p5 (.tup [])) := Same.new n5
  have t5 := ty_tup (H := H4) (p := p5) (xs := [])
  generalize upd H4 p5 (.tup []) = H5 at s5 t5 ⊢
  refine ⟨szV (by simp), fun p6 n6 => ?_⟩
  have s6 : ∀ o, Same H (upd H5 p6 o) := fun o => ((((s1.trans s2).trans s3).trans s4).trans s5).trans (Same.new n6)
  have hall : ∀ x ∈ [V.bl true, .bl false, .int 16, .int (-1), .int (16 + z), .int (-1 - z), .str "1", .str "", .ref p1, .ref p2, .ref p3, .ref p4, .ref p5], ∃ T, tyS H5 x = some T := by
    intro x hx
    simp only [List.mem_cons, List.not_mem_nil, or_false] at hx
    have q5 := s5
    have q4 := s4.trans q5
    have q3 := s3.trans q4
    have q2 := s2.trans q3
    rcases hx with rfl | rfl | rfl | rfl | rfl | rfl | rfl | rfl | rfl | rfl | rfl | rfl | rfl
    · exact ⟨_, rfl⟩
    · exact ⟨_, rfl⟩
    · exact ⟨_, rfl⟩
    · exact ⟨_, rfl⟩
    · exact ⟨_, rfl⟩
    · exact ⟨_, rfl⟩
    · exact ⟨_, rfl⟩
    · exact ⟨_, rfl⟩
    · exact ⟨_, tyS_stay q2 t1⟩
    · exact ⟨_, tyS_stay q3 t2⟩
    · exact ⟨_, tyS_stay q4 t3⟩
    · exact ⟨_, tyS_stay q5 t4⟩
    · exact ⟨_, t5⟩
  walk_at "rs"
  refine ⟨a, ns, _, _, rfl, (s6 _).seq hS, by omega, by omega, (by decide), fun r r0 r1 => ?_⟩
  obtain ⟨v, T, e, hT⟩ := ty_in hall r0 (by show r < 13; exact r1)
  exact ⟨p6, _, r, v, rfl, rfl, SqL.of upd_same, e, q v T _ (s6 _) (tyS_stay (Same.new n6) hT)⟩
theorem sc_lawnorow : FnScope ["_law_script", "_law_k", "_law_row", "_law_some"] ["_law_script", "_law_k", "_law_row"] (defScope s_lawnorow) := ⟨rfl, rfl, rfl, by decide +kernel, rfl, by decide +kernel, by decide +kernel⟩
theorem ok_lawnorow {f : Addr} {fd : FuncData} (D : Df K mg "_law_no_row" s_lawnorow ["_law_script", "_law_k", "_law_row"] f fd)
    (O_lawdraw : Ow P w K mg base "_law_draw" ["_law_script", "_law_k", "_law_many"] 1 (spDraw K)) (B : Blt mg) :
    Ow P w K mg base "_law_no_row" ["_law_script", "_law_k", "_law_row"] 2 (spNoRow K) := by
  refine D.ow (D.F.ok sc_lawnorow (fun vs H Q E h => ?_) (fun cdv A outer s H vs Q E hr h => ?_))
  · obtain ⟨a, ns, k, l, xs, rfl, _⟩ := h
    rfl
  obtain ⟨a, ns, k, l, xs, rfl, hS, k0, k1, hl, hx, q⟩ := h
  refine ⟨_, (pss_cons (ps_set (i := 3) sc_lawnorow.nd rfl (Or.inl rfl) (pe_lst (pa_cons pe_non (pa_cons pe_int (pa_cons pe_bl (pa_cons pe_str (pa_cons pe_str (pa_cons (pe_callTy call_tuple_of rfl B.f_tuple boot_tuple (pa_cons (pv 2) pa_nil)) (pa_cons (pe_disp (pps_cons pe_int pe_int pps_nil) rfl rfl (by simp) (by decide)) (pa_cons (pe_lst pa_nil) (pa_cons (pe_op op_rep (pe_lst (pa_cons pe_int pa_nil)) pe_int) (pa_cons (pe_op op_cat (pe_op op_rep (pe_lst (pa_cons pe_non pa_nil)) pe_int) (pe_lst (pa_cons pe_int pa_nil))) pa_nil))))))))))))
    (pss_one (ps_ret (pe_ix ix_list (pv 3) (pe_own O_lawdraw hr rfl (pa_cons (pv 0) (pa_cons (pv 1) (pa_cons pe_int pa_nil)))) (fun _ _ => rfl))))), ?_⟩
  walk_at "rs"
  refine ⟨l, xs, rfl, .inl ⟨SqL.of hl, fun p1 n1 => ?_⟩⟩
  have s1 : Same H (upd H p1 (.tup xs)) := Same.new n1
  have t1 := ty_tup (H := H) (p := p1) (xs := xs)
  generalize upd H p1 (.tup xs) = H1 at s1 t1 ⊢
  intro p2 n2
  refine ⟨upd_same, [(.inl 0, .int 1)], rfl, by show 1 ≤ 15; decide, ?_⟩
  have s2 : Same H1 (upd (upd H1 p2 (.dK [])) p2 (.dK (mergeK [] [(.inl 0, .int 1)]))) := updTwo n2
  have t2 := ty_dK (H := upd H1 p2 (.dK [])) (p := p2) (kvs := mergeK [] [(.inl 0, .int 1)])
  generalize upd (upd H1 p2 (.dK [])) p2 (.dK (mergeK [] [(.inl 0, .int 1)])) = H2 at s2 t2 ⊢
  refine ⟨szV (by simp), fun p3 n3 => ?_⟩
  have s3 : Same H2 (upd H2 p3 (.lst [])) := Same.new n3
  have t3 : (upd H2 p3 (.lst [])) p3 = some (.lst []) := upd_same
  generalize upd H2 p3 (.lst []) = H3 at s3 t3 ⊢
  refine ⟨szV (by simp), fun p4 n4 => ?_⟩
  refine ⟨p4, 65, _, rfl, rfl, upd_same, by decide, by decide, (by show 1 * 65 ≤ sizeLine; decide), fun p5 n5 => ?_⟩
  have s5 : Same H3 (upd (upd H3 p4 (.lst [.int 1])) p5 (.lst (List.replicate 65 (V.int 1)))) := (Same.new n4).trans (Same.new n5)
  have t5 : (upd (upd H3 p4 (.lst [.int 1])) p5 (.lst (List.replicate 65 (V.int 1)))) p5 = some (.lst (List.replicate 65 (V.int 1))) := upd_same
  rw [show (List.replicate (Int.toNat 65) [V.int 1]).flatten = List.replicate 65 (V.int 1) from flat_one _ _]
  generalize upd (upd H3 p4 (.lst [.int 1])) p5 (.lst (List.replicate 65 (V.int 1))) = H5 at s5 t5 ⊢
  refine ⟨szV (by simp), fun p6 n6 => ?_⟩
  refine ⟨p6, 64, _, rfl, rfl, upd_same, by decide, by decide, (by show 1 * 64 ≤ sizeLine; decide), fun p7 n7 => ?_⟩
  have s7 : Same H5 (upd (upd H5 p6 (.lst [.non])) p7 (.lst (List.replicate 64 V.non))) := (Same.new n6).trans (Same.new n7)
  have t7 : (upd (upd H5 p6 (.lst [.non])) p7 (.lst (List.replicate 64 V.non))) p7 = some (.lst (List.replicate 64 V.non)) := upd_same
  rw [show (List.replicate (Int.toNat 64) [V.non]).flatten = List.replicate 64 V.non from flat_one _ _]
  generalize upd (upd H5 p6 (.lst [.non])) p7 (.lst (List.replicate 64 V.non)) = H7 at s7 t7 ⊢
  refine ⟨szV (by simp), fun p8 n8 => ?_⟩
  refine ⟨p7, p8, _, _, rfl, rfl, (Same.new n8) _ _ t7, upd_same, (by rw [List.length_replicate]; show 64 + 1 ≤ sizeLine; decide), fun p9 n9 => ?_⟩
  have s9 : Same H7 (upd (upd H7 p8 (.lst [.int 1])) p9 (.lst (List.replicate 64 V.non ++ [.int 1]))) := (Same.new n8).trans (Same.new n9)
  have t9 : (upd (upd H7 p8 (.lst [.int 1])) p9 (.lst (List.replicate 64 V.non ++ [.int 1]))) p9 = some (.lst (List.replicate 64 V.non ++ [.int 1])) := upd_same
  generalize upd (upd H7 p8 (.lst [.int 1])) p9 (.lst (List.replicate 64 V.non ++ [.int 1])) = H9 at s9 t9 ⊢
  refine ⟨szV (by simp), fun p10 n10 => ?_⟩
  have q9 := s9
  have q7 := s7.trans q9
  have q5 := s5.trans q7
  have q3 := s3.trans q5
  have q2 := s2.trans q3
  have s10 : ∀ o, Same H (upd H9 p10 o) := fun o => (s1.trans q2).trans (Same.new n10)
  have hall : ∀ x ∈ [V.non, .int 3, .bl true, .str "", .str "12", .ref p1, .ref p2, .ref p3, .ref p5, .ref p9], Row 65 H9 x := by
    intro x hx
    simp only [List.mem_cons, List.not_mem_nil, or_false] at hx
    rcases hx with rfl | rfl | rfl | rfl | rfl | rfl | rfl | rfl | rfl | rfl
    · exact .inl ⟨_, rfl, by decide⟩
    · exact .inl ⟨_, rfl, by decide⟩
    · exact .inl ⟨_, rfl, by decide⟩
    · exact .inl ⟨_, rfl, by decide⟩
    · exact .inl ⟨_, rfl, by decide⟩
    · exact .inl ⟨_, tyS_stay q2 t1, by decide⟩
    · exact .inl ⟨_, tyS_stay q3 t2, by decide⟩
    · exact .inr ⟨p3, [], rfl, q5 _ _ t3, by decide, fun _ h => nomatch h⟩
    · exact .inr ⟨p5, _, rfl, q7 _ _ t5, by rw [List.length_replicate]; decide, fun y hy => by rw [List.eq_of_mem_replicate hy]; exact ⟨_, rfl⟩⟩
    · refine .inr ⟨p9, _, rfl, t9, by rw [List.length_append, List.length_replicate]; decide, fun y hy => ?_⟩
      rcases List.mem_append.mp hy with h | h
      · rw [List.eq_of_mem_replicate h]
        exact ⟨_, rfl⟩
      · rw [List.mem_singleton.mp h]
        exact ⟨_, rfl⟩
  refine ⟨_, rfl, _, rfl, _, rfl, a, ns, _, _, rfl, (s10 _).seq hS, by omega, by omega, (by decide), fun r r0 r1 => ?_⟩
  obtain ⟨v, e, m⟩ := at_some (xs := [V.non, .int 3, .bl true, .str "", .str "12", .ref p1, .ref p2, .ref p3, .ref p5, .ref p9]) r0 (by show r < 10; exact r1)
  exact ⟨p10, _, r, v, rfl, rfl, SqL.of upd_same, e, q v _ (s10 _) ((hall v m).mono (Same.new n10) (Nat.le_refl _))⟩
theorem sc_lawspoiled : FnScope ["_law_script", "_law_k", "_law_rows_here", "_law_made", "_law_at", "_law_way", "_law_place"] ["_law_script", "_law_k", "_law_rows_here"] (defScope s_lawspoiled) := ⟨rfl, rfl, rfl, by decide +kernel, rfl, by decide +kernel, by decide +kernel⟩
theorem ok_lawspoiled {f : Addr} {fd : FuncData} (D : Df K mg "_law_spoiled" s_lawspoiled ["_law_script", "_law_k", "_law_rows_here"] f fd)
    (O_lawdraw : Ow P w K mg base "_law_draw" ["_law_script", "_law_k", "_law_many"] 1 (spDraw K))
    (O_lawnocell : Ow P w K mg base "_law_no_cell" ["_law_script", "_law_k"] 2 (spNoCell K))
    (O_lawnorow : Ow P w K mg base "_law_no_row" ["_law_script", "_law_k", "_law_row"] 2 (spNoRow K)) (B : Blt mg) :
    Ow P w K mg base "_law_spoiled" ["_law_script", "_law_k", "_law_rows_here"] 3 (spSpoiled K) := by
  refine D.ow (D.F.ok sc_lawspoiled (fun vs H Q E h => ?_) (fun cdv A outer s H vs Q E hr h => ?_))
  · obtain ⟨a, ns, k, l, rs, N, rfl, _⟩ := h
    rfl
  obtain ⟨a, ns, k, l, rs, N, rfl, hS, k0, k1, hl, n1, n2, N1, N2, hR, q⟩ := h
  refine ⟨_, (pss_cons (ps_comp (i := 3) (locs := ["_law_row"]) (ix := []) rfl sc_lawspoiled.nd rfl rfl (BlkSc.look (dsc := defScope s_lawspoiled) (N := ["_law_script", "_law_k", "_law_rows_here", "_law_made", "_law_at", "_law_way", "_law_place"]) rfl rfl (by decide +kernel)) (pi_list (pv 2)) (fun _ _ _ _ _ _ => (pg_name (i := 0) (by decide +kernel : (["_law_row"] : List Str).Nodup) rfl (Or.inl rfl))) (fun _ _ _ _ _ _ => pts_nil) (fun _ _ _ _ _ _ => (pe_ifExp (pt_not (pt_val (pe_callB call_isi rfl B.f_isinstance boot_isinstance (pa_cons (pv 0) (pa_cons (pe_bltn (v := .ty "list") rfl B.f_list boot_list rfl) pa_nil))))) (pv 0) (pe_callTy call_listB rfl B.f_list boot_list (pa_cons (pv 0) pa_nil)))) rfl)
    (pss_cons (ps_set (i := 4) sc_lawspoiled.nd rfl (Or.inl rfl) (pe_own O_lawdraw hr rfl (pa_cons (pv 0) (pa_cons (pv 1) (pa_cons (pe_callB call_len_seq rfl B.f_len boot_len (pa_cons (pv 3) pa_nil)) pa_nil)))))
    (pss_cons (ps_set (i := 5) sc_lawspoiled.nd rfl (Or.inl rfl) (pe_own O_lawdraw hr rfl (pa_cons (pv 0) (pa_cons (pe_op op_add (pv 1) pe_int) (pa_cons pe_int pa_nil)))))
    (pss_cons (ps_if (PW.pt (pw_or (pt_cmpR op_eq (pv 5) pe_int (nomark _)) (pw_or (pt_not (pt_val (pe_callB call_isi rfl B.f_isinstance boot_isinstance (pa_cons (pe_ix ix_list (pv 3) (pv 4) (fun _ _ => rfl)) (pa_cons (pe_bltn (v := .ty "list") rfl B.f_list boot_list rfl) pa_nil))))) (pw_or1 (pt_cmpR (op_eqE (hu_of hr)) (pe_ix ix_list (pv 3) (pv 4) (fun _ _ => rfl)) (pe_lst pa_nil) (nomark _)))))) (pss_cons (ps_asg (pe_own O_lawnorow hr rfl (pa_cons (pv 0) (pa_cons (pe_op op_add (pv 1) pe_int) (pa_cons (pe_lst (pa_cons pe_int (pa_cons pe_non pa_nil))) pa_nil)))) (pg_sub (pv 3) (pv 4) set_list))
    (pss_one (ps_ret (pv 3)))) pss_nil)
    (pss_cons (ps_set (i := 6) sc_lawspoiled.nd rfl (Or.inl rfl) (pe_own O_lawdraw hr rfl (pa_cons (pv 0) (pa_cons (pe_op op_add (pv 1) pe_int) (pa_cons (pe_callB call_len_seq rfl B.f_len boot_len (pa_cons (pe_ix ix_list (pv 3) (pv 4) (fun _ _ => rfl)) pa_nil)) pa_nil)))))
    (pss_cons (ps_if (pt_cmpR op_eq (pv 5) pe_int (nomark _)) (pss_one (ps_expr (pe_bm PySem.F.plainAttrs_list PySem.F.slot_list_insert PySem.F.type_list_insert mt_insert (pe_ix ix_list (pv 3) (pv 4) (fun _ _ => rfl)) (pa_cons (pv 6) (pa_cons pe_int pa_nil))))) (pss_one (ps_if (pt_cmpR op_eq (pv 5) pe_int (nomark _)) (pss_one (ps_expr (pe_bm PySem.F.plainAttrs_list PySem.F.slot_list_pop PySem.F.type_list_pop mt_popAt (pe_ix ix_list (pv 3) (pv 4) (fun _ _ => rfl)) (pa_cons (pv 6) pa_nil)))) (pss_one (ps_asg (pe_own O_lawnocell hr rfl (pa_cons (pv 0) (pa_cons (pe_op op_add (pv 1) pe_int) pa_nil))) (pg_sub (pe_ix ix_list (pv 3) (pv 4) (fun _ _ => rfl)) (pv 6) set_list))))))
    (pss_one (ps_ret (pv 3))))))))), ?_⟩
  walk_at "rs"
  refine ⟨⟨_, SqL.of hl⟩, ?_⟩
  refine comp_by (n := rs.length) (fun i σ zs H2 => ∃ v, σ = [v] ∧ zs.length = i ∧ Same H H2 ∧ ∀ z ∈ zs, RowF N H H2 z) ⟨none, rfl, rfl, Same.refl _, (fun _ h => nomatch h)⟩ (Nat.le_of_lt (small1000 (by omega))) ?_ ?_ ?_ ?_ ?_
  · rintro i σ zs H2 ⟨v, _, hz, _⟩
    exact hz
  · rintro σ zs H2 ⟨v, _, _, s2, _⟩
    exact ⟨_, SqL.of (s2 _ _ hl), Nat.le_refl _⟩
  · rintro i σ zs H2 hi ⟨v, _, _, s2, _⟩
    exact ⟨_, rs[i]'hi, SqL.of (s2 _ _ hl), List.getElem?_eq_getElem hi⟩
  · rintro i σ zs H2 x H' Z hi ⟨v, rfl, hz, s2, hF⟩ ⟨rfl, hx⟩ hZ
    have e := hx _ (SqL.of (s2 _ _ hl))
    rw [List.getElem?_eq_getElem hi] at e
    cases e
    have hr := hR _ (List.getElem_mem hi)
    generalize rs[i]'hi = r at hr
    have add : ∀ z H3, Same H' H3 → RowF N H H3 z → ∀ y ∈ zs ++ [z], RowF N H H3 y := fun z H3 s3 hz y hy => by
      rcases List.mem_append.mp hy with h | h
      · exact (hF y h).mono s3
      · rw [List.mem_singleton.mp h]
        exact hz
    rcases hr with ⟨T, h1, h2⟩ | ⟨a', xs, rfl, h1, h2, h3⟩
    · refine ⟨_, rfl, _, "list", T, rfl, by decide, tyS_stay s2 h1, _, rfl, iteTb (by simp [isiB, h2]) ?_⟩
      refine ⟨_, rfl, hZ _ _ _ ⟨_, rfl, by rw [List.length_append, hz]; rfl, s2, add _ _ (Same.refl _) (.inl ⟨T, tyS_stay s2 h1, h2⟩)⟩⟩
    · have g := s2 _ _ h1
      refine ⟨_, rfl, _, "list", "list", rfl, by decide, by simp only [tyS, g], _, rfl, iteFb rfl ?_⟩
      refine ⟨_, rfl, a', xs, rfl, .inl (SqL.of g), fun l2 n2 => ?_⟩
      exact hZ _ _ _ ⟨_, rfl, by rw [List.length_append, hz]; rfl, s2.trans (Same.new n2), add _ _ (Same.new n2) (.inr ⟨l2, xs, rfl, s2.free n2, upd_same, h2, fun x hx => let ⟨T, h⟩ := h3 x hx; ⟨T, tyS_stay (s2.trans (Same.new n2)) h⟩⟩)⟩
  rintro σ zs H2 ⟨v, rfl, hz, s2, hF⟩ l' nl
  have fl : H l' = none := s2.free nl
  have s3 : Same H (upd H2 l' (.lst zs)) := s2.trans (Same.new nl)
  have g3 : (upd H2 l' (.lst zs)) l' = some (.lst zs) := upd_same
  have F3 : ∀ z ∈ zs, RowF N H (upd H2 l' (.lst zs)) z := fun z h => (hF z h).mono (Same.new nl)
  have F4 : ∀ z ∈ zs, z ≠ .ref l' := fun z h => (hF z h).ne nl
  generalize upd H2 l' (.lst zs) = H3 at s3 g3 F3 ⊢
  clear hF
  walk_at "rs"
  refine ⟨l', _, rfl, .inl (SqL.of g3), a, ns, k, _, rfl, s3.seq hS, k0, by omega, by show (0 : Int) < (zs.length : Int); omega, fun r r0 r1 => ?_⟩
  obtain ⟨z, ez, hzm⟩ := at_some r0 r1
  have hzr := F3 z hzm
  walk_at "rs"
  refine ⟨a, ns, _, _, rfl, s3.seq hS, by omega, by omega, (by decide), fun w0 w1 w2 => ?_⟩
  walk_at "rs"
  refine iteD (fun c0 => ?_) (fun c0 => ?_)
  · refine iteTb rfl ?_
    walk_at "rs"
    intro p1 n1
    have u5 := (Same.refl H3).trans (Same.new (o := .lst [.int 1, .non]) n1)
    refine ⟨a, ns, _, p1, _, rfl, (s3.trans u5).seq hS, by omega, by omega, upd_same, by show 2 ≤ 200; decide, fun x H5 s5 hx => ?_⟩
    have u6 := u5.trans s5
    obtain ⟨f1, f2⟩ := spoil_set (j := r.toNat) (s3.trans u6) fl (u6 _ _ g3) (fun z h => (F3 z h).mono u6) N1 (by omega) hx
    refine ⟨_, rfl, _, rfl, l', zs, r, r.toNat, rfl, rfl, u6 _ _ g3, ixN_of r0 r1, ?_⟩
    exact ⟨_, rfl, q l' _ _ f1 upd_same (by rw [List.length_set]; omega) (by rw [List.length_set]; omega) f2⟩
  refine ⟨_, rfl, _, rfl, l', _, r, _, rfl, rfl, SqL.of g3, ez, ?_⟩
  rcases hzr with ⟨T, h1, h2⟩ | ⟨a', xs, rfl, h0, h1, h2, h3⟩
  · refine ⟨_, "list", T, rfl, by decide, h1, _, rfl, iteTb (by simp [isiB, h2]) ?_⟩
    refine iteTb rfl ?_
    walk_at "rs"
    intro p1 n1
    have u5 := (Same.refl H3).trans (Same.new (o := .lst [.int 1, .non]) n1)
    refine ⟨a, ns, _, p1, _, rfl, (s3.trans u5).seq hS, by omega, by omega, upd_same, by show 2 ≤ 200; decide, fun x H5 s5 hx => ?_⟩
    have u6 := u5.trans s5
    obtain ⟨f1, f2⟩ := spoil_set (j := r.toNat) (s3.trans u6) fl (u6 _ _ g3) (fun z h => (F3 z h).mono u6) N1 (by omega) hx
    refine ⟨_, rfl, _, rfl, l', zs, r, r.toNat, rfl, rfl, u6 _ _ g3, ixN_of r0 r1, ?_⟩
    exact ⟨_, rfl, q l' _ _ f1 upd_same (by rw [List.length_set]; omega) (by rw [List.length_set]; omega) f2⟩
  refine ⟨_, "list", "list", rfl, by decide, by simp only [tyS, h1], _, rfl, iteFb rfl ?_⟩
  refine ⟨_, rfl, _, rfl, l', _, r, _, rfl, rfl, SqL.of g3, ez, szV (by simp), fun p0 m0 => ?_⟩
  have v4 : Same H3 (upd H3 p0 (.lst [])) := Same.new m0
  have g4 : (upd H3 p0 (.lst [])) p0 = some (.lst []) := upd_same
  generalize upd H3 p0 (.lst []) = H4 at v4 g4 ⊢
  refine ⟨a', p0, xs, rfl, rfl, SqL.of (v4 _ _ h1), SqL.of g4, _, rfl, ?_⟩
  refine iteD (fun c1 => ?_) (fun c1 => ?_)
  · skip
    walk_at "rs"
    intro p1 n1
    have u5 := (v4).trans (Same.new (o := .lst [.int 1, .non]) n1)
    refine ⟨a, ns, _, p1, _, rfl, (s3.trans u5).seq hS, by omega, by omega, upd_same, by show 2 ≤ 200; decide, fun x H5 s5 hx => ?_⟩
    have u6 := u5.trans s5
    obtain ⟨f1, f2⟩ := spoil_set (j := r.toNat) (s3.trans u6) fl (u6 _ _ g3) (fun z h => (F3 z h).mono u6) N1 (by omega) hx
    refine ⟨_, rfl, _, rfl, l', zs, r, r.toNat, rfl, rfl, u6 _ _ g3, ixN_of r0 r1, ?_⟩
    exact ⟨_, rfl, q l' _ _ f1 upd_same (by rw [List.length_set]; omega) (by rw [List.length_set]; omega) f2⟩
  have g3' := v4 _ _ g3
  have h1' := v4 _ _ h1
  have ht' : ∀ x ∈ xs, ∃ T, tyS H4 x = some T := fun x hx => let ⟨T, h⟩ := h3 x hx; ⟨T, tyS_stay v4 h⟩
  have t4 := s3.trans v4
  have F4' : ∀ z ∈ zs, RowF N H H4 z := fun z h => (F3 z h).mono v4
  have hne : l' ≠ a' := fun e => F4 _ hzm (by rw [e])
  walk_at "rs"
  refine ⟨l', _, r, _, rfl, rfl, SqL.of g3', ez, a', _, rfl, .inl (SqL.of h1'), a, ns, _, _, rfl, t4.seq hS, by omega, by omega, by show (0 : Int) < (xs.length : Int); omega, fun b b0 b1 => ?_⟩
  walk_at "rs"
  refine iteD (fun c2 => ?_) (fun c2 => ?_)
  · obtain ⟨f1, f2, f3⟩ := spoil_put (ys := xs.take (min b.toNat xs.length) ++ V.int 4 :: xs.drop (min b.toNat xs.length)) t4 h0 h1' hne g3' F4' (by rw [List.length_append, List.length_cons, List.length_take, List.length_drop]; omega) fun x hx => by
      rcases List.mem_append.mp hx with h | h
      · exact ht' x (List.mem_of_mem_take h)
      · rcases List.mem_cons.mp h with h | h
        · rw [h]
          exact ⟨_, rfl⟩
        · exact ht' x (List.mem_of_mem_drop h)
    refine ⟨_, rfl, _, rfl, l', _, r, _, rfl, rfl, SqL.of g3', ez, .inl ⟨rfl, _, SqL.of h1'⟩, _, rfl, a', xs, b, _, rfl, rfl, h1', b0, ?_, small1000 (by omega), ?_⟩
    · have : (xs.length : Int) < 2 ^ 62 := by
        have h : (1000 : Int) < 2 ^ 62 := by decide
        omega
      omega
    exact ⟨_, rfl, q l' zs _ f1 f2 (by omega) (by omega) f3⟩
  walk_at "rs"
  refine iteD (fun c3 => ?_) (fun c3 => ?_)
  · have hj : b.toNat < xs.length := by omega
    obtain ⟨e1, e2, e3, e4⟩ := ixN_seq (ixN_of b0 b1)
    obtain ⟨f1, f2, f3⟩ := spoil_put (ys := xs.eraseIdx b.toNat) t4 h0 h1' hne g3' F4' (by have := len_erase xs b.toNat; omega) fun x hx => ht' x (List.mem_of_mem_eraseIdx hx)
    have big : (xs.length : Int) < 2 ^ 63 := by
      have h : (1000 : Int) < 2 ^ 63 := by decide
      omega
    refine ⟨_, rfl, _, rfl, l', _, r, _, rfl, rfl, SqL.of g3', ez, .inl ⟨rfl, _, SqL.of h1'⟩, _, rfl, a', xs, b, _, _, rfl, rfl, h1', by omega, by omega, e1, List.getElem?_eq_getElem hj, ?_⟩
    exact ⟨_, rfl, q l' zs _ f1 f2 (by omega) (by omega) f3⟩
  walk_at "rs"
  refine ⟨a, ns, _, rfl, t4.seq hS, by omega, by omega, fun x T H5 s5 hx => ?_⟩
  have t5 := t4.trans s5
  obtain ⟨f1, f2, f3⟩ := spoil_put (ys := xs.set b.toNat x) t5 h0 (s5 _ _ h1') hne (s5 _ _ g3') (fun z h => (F4' z h).mono s5) (by rw [List.length_set]; omega) fun y hy => by
    rcases List.mem_or_eq_of_mem_set hy with h | h
    · obtain ⟨T, h⟩ := ht' y h
      exact ⟨T, tyS_stay s5 h⟩
    · rw [h]
      exact ⟨T, hx⟩
  refine ⟨_, rfl, _, rfl, l', _, r, _, rfl, rfl, SqL.of (s5 _ _ g3'), ez, _, rfl, a', xs, b, _, rfl, rfl, s5 _ _ h1', ixN_of b0 b1, ?_⟩
  exact ⟨_, rfl, q l' zs _ f1 f2 (by omega) (by omega) f3⟩
theorem sc_lawnorows : FnScope ["_law_script", "_law_k", "_law_rows_here", "_law_some"] ["_law_script", "_law_k", "_law_rows_here"] (defScope s_lawnorows) := ⟨rfl, rfl, rfl, by decide +kernel, rfl, by decide +kernel, by decide +kernel⟩
theorem ok_lawnorows {f : Addr} {fd : FuncData} (D : Df K mg "_law_no_rows" s_lawnorows ["_law_script", "_law_k", "_law_rows_here"] f fd)
    (O_lawdraw : Ow P w K mg base "_law_draw" ["_law_script", "_law_k", "_law_many"] 1 (spDraw K)) (B : Blt mg) :
    Ow P w K mg base "_law_no_rows" ["_law_script", "_law_k", "_law_rows_here"] 2 (spNoRows K) := by
  refine D.ow (D.F.ok sc_lawnorows (fun vs H Q E h => ?_) (fun cdv A outer s H vs Q E hr h => ?_))
  · obtain ⟨a, ns, k, l, rs, rfl, _⟩ := h
    rfl
  obtain ⟨a, ns, k, l, rs, rfl, hS, k0, k1, hl, n1, n2, hR, q⟩ := h
  refine ⟨_, (pss_cons (ps_set (i := 3) sc_lawnorows.nd rfl (Or.inl rfl) (pe_lst (pa_cons pe_non (pa_cons (pe_tup pa_nil) (pa_cons pe_str (pa_cons pe_int (pa_cons pe_bl (pa_cons (pe_callTy call_tuple_of rfl B.f_tuple boot_tuple (pa_cons (pv 2) pa_nil)) (pa_cons (pe_lst pa_nil) (pa_cons pe_dnewK (pa_cons (pe_op op_rep (pe_lst (pa_cons (pe_ix ix_list (pv 2) pe_int (fun _ _ => rfl)) pa_nil)) pe_int) (pa_cons (pe_disp (pps_cons pe_int (pe_ix ix_list (pv 2) pe_int (fun _ _ => rfl)) pps_nil) rfl rfl (by simp) (by decide)) pa_nil))))))))))))
    (pss_one (ps_ret (pe_ix ix_list (pv 3) (pe_own O_lawdraw hr rfl (pa_cons (pv 0) (pa_cons (pv 1) (pa_cons pe_int pa_nil)))) (fun _ _ => rfl))))), ?_⟩
  have h0 : rs[0]? = some (rs[0]'(by omega)) := List.getElem?_eq_getElem _
  have e0 : atI rs 0 = some (rs[0]'(by omega)) := atI_nat (j := 0) h0
  have hr0 := hR _ (List.getElem_mem (show 0 < rs.length by omega))
  generalize rs[0]'(by omega) = r0 at h0 e0 hr0
  walk_at "rs"
  intro p1 n1
  have s1 : Same H (upd H p1 (.tup [])) := Same.new n1
  have t1 := ty_tup (H := H) (p := p1) (xs := [])
  generalize upd H p1 (.tup []) = H1 at s1 t1 ⊢
  walk_at "rs"
  refine ⟨l, rs, rfl, .inl ⟨SqL.of (s1 _ _ hl), fun p2 n2 => ?_⟩⟩
  have s2 : Same H1 (upd H1 p2 (.tup rs)) := Same.new n2
  have t2 := ty_tup (H := H1) (p := p2) (xs := rs)
  generalize upd H1 p2 (.tup rs) = H2 at s2 t2 ⊢
  refine ⟨szV (by simp), fun p3 n3 => ?_⟩
  have s3 : Same H2 (upd H2 p3 (.lst [])) := Same.new n3
  have t3 : (upd H2 p3 (.lst [])) p3 = some (.lst []) := upd_same
  generalize upd H2 p3 (.lst []) = H3 at s3 t3 ⊢
  intro p4 n4
  have s4 : Same H3 (upd H3 p4 (.dK [])) := Same.new n4
  have t4 := ty_dK (H := H3) (p := p4) (kvs := [])
  generalize upd H3 p4 (.dK []) = H4 at s4 t4 ⊢
  have u4 := ((s1.trans s2).trans s3).trans s4
  refine ⟨_, rfl, l, _, 0, _, rfl, rfl, SqL.of (u4 _ _ hl), e0, szV (by simp), fun p5 n5 => ?_⟩
  refine ⟨p5, 65, _, rfl, rfl, upd_same, by decide, by decide, (by show 1 * 65 ≤ sizeLine; decide), fun p6 n6 => ?_⟩
  have s6 : Same H4 (upd (upd H4 p5 (.lst [r0])) p6 (.lst (List.replicate 65 r0))) := (Same.new n5).trans (Same.new n6)
  have t6 : (upd (upd H4 p5 (.lst [r0])) p6 (.lst (List.replicate 65 r0))) p6 = some (.lst (List.replicate 65 r0)) := upd_same
  rw [show (List.replicate (Int.toNat 65) [r0]).flatten = List.replicate 65 r0 from flat_one _ _]
  generalize upd (upd H4 p5 (.lst [r0])) p6 (.lst (List.replicate 65 r0)) = H6 at s6 t6 ⊢
  have u6 := u4.trans s6
  intro p7 n7
  refine ⟨_, rfl, l, _, 0, _, rfl, rfl, SqL.of ((Same.new n7) _ _ (u6 _ _ hl)), e0, upd_same, [(.inl 0, r0)], rfl, by show 1 ≤ 15; decide, ?_⟩
  have s7 : Same H6 (upd (upd H6 p7 (.dK [])) p7 (.dK (mergeK [] [(.inl 0, r0)]))) := updTwo n7
  have t7 := ty_dK (H := upd H6 p7 (.dK [])) (p := p7) (kvs := mergeK [] [(.inl 0, r0)])
  generalize upd (upd H6 p7 (.dK [])) p7 (.dK (mergeK [] [(.inl 0, r0)])) = H7 at s7 t7 ⊢
  refine ⟨szV (by simp), fun p10 n10 => ?_⟩
  have q7 := s7
  have q6 := s6.trans q7
  have q4 := s4.trans q6
  have q3 := s3.trans q4
  have q2 := s2.trans q3
  have u7 := u6.trans s7
  have s10 : ∀ o, Same H (upd H7 p10 o) := fun o => u7.trans (Same.new n10)
  have hall : ∀ x ∈ [V.non, .ref p1, .str "", .int 0, .bl true, .ref p2, .ref p3, .ref p4, .ref p6, .ref p7], Thing H7 x := by
    intro x hx
    simp only [List.mem_cons, List.not_mem_nil, or_false] at hx
    rcases hx with rfl | rfl | rfl | rfl | rfl | rfl | rfl | rfl | rfl | rfl
    · exact .inl ⟨_, rfl, by decide⟩
    · exact .inl ⟨_, tyS_stay q2 t1, by decide⟩
    · exact .inl ⟨_, rfl, by decide⟩
    · exact .inl ⟨_, rfl, by decide⟩
    · exact .inl ⟨_, rfl, by decide⟩
    · exact .inl ⟨_, tyS_stay q3 t2, by decide⟩
    · exact .inr ⟨p3, [], rfl, q4 _ _ t3, by decide, fun _ h => nomatch h⟩
    · exact .inl ⟨_, tyS_stay q6 t4, by decide⟩
    · exact .inr ⟨p6, _, rfl, q7 _ _ t6, by rw [List.length_replicate]; decide, fun y hy => by rw [List.eq_of_mem_replicate hy]; exact hr0.mono u7 (by decide)⟩
    · exact .inl ⟨_, t7, by decide⟩
  refine ⟨_, rfl, _, rfl, _, rfl, a, ns, _, _, rfl, (s10 _).seq hS, by omega, by omega, (by decide), fun r r0 r1 => ?_⟩
  obtain ⟨v, e, m⟩ := at_some (xs := [V.non, .ref p1, .str "", .int 0, .bl true, .ref p2, .ref p3, .ref p4, .ref p6, .ref p7]) r0 (by show r < 10; exact r1)
  exact ⟨p10, _, r, v, rfl, rfl, SqL.of upd_same, e, q v _ (s10 _) ((hall v m).mono (Same.new n10))⟩
theorem sc_lawcellis : FnScope ["_law_cell"] ["_law_cell"] (defScope s_lawcellis) := ⟨rfl, rfl, rfl, by decide +kernel, rfl, by decide +kernel, by decide +kernel⟩
theorem ok_lawcellis {f : Addr} {fd : FuncData} (D : Df K mg "_law_cell_is" s_lawcellis ["_law_cell"] f fd) (B : Blt mg) :
    Ow P w K mg base "_law_cell_is" ["_law_cell"] 1 spCellIs := by
  refine D.ow (D.F.ok sc_lawcellis (fun vs H Q E h => ?_) (fun cdv A outer s H vs Q E hr h => ?_))
  · obtain ⟨x, T, rfl, _⟩ := h
    rfl
  obtain ⟨x, T, rfl, hT, q⟩ := h
  refine ⟨_, (pss_cons (ps_if (pt_cmpR op_isN (pv 0) pe_non (nomark _)) (pss_one (ps_ret pe_bl)) pss_nil)
    (pss_one (ps_ret (pe_and (pe_callB call_isi rfl B.f_isinstance boot_isinstance (pa_cons (pv 0) (pa_cons (pe_bltn (v := .ty "int") rfl B.f_int boot_int rfl) pa_nil))) (pe_and (pe_not (pe_callB call_isi rfl B.f_isinstance boot_isinstance (pa_cons (pv 0) (pa_cons (pe_bltn (v := .ty "bool") rfl B.f_bool boot_bool rfl) pa_nil)))) (pe_one (pe_chain op_le op_le pe_int (pv 0) pe_int))))))), ?_⟩
  walk_at "rs"
  refine iteD (fun c => ?_) (fun c => ?_)
  · subst c
    exact q
  · have e : cellB x = inB x 0 15 := by
      cases x <;> first | rfl | exact absurd rfl c
    rw [e] at q
    refine ⟨_, rfl, x, "int", T, rfl, by decide, hT, _, rfl, ?_⟩
    by_cases hi : ∃ i, x = .int i
    · obtain ⟨i, rfl⟩ := hi
      cases hT
      refine iteTb rfl ?_
      refine ⟨_, rfl, _, "bool", "int", rfl, by decide, rfl, _, rfl, _, rfl, iteTb rfl ?_⟩
      walk_at "rs"
      refine iteD (fun c1 => ?_) (fun c1 => ?_)
      · walk_at "rs"
        have e : inB (.int i) 0 15 = decide (i ≤ 15) := by
          show (decide (0 ≤ i) && decide (i ≤ 15)) = _
          rw [decide_eq_true c1, Bool.true_and]
        rw [e] at q
        exact q
      · have e : inB (.int i) 0 15 = false := by
          show (decide (0 ≤ i) && decide (i ≤ 15)) = _
          rw [decide_eq_false c1, Bool.false_and]
        rw [e] at q
        exact q
    · have e : inB x 0 15 = false := by
        cases x <;> first | rfl | exact absurd ⟨_, rfl⟩ hi
      rw [e] at q
      have hw := tyS_int hT hi
      cases h1 : isiB T "int" with
      | false => exact iteF q
      | true =>
        have e2 := whole_table T (tyS_mem hT)
        rw [h1, if_pos rfl, hw] at e2
        refine iteT ⟨_, rfl, _, "bool", T, rfl, by decide, hT, _, rfl, _, rfl, ?_⟩
        rw [e2]
        exact iteF q
theorem sc_lawfault : FnScope ["_law_rows_here", "_law_at", "_law_row"] ["_law_rows_here"] (defScope s_lawfault) := ⟨rfl, rfl, rfl, by decide +kernel, rfl, by decide +kernel, by decide +kernel⟩
theorem ok_lawfault {f : Addr} {fd : FuncData} (D : Df K mg "_law_fault" s_lawfault ["_law_rows_here"] f fd)
    (O_lawcellis : Ow P w K mg base "_law_cell_is" ["_law_cell"] 1 spCellIs) (B : Blt mg) :
    Ow P w K mg base "_law_fault" ["_law_rows_here"] 2 spFault := by
  refine D.ow (D.F.ok sc_lawfault (fun vs H Q E h => ?_) (fun cdv A outer s H vs Q E hr h => ?_))
  · obtain ⟨v, f, rfl, _⟩ := h
    rfl
  obtain ⟨v, f, rfl, hF, q⟩ := h
  refine ⟨_, (pss_cons (ps_if (PW.pt (pw_or (pt_not (pt_val (pe_callB call_isi rfl B.f_isinstance boot_isinstance (pa_cons (pv 0) (pa_cons (pe_bltn (v := .ty "list") rfl B.f_list boot_list rfl) pa_nil))))) (pw_or (pt_cmpR op_lt (pe_callB call_len_seq rfl B.f_len boot_len (pa_cons (pv 0) pa_nil)) pe_int (nomark _)) (pw_or1 (pt_cmpR op_gt (pe_callB call_len_seq rfl B.f_len boot_len (pa_cons (pv 0) pa_nil)) pe_int (nomark _)))))) (pss_one (ps_ret (pe_tup (pa_cons pe_str (pa_cons pe_non pa_nil))))) pss_nil)
    (pss_cons (ps_for PassesOwn.never rfl (pi_range1 rfl B.f_range (pa_cons (pe_callB call_len_seq rfl B.f_len boot_len (pa_cons (pv 0) pa_nil)) pa_nil)) (pg_name (i := 1) sc_lawfault.nd rfl (Or.inl rfl)) (pss_cons (ps_set (i := 2) sc_lawfault.nd rfl (Or.inl rfl) (pe_ix ix_list (pv 0) (pv 1) (fun _ _ => rfl)))
    (pss_cons (ps_if (PW.pt (pw_or (pt_not (pt_val (pe_callB call_isi rfl B.f_isinstance boot_isinstance (pa_cons (pv 2) (pa_cons (pe_bltn (v := .ty "list") rfl B.f_list boot_list rfl) pa_nil))))) (pw_or (pt_cmpR op_lt (pe_callB call_len_seq rfl B.f_len boot_len (pa_cons (pv 2) pa_nil)) pe_int (nomark _)) (pw_or (pt_cmpR op_gt (pe_callB call_len_seq rfl B.f_len boot_len (pa_cons (pv 2) pa_nil)) pe_int (nomark _)) (pw_or1 (pt_cmpR op_ne (pe_callB call_len_seq rfl B.f_len boot_len (pa_cons (pv 2) pa_nil)) (pe_callB call_len_seq rfl B.f_len boot_len (pa_cons (pe_ix ix_list (pv 0) pe_int (fun _ _ => rfl)) pa_nil)) (nomark _))))))) (pss_one (ps_ret (pe_tup (pa_cons pe_str (pa_cons (pv 1) pa_nil))))) pss_nil)
    (pss_one (ps_if (pt_not (pt_val (pe_callB (call_all rfl) rfl B.f_all boot_all (pa_cons (pe_comp (locs := ["_law_cell"]) (ix := []) rfl (BlkSc.look (dsc := defScope s_lawfault) (N := ["_law_rows_here", "_law_at", "_law_row"]) rfl rfl (by decide +kernel)) (pi_list (pv 2)) (fun _ _ _ _ _ _ => (pg_name (i := 0) (by decide +kernel : (["_law_cell"] : List Str).Nodup) rfl (Or.inl rfl))) (fun _ _ _ _ _ _ => pts_nil) (fun _ _ _ _ _ _ => (pe_own O_lawcellis hr rfl (pa_cons (pv 0) pa_nil)))) pa_nil)))) (pss_one (ps_ret (pe_tup (pa_cons pe_str (pa_cons (pv 1) pa_nil))))) pss_nil)))))
    (pss_one (ps_ret pe_non)))), ?_⟩
  rcases hF.scan with ⟨ef, hb⟩ | ⟨l, vs, n, r0, k, rfl, hl, n1, n2, h0, h1, hg, hk⟩
  · subst ef
    rcases hb with ⟨T, hT, hne⟩ | ⟨l, vs, rfl, hl, hn⟩
    · refine ⟨_, rfl, _, "list", _, rfl, by decide, hT, _, rfl, iteTb (by simp [isiB, hne]) ?_⟩
      exact ⟨szV (by simp), fun t nt => q _ _ (Same.new nt) ⟨t, rfl, upd_same⟩⟩
    · have hT : tyS H (.ref l) = some "list" := by simp only [tyS, hl]
      refine ⟨_, rfl, _, "list", "list", rfl, by decide, hT, _, rfl, iteFb rfl ?_⟩
      refine ⟨_, rfl, l, _, rfl, .inl (SqL.of hl), ?_⟩
      walk_at "rs"
      refine iteD (fun c1 => ?_) (fun c1 => ?_)
      · exact ⟨szV (by simp), fun t nt => q _ _ (Same.new nt) ⟨t, rfl, upd_same⟩⟩
      refine ⟨_, rfl, l, _, rfl, .inl (SqL.of hl), ?_⟩
      walk_at "rs"
      refine iteD (fun c2 => ?_) (fun c2 => by omega)
      exact ⟨szV (by simp), fun t nt => q _ _ (Same.new nt) ⟨t, rfl, upd_same⟩⟩
  · have hT : tyS H (.ref l) = some "list" := by simp only [tyS, hl]
    refine ⟨_, rfl, _, "list", "list", rfl, by decide, hT, _, rfl, iteFb rfl ?_⟩
    refine ⟨_, rfl, l, _, rfl, .inl (SqL.of hl), ?_⟩
    walk_at "rs"
    refine iteD (fun c => by omega) (fun _ => ?_)
    refine ⟨_, rfl, l, _, rfl, .inl (SqL.of hl), ?_⟩
    walk_at "rs"
    refine iteD (fun c => by omega) (fun _ => ?_)
    refine ⟨_, rfl, l, _, rfl, .inl (SqL.of hl), _, rfl, (rngS (by omega) (by omega)).1, (rngS (by omega) (by omega)).2, ?_⟩
    refine for_range (n := vs.length) (fun i σ H2 => ∃ v w, σ = [some (.ref l), v, w] ∧ Same H H2 ∧ i ≤ k) ⟨none, none, rfl, Same.refl _, Nat.zero_le _⟩ ?_ ?_
    · rintro i σ H2 hi ⟨v, w, rfl, s2, hik⟩
      have er : vs[i]? = some (vs[i]'hi) := List.getElem?_eq_getElem hi
      have ea : atI vs (0 + (i : Int)) = some (vs[i]'hi) := by rw [Int.zero_add]; exact atI_nat er
      have e0 : atI vs 0 = some r0 := atI_nat (j := 0) h0
      have hfo := first_ok h0 h1 hg hik er
      have hbb : ∃ b, RowIs H n (vs[i]'hi) b ∧ (b = true → i < k) ∧ (b = false → f = some (.int i)) := by
        by_cases hlt : i < k
        · exact ⟨true, hg i _ hlt er, fun _ => hlt, fun z => nomatch z⟩
        · have eik : i = k := by omega
          subst eik
          rcases hk with ⟨k1, k2, k3⟩ | ⟨k1, _⟩
          · exact ⟨false, k2 _ er, (fun z => nomatch z), fun _ => k3⟩
          · omega
      obtain ⟨b, hb, hb1, hb2⟩ := hbb
      generalize vs[i]'hi = r at er ea hfo hb
      have fr : ∀ H3 t, b = false → Same H H3 → H3 t = none → FRes (upd H3 t (.tup [.str "fault", .int (0 + (i : Int))])) f (.ref t) ∧ Same H (upd H3 t (.tup [.str "fault", .int (0 + (i : Int))])) := fun H3 t hb s3 nt => by
        rw [hb2 hb]
        exact ⟨⟨t, rfl, by rw [upd_same, Int.zero_add]⟩, s3.trans (Same.new nt)⟩
      refine ⟨_, rfl, _, rfl, l, _, _, _, rfl, rfl, SqL.of (s2 _ _ hl), ea, ?_⟩
      cases hb with
      | non hT hne =>
        refine ⟨_, rfl, _, "list", _, rfl, by decide, tyS_stay s2 hT, _, rfl, iteTb (by simp [isiB, hne]) ?_⟩
        exact ⟨_, rfl, szV (by simp), fun t nt => q _ _ (fr H2 t rfl s2 nt).2 (fr H2 t rfl s2 nt).1⟩
      | lst hr h200 hty =>
        rename_i a xs
        have hT2 : tyS H2 (.ref a) = some "list" := by simp only [tyS, s2 _ _ hr]
        rcases hfo with ⟨T, q1, q2⟩ | ⟨m, ys, rfl, hm, hn⟩
        · simp only [tyS, hr] at q1
          cases q1
          exact absurd rfl q2
        have hr2 := s2 _ _ hr
        have hm2 := s2 _ _ hm
        refine ⟨_, rfl, _, "list", "list", rfl, by decide, hT2, _, rfl, iteFb rfl ?_⟩
        refine ⟨_, rfl, a, _, rfl, .inl (SqL.of hr2), ?_⟩
        walk_at "rs"
        refine iteD (fun c1 => ?_) (fun c1 => ?_)
        · have eb : (decide (1 ≤ xs.length) && (decide (xs.length ≤ 64) && (decide (xs.length = n) && xs.all cellB))) = false := by
            rw [decide_eq_false (by omega), Bool.false_and]
          exact ⟨_, rfl, szV (by simp), fun t nt => q _ _ (fr H2 t eb s2 nt).2 (fr H2 t eb s2 nt).1⟩
        refine ⟨_, rfl, a, _, rfl, .inl (SqL.of hr2), ?_⟩
        walk_at "rs"
        refine iteD (fun c2 => ?_) (fun c2 => ?_)
        · have eb : (decide (1 ≤ xs.length) && (decide (xs.length ≤ 64) && (decide (xs.length = n) && xs.all cellB))) = false := by
            rw [decide_eq_false (p := xs.length ≤ 64) (by omega), Bool.false_and, Bool.and_false]
          exact ⟨_, rfl, szV (by simp), fun t nt => q _ _ (fr H2 t eb s2 nt).2 (fr H2 t eb s2 nt).1⟩
        refine ⟨_, rfl, a, _, rfl, .inl (SqL.of hr2), _, rfl, l, _, 0, _, rfl, rfl, SqL.of (s2 _ _ hl), e0, m, _, rfl, .inl (SqL.of hm2), rfl, _, rfl, ?_⟩
        by_cases c3 : xs.length = n
        · refine iteFb (by rw [hn, c3]; simp) ?_
          refine ⟨_, rfl, a, rfl, ⟨_, SqL.of hr2⟩, ?_⟩
          refine comp_by (n := xs.length) (fun i σ zs H3 => ∃ v, σ = [v] ∧ zs = ((xs.take i).map cellB).map V.bl ∧ H3 = H2 ∧ i ≤ xs.length) ⟨none, rfl, rfl, rfl, Nat.zero_le _⟩ (Nat.le_of_lt (small1000 (by omega))) ?_ ?_ ?_ ?_ ?_
          · rintro i σ zs H3 ⟨v, _, rfl, _, hi⟩
            rw [List.length_map, List.length_map, List.length_take]
            omega
          · rintro σ zs H3 ⟨v, _, _, rfl, _⟩
            exact ⟨_, SqL.of hr2, Nat.le_refl _⟩
          · rintro i σ zs H3 hi ⟨v, _, _, rfl, _⟩
            exact ⟨_, xs[i]'hi, SqL.of hr2, List.getElem?_eq_getElem hi⟩
          · rintro i σ zs H3 x H' Z hi ⟨v, rfl, rfl, rfl, _⟩ ⟨rfl, hx⟩ hZ
            have e := hx _ (SqL.of hr2)
            rw [List.getElem?_eq_getElem hi] at e
            cases e
            obtain ⟨T, hT⟩ := hty _ (List.getElem_mem hi)
            refine ⟨_, rfl, _, T, rfl, tyS_stay s2 hT, ?_⟩
            refine hZ _ _ _ ⟨_, rfl, ?_, rfl, hi⟩
            rw [List.take_succ, List.getElem?_eq_getElem hi, List.map_append, List.map_append]
            rfl
          · rintro σ zs H3 ⟨v, rfl, rfl, rfl, _⟩ l' hl'
            rw [List.take_length]
            have s4 := s2.trans (Same.new (o := .lst ((xs.map cellB).map V.bl)) hl')
            refine ⟨l', _, rfl, SqL.of upd_same, _, rfl, ?_⟩
            have e : (decide (1 ≤ xs.length) && (decide (xs.length ≤ 64) && (decide (xs.length = n) && xs.all cellB))) = (xs.map cellB).all id := by
              rw [decide_eq_true (by omega), decide_eq_true (by omega), decide_eq_true c3, List.all_map]
              rfl
            rw [e] at fr hb1
            cases hall : (xs.map cellB).all id with
            | true => exact iteF ⟨_, _, rfl, s4, hb1 hall⟩
            | false => exact iteT ⟨_, rfl, szV (by simp), fun t nt => q _ _ (fr _ t hall s4 nt).2 (fr _ t hall s4 nt).1⟩
        · have eb : (decide (1 ≤ xs.length) && (decide (xs.length ≤ 64) && (decide (xs.length = n) && xs.all cellB))) = false := by
            rw [decide_eq_false c3, Bool.false_and, Bool.and_false, Bool.and_false]
          refine iteTb ?_ ?_
          · have : V.int (xs.length : Int) ≠ V.int (ys.length : Int) := fun z => by
              injection z with z
              omega
            rw [decide_eq_false this]
            rfl
          exact ⟨_, rfl, szV (by simp), fun t nt => q _ _ (fr H2 t eb s2 nt).2 (fr H2 t eb s2 nt).1⟩
    · rintro σ H2 ⟨v, w, rfl, s2, hik⟩
      rcases hk with ⟨k1, _⟩ | ⟨k1, k2, _⟩
      · omega
      rw [k2] at q
      exact q _ _ s2 rfl
theorem sc_lawapart : FnScope ["_law_e"] ["_law_e"] (defScope s_lawapart) := ⟨rfl, rfl, rfl, by decide +kernel, rfl, by decide +kernel, by decide +kernel⟩
theorem ok_lawapart {f : Addr} {fd : FuncData} (D : Df K mg "_law_apart" s_lawapart ["_law_e"] f fd)
    {c_GlowError c_NoPicture c_NoTable c_NoFont c_NoLine c_NoNote c_NoText c_NoRow : Addr} (Z : Cl K mg c_GlowError c_NoPicture c_NoTable c_NoFont c_NoLine c_NoNote c_NoText c_NoRow) (B : Blt mg) :
    Ow P w K mg base "_law_apart" ["_law_e"] 1 (spApart c_NoPicture) := by
  refine D.ow (D.F.ok sc_lawapart (fun vs H Q E h => ?_) (fun cdv A outer s H vs Q E hr h => ?_))
  · obtain ⟨a, fs, rfl, _⟩ := h
    rfl
  obtain ⟨a, fs, rfl, hE, q⟩ := h
  refine ⟨_, (pss_cons (ps_if (PW.pt (pw_or (pt_val (pe_callB call_isiE rfl B.f_isinstance boot_isinstance (pa_cons (pv 0) (pa_cons (pe_glob (v := .ref _) rfl Z.m_NoFont rfl) pa_nil)))) (pw_or (pt_val (pe_callB call_isiE rfl B.f_isinstance boot_isinstance (pa_cons (pv 0) (pa_cons (pe_glob (v := .ref _) rfl Z.m_NoLine rfl) pa_nil)))) (pw_or (pt_val (pe_callB call_isiE rfl B.f_isinstance boot_isinstance (pa_cons (pv 0) (pa_cons (pe_glob (v := .ref _) rfl Z.m_NoNote rfl) pa_nil)))) (pw_or1 (pt_val (pe_callB call_isiE rfl B.f_isinstance boot_isinstance (pa_cons (pv 0) (pa_cons (pe_glob (v := .ref _) rfl Z.m_NoRow rfl) pa_nil))))))))) (pss_one (ps_ret pe_bl)) pss_nil)
    (pss_cons (ps_if (PW.pt (pw_or (pt_val (pe_callB call_isiE rfl B.f_isinstance boot_isinstance (pa_cons (pv 0) (pa_cons (pe_glob (v := .ref _) rfl Z.m_NoTable rfl) pa_nil)))) (pw_or1 (pt_val (pe_callB call_isiE rfl B.f_isinstance boot_isinstance (pa_cons (pv 0) (pa_cons (pe_glob (v := .ref _) rfl Z.m_NoText rfl) pa_nil))))))) (pss_one (ps_ret pe_bl)) pss_nil)
    (pss_one (ps_ret (pe_and (pe_callB call_isiE rfl B.f_isinstance boot_isinstance (pa_cons (pv 0) (pa_cons (pe_glob (v := .ref _) rfl Z.m_NoPicture rfl) pa_nil))) (pe_one (pe_callB call_isiE rfl B.f_isinstance boot_isinstance (pa_cons (pv 0) (pa_cons (pe_bltn (v := .ty "ValueError") rfl B.f_ValueError boot_ValueError rfl) pa_nil))))))))), ?_⟩
  have kt := Z.kt 0 (by decide)
  have k1 := kt.one 1 (Nat.lt_of_sub_eq_succ rfl)
  have k2 := kt.one 2 (Nat.lt_of_sub_eq_succ rfl)
  have k3 := kt.one 3 (Nat.lt_of_sub_eq_succ rfl)
  have k4 := kt.one 4 (Nat.lt_of_sub_eq_succ rfl)
  have k5 := kt.one 5 (Nat.lt_of_sub_eq_succ rfl)
  have k6 := kt.one 6 (Nat.lt_of_sub_eq_succ rfl)
  have k0 := kt.one 0 (Nat.lt_of_sub_eq_succ rfl)
  refine ⟨_, rfl, a, _, fs, _, _, _, rfl, hE, Z.x_NoPicture, rfl, k2, _, rfl, iteFb rfl ?_⟩
  refine ⟨_, rfl, a, _, fs, _, _, _, rfl, hE, Z.x_NoPicture, rfl, k3, _, rfl, iteFb rfl ?_⟩
  refine ⟨_, rfl, a, _, fs, _, _, _, rfl, hE, Z.x_NoPicture, rfl, k4, _, rfl, iteFb rfl ?_⟩
  refine ⟨_, rfl, a, _, fs, _, _, _, rfl, hE, Z.x_NoPicture, rfl, k6, _, rfl, iteFb rfl ?_⟩
  refine ⟨_, rfl, a, _, fs, _, _, _, rfl, hE, Z.x_NoPicture, rfl, k1, _, rfl, iteFb rfl ?_⟩
  refine ⟨_, rfl, a, _, fs, _, _, _, rfl, hE, Z.x_NoPicture, rfl, k5, _, rfl, iteFb rfl ?_⟩
  refine ⟨_, rfl, a, _, fs, _, _, _, rfl, hE, Z.x_NoPicture, rfl, k0, _, rfl, iteTb rfl ?_⟩
  exact ⟨_, rfl, a, _, fs, _, _, _, rfl, hE, Z.x_NoPicture, rfl, kt.v, q⟩
theorem sc_lawasked : FnScope ["_law_rows_here", "_law_found", "_law_e"] ["_law_rows_here"] (defScope s_lawasked) := ⟨rfl, rfl, rfl, by decide +kernel, rfl, by decide +kernel, by decide +kernel⟩
theorem ok_lawasked {f : Addr} {fd : FuncData} (D : Df K mg "_law_asked" s_lawasked ["_law_rows_here"] f fd)
    {c_GlowError c_NoPicture c_NoTable c_NoFont c_NoLine c_NoNote c_NoText c_NoRow : Addr} (Z : Cl K mg c_GlowError c_NoPicture c_NoTable c_NoFont c_NoLine c_NoNote c_NoText c_NoRow)
    (O_pictured : Ow2 P w K mg base "pictured" ["rows"] 5 (spPicE c_NoPicture))
    (O_lawapart : Ow P w K mg base "_law_apart" ["_law_e"] 1 (spApart c_NoPicture)) (B : Blt mg) :
    Ow P w K mg base "_law_asked" ["_law_rows_here"] 6 spAsked := by
  refine D.ow (D.F.ok sc_lawasked (fun vs H Q E h => ?_) (fun cdv A outer s H vs Q E hr h => ?_))
  · obtain ⟨v, f, rfl, _⟩ := h
    rfl
  obtain ⟨v, f, rfl, hF, q1, q2⟩ := h
  refine ⟨_, (pss_cons (ps_set (i := 1) sc_lawasked.nd rfl (Or.inl rfl) pe_non)
    (pss_cons (ps_tryA (i := 2) (j := 1) (pex_own2 O_pictured hr rfl (pa_cons (pv 0) pa_nil)) rfl rfl rfl rfl rfl ⟨Z.m_GlowError, Z.x_GlowError⟩ sc_lawasked.nd rfl rfl (fun _ => (pss_one (ps_set (i := 1) sc_lawasked.nd rfl (Or.inl rfl) (pv 2)))))
    (pss_cons (ps_if (pt_val (pe_callB call_isiU rfl B.f_isinstance boot_isinstance (pa_cons (pv 1) (pa_cons (pe_glob (v := .ref _) rfl Z.m_GlowError rfl) pa_nil)))) (pss_cons (ps_if (pt_not (pt_val (pe_own O_lawapart hr rfl (pa_cons (pv 1) pa_nil)))) (pss_one (ps_ret (pe_tup (pa_cons pe_str (pa_cons pe_int pa_nil))))) pss_nil)
    (pss_one (ps_ret (pe_tup (pa_cons pe_str (pa_cons (pe_errF (pv 1) rfl) pa_nil)))))) pss_nil)
    (pss_one (ps_ret (pv 1)))))), ?_⟩
  refine ⟨fun Cv d H2 => ∃ z d', Cv = .ref c_NoPicture ∧ d = some d' ∧ f = some z ∧ Same H H2 ∧ H2 d' = some (.ext (ErrD d' [("row", z)])), ⟨_, rfl, v, f, rfl, hF, fun l ps rows wd hg p H2 ev ef RA R s2 PC => ?_, fun z d H2 ef s2 hd => ⟨z, d, rfl, rfl, ef, s2, hd⟩⟩, ?_⟩
  · refine ⟨_, rfl, _, _, _, _, rfl, rfl, .inl ⟨"tuple", ?_, Z.tup⟩, _, rfl, iteFb rfl ?_⟩
    · obtain ⟨pp, pm, g1, _⟩ := PC
      simp only [tyS, g1]
    exact ⟨_, rfl, q1 l ps rows wd hg p H2 ev ef RA R s2 PC⟩
  · rintro Cv d H2 ⟨z, d', rfl, rfl, ef, s2, hd⟩
    refine ⟨c_NoPicture, rfl, Z.x_NoPicture, Z.ab _ (by simp), fun a na => ?_⟩
    obtain ⟨s3, hE⟩ := caught_err (C := c_NoPicture) na hd
    generalize upd H2 a (.ext (ErrT a c_NoPicture (some d'))) = H3 at s3 hE
    refine ⟨_, rfl, ?_⟩
    refine ⟨_, rfl, _, _, _, _, rfl, rfl, .inr ⟨a, c_NoPicture, _, rfl, hE, Z.x_NoPicture, (Z.kt 0 (by decide)).g⟩, _, rfl, iteTb rfl ?_⟩
    refine ⟨_, rfl, a, _, rfl, hE, _, rfl, iteFb rfl ?_⟩
    refine ⟨_, rfl, a, c_NoPicture, _, z, rfl, hE, Z.x_NoPicture, Z.f_NoPicture_row, rfl, szV (by simp), fun t nt => ?_⟩
    exact q2 z _ _ ef ((s2.trans s3).trans (Same.new nt)) ⟨t, rfl, upd_same⟩
theorem sc_law : FnScope ["_law_script", "_law_sides_here", "_law_rows_here", "_law_spoiled_here", "_law_due"] ["_law_script"] (defScope s_law) := ⟨rfl, rfl, rfl, by decide +kernel, rfl, by decide +kernel, by decide +kernel⟩
theorem ok_law {f : Addr} {fd : FuncData} (D : Df K mg "law" s_law ["_law_script"] f fd)
    (O_lawdraw : Ow P w K mg base "_law_draw" ["_law_script", "_law_k", "_law_many"] 1 (spDraw K))
    (O_lawalike : Ow P w K mg base "_law_alike" ["_law_found", "_law_due"] 3 (spAlike 3))
    (O_lawsides : Ow P w K mg base "_law_sides" ["_law_script", "_law_k"] 2 (spSides K))
    (O_lawrows : Ow P w K mg base "_law_rows" ["_law_script", "_law_k", "_law_wide", "_law_high"] 2 (spRows K))
    (O_lawpacked : Ow P w K mg base "_law_packed" ["_law_rows_here"] 1 spPacked)
    (O_lawspoiled : Ow P w K mg base "_law_spoiled" ["_law_script", "_law_k", "_law_rows_here"] 3 (spSpoiled K))
    (O_lawnorows : Ow P w K mg base "_law_no_rows" ["_law_script", "_law_k", "_law_rows_here"] 2 (spNoRows K))
    (O_lawfault : Ow P w K mg base "_law_fault" ["_law_rows_here"] 2 spFault)
    (O_lawasked : Ow P w K mg base "_law_asked" ["_law_rows_here"] 6 spAsked) (B : Blt mg) :
    FnOk P w K mg base CX0 7 f fd ["_law_script"] (spLaw K) := by
  refine D.F.ok sc_law (fun vs H Q E h => ?_) (fun cdv A outer s H vs Q E hr h => ?_)
  · obtain ⟨a, ns, rfl, _⟩ := h
    rfl
  obtain ⟨a, ns, rfl, hS, hlen, q⟩ := h
  refine ⟨_, (pss_cons (ps_set (i := 1) sc_law.nd rfl (Or.inl rfl) (pe_own O_lawsides hr rfl (pa_cons (pv 0) (pa_cons pe_int pa_nil))))
    (pss_cons (ps_set (i := 2) sc_law.nd rfl (Or.inl rfl) (pe_own O_lawrows hr rfl (pa_cons (pv 0) (pa_cons pe_int (pa_cons (pe_ix ix_tup (pv 1) pe_int (fun _ _ => rfl)) (pa_cons (pe_ix ix_tup (pv 1) pe_int (fun _ _ => rfl)) pa_nil))))))
    (pss_cons (ps_set (i := 3) sc_law.nd rfl (Or.inl rfl) (pe_own O_lawspoiled hr rfl (pa_cons (pv 0) (pa_cons pe_int (pa_cons (pv 2) pa_nil)))))
    (pss_mid (ps_if (pt_cmpR op_eq (pe_own O_lawdraw hr rfl (pa_cons (pv 0) (pa_cons pe_int (pa_cons pe_int pa_nil)))) pe_int (nomark _)) (pss_one (ps_set (i := 3) sc_law.nd rfl (Or.inl rfl) (pe_own O_lawspoiled hr rfl (pa_cons (pv 0) (pa_cons pe_int (pa_cons (pv 3) pa_nil)))))) pss_nil)
    (pss_mid (ps_if (pt_cmpR op_eq (pe_own O_lawdraw hr rfl (pa_cons (pv 0) (pa_cons pe_int (pa_cons pe_int pa_nil)))) pe_int (nomark _)) (pss_one (ps_set (i := 3) sc_law.nd rfl (Or.inl rfl) (pe_own O_lawnorows hr rfl (pa_cons (pv 0) (pa_cons pe_int (pa_cons (pv 2) pa_nil)))))) pss_nil)
    (pss_cons (ps_set (i := 4) sc_law.nd rfl (Or.inl rfl) (pe_own O_lawfault hr rfl (pa_cons (pv 3) pa_nil)))
    (pss_cons (ps_if (pt_cmpR op_isN (pv 4) pe_non (nomark _)) (pss_one (ps_set (i := 4) sc_law.nd rfl (Or.inl rfl) (pe_own O_lawpacked hr rfl (pa_cons (pv 3) pa_nil)))) pss_nil)
    (pss_cons (ps_if (pt_not (pt_val (pe_own O_lawalike hr rfl (pa_cons (pe_own O_lawasked hr rfl (pa_cons (pv 3) pa_nil)) (pa_cons (pv 4) pa_nil))))) (pss_one (ps_ret pe_bl)) pss_nil)
    (pss_one (ps_ret (pe_own O_lawalike hr rfl (pa_cons (pe_own O_lawasked hr rfl (pa_cons (pv 2) pa_nil)) (pa_cons (pe_own O_lawpacked hr rfl (pa_cons (pv 2) pa_nil)) pa_nil))))))))))))), ?_⟩
  walk_at "rs"
  refine ⟨a, ns, 0, rfl, hS, by decide, by decide, fun wd hg p0 w1 w2 h1 h2 np => ?_⟩
  have s1 : Same H (upd H p0 (.tup [.int wd, .int hg])) := Same.new np
  have g0 : (upd H p0 (.tup [.int wd, .int hg])) p0 = some (.tup [.int wd, .int hg]) := upd_same
  generalize upd H p0 (.tup [.int wd, .int hg]) = H1 at s1 g0
  refine ⟨_, rfl, _, rfl, p0, _, 0, _, rfl, rfl, SqT.of g0, rfl, _, rfl, p0, _, 1, _, rfl, rfl, SqT.of g0, rfl, ?_⟩
  refine ⟨a, ns, 3, wd, hg, rfl, s1.seq hS, by decide, by decide, w1, w2, h1, h2, fun l ps rows H2 s2 nl nps RA R => ?_⟩
  have t2 := s1.trans s2
  have hR := R.len
  have hR1 := R.h1
  have hR2 := R.h2
  have hw2 := R.w2
  have hpl := RA.len
  have rowok : ∀ r ∈ ps.map V.ref, Row 64 H2 r := fun r hr => by
    obtain ⟨p, hp, rfl⟩ := List.mem_map.mp hr
    obtain ⟨i, hi, e⟩ := List.mem_iff_getElem.mp hp
    have hir : i < rows.length := by omega
    have gr := RA.row i p _ (by rw [List.getElem?_eq_getElem hi, e]) (List.getElem?_eq_getElem hir)
    have hw := (R.row _ (List.getElem_mem hir)).1
    refine .inr ⟨p, _, rfl, gr, by rw [List.length_map]; omega, fun x hx => ?_⟩
    obtain ⟨c, _, rfl⟩ := List.mem_map.mp hx
    cases c with
    | none => exact ⟨"NoneType", rfl⟩
    | some z => exact ⟨"int", rfl⟩
  walk_at "rs"
  refine ⟨a, ns, 300, l, _, 64, rfl, t2.seq hS, by decide, by decide, RA.lst, by rw [List.length_map]; omega, by rw [List.length_map]; omega, by decide, by decide, rowok, fun l3 rs3 H3 s3 g3 m1 m2 R3 => ?_⟩
  have t3 := t2.trans s3
  refine ⟨fun σ' H' => ∃ l4 rs4, σ' = [some (.ref a), some (.ref p0), some (.ref l), some (.ref l4), none] ∧ Same H2 H' ∧ H' l4 = some (.lst rs4) ∧ 1 ≤ rs4.length ∧ rs4.length ≤ 64 ∧ ∀ r ∈ rs4, Row 200 H' r, ?_, ?_⟩
  · refine ⟨_, rfl, a, ns, 320, _, rfl, t3.seq hS, by decide, by decide, (by decide), fun b b0 b1 => ?_⟩
    walk_at "rs"
    refine ite2 (fun _ => ?_) (fun _ => ?_)
    · walk_at "rs"
      refine ⟨a, ns, 330, l3, rs3, 65, rfl, t3.seq hS, by decide, by decide, g3, m1, m2, by decide, by decide, R3, fun l4 rs4 H4 s4 g4 k1 k2 R4 => ?_⟩
      exact ⟨l4, rs4, rfl, s3.trans s4, g4, k1, k2, fun r hr => (R4 r hr).mono (Same.refl _) (by decide)⟩
    · exact ⟨l3, rs3, rfl, s3, g3, m1, m2, fun r hr => (R3 r hr).mono (Same.refl _) (by decide)⟩
  rintro σ4 H4 ⟨l4, rs4, rfl, s4, g4, k1, k2, R4⟩
  refine ⟨fun σ' H' => ∃ v, σ' = [some (.ref a), some (.ref p0), some (.ref l), some v, none] ∧ Same H2 H' ∧ Thing H' v, ?_, ?_⟩
  · refine ⟨_, rfl, a, ns, 350, _, rfl, (t2.trans s4).seq hS, by decide, by decide, (by decide), fun b b0 b1 => ?_⟩
    walk_at "rs"
    refine ite2 (fun _ => ?_) (fun _ => ?_)
    · walk_at "rs"
      refine ⟨a, ns, 351, l, _, rfl, (t2.trans s4).seq hS, by decide, by decide, s4 _ _ RA.lst, by rw [List.length_map]; omega, by rw [List.length_map]; omega, fun r hr => (rowok r hr).mono s4 (Nat.le_refl _), fun v H5 s5 hv => ?_⟩
      exact ⟨v, rfl, s4.trans s5, hv⟩
    · exact ⟨.ref l4, rfl, s4, .inr ⟨l4, rs4, rfl, g4, by omega, R4⟩⟩
  rintro σ5 H5 ⟨v, rfl, s5, hv⟩
  obtain ⟨f, hf⟩ := hv.fault
  walk_at "rs"
  refine ⟨v, f, rfl, hf, fun u H6 s6 hu => ?_⟩
  walk_at "rs"
  refine iteD (fun cu => ?_) (fun cu => ?_)
  · have ef : f = none := by
      cases f with
      | none => rfl
      | some z =>
        obtain ⟨t, e, _⟩ := hu
        rw [cu] at e
        cases e
    subst ef
    have hgd : ∃ l5 ps5 rows5 w5 h5, v = .ref l5 ∧ RowsAt H5 l5 ps5 rows5 ∧ Rect w5 h5 rows5 := by
      cases hf with
      | good RA5 R5 => exact ⟨_, _, _, _, _, rfl, RA5, R5⟩
    obtain ⟨l5, ps5, rows5, w5, h5, rfl, RA5, R5⟩ := hgd
    have hR5 := R5.len
    have hR6 := R5.h2
    refine ⟨_, rfl, l5, ps5, rows5, _, _, rfl, RA5.mono s6, R5, fun d H7 s7 PD => ?_⟩
    refine ⟨_, rfl, .ref l5, none, rfl, .good (RA5.mono (s6.trans s7)) R5, fun l' ps' rows' w' h' p H8 e _ RA' R' s8 PC => ?_, fun z u H7 e => nomatch e⟩
    cases e
    have er := RA'.uniq (RA5.mono (s6.trans s7))
    have ew : w' = w5 := R'.wide (er ▸ R5)
    rw [er, ew] at PC
    refine ⟨_, rfl, _, _, rfl, PicAt.alk (by omega) PC (PD.mono s8), fun H9 s9 => ⟨_, rfl, iteFb rfl ?_⟩⟩
    have U : Same H2 _ := (((s5.trans s6).trans s7).trans s8).trans s9
    refine ⟨_, rfl, .ref l, none, rfl, .good (RA.mono U) R, fun l' ps' rows' w' h' p H10 e _ RA' R' s10 PC => ?_, fun z u H7 e => nomatch e⟩
    cases e
    have er := RA'.uniq (RA.mono U)
    have ew : w' = wd.toNat := R'.wide (er ▸ R)
    rw [er, ew] at PC
    refine ⟨_, rfl, l, ps, rows, _, _, rfl, RA.mono (U.trans s10), R, fun d H11 s11 PD => ?_⟩
    exact ⟨_, _, rfl, PicAt.alk (by omega) (PC.mono s11) PD, fun H12 s12 => q _⟩
  · have ef : ∃ z, f = some z := by
      cases f with
      | none => exact absurd hu cu
      | some z => exact ⟨z, rfl⟩
    obtain ⟨z, rfl⟩ := ef
    refine ⟨_, rfl, v, some z, rfl, hf.mono s6, (fun _ _ _ _ _ _ _ _ e => nomatch e), fun z' u' H7 e s7 hu' => ?_⟩
    cases e
    refine ⟨_, rfl, _, _, rfl, FRes.alk hf.val hu' (hu.mono s7), fun H9 s9 => ⟨_, rfl, iteFb rfl ?_⟩⟩
    have U : Same H2 _ := ((s5.trans s6).trans s7).trans s9
    refine ⟨_, rfl, .ref l, none, rfl, .good (RA.mono U) R, fun l' ps' rows' w' h' p H10 e _ RA' R' s10 PC => ?_, fun z u H7 e => nomatch e⟩
    cases e
    have er := RA'.uniq (RA.mono U)
    have ew : w' = wd.toNat := R'.wide (er ▸ R)
    rw [er, ew] at PC
    refine ⟨_, rfl, l, ps, rows, _, _, rfl, RA.mono (U.trans s10), R, fun d H11 s11 PD => ?_⟩
    exact ⟨_, _, rfl, PicAt.alk (by omega) (PC.mono s11) PD, fun H12 s12 => q _⟩


end
theorem all_mk {l : PySem.W.OpenLaw} {w : World} {K : PySem.W.Frag} {h : Heap} {mg : Str → Option Value} {fa f1 f2 f3 f4 f5 f6 f7 f8 f9 f10 f11 f12 f13 f14 f15 f16 f17 f18 f19 f20 f21 f22 f23 f24 : Addr} (X : K.In h) (G : h.Ns mainGlobals mg) (hfa : mg "law" = some (.ref fa))
    {od1 an1 : Option Addr} {sl1 : Array (Option Value)} {oc1 kV1 dc1 pm1 cd1 ct1 : Value}
    {od2 an2 : Option Addr} {sl2 : Array (Option Value)} {oc2 kV2 dc2 pm2 cd2 ct2 : Value}
    {od3 an3 : Option Addr} {sl3 : Array (Option Value)} {oc3 kV3 dc3 pm3 cd3 ct3 : Value}
    {od4 an4 : Option Addr} {sl4 : Array (Option Value)} {oc4 kV4 dc4 pm4 cd4 ct4 : Value}
    {od5 an5 : Option Addr} {sl5 : Array (Option Value)} {oc5 kV5 dc5 pm5 cd5 ct5 : Value}
    {od6 an6 : Option Addr} {sl6 : Array (Option Value)} {oc6 kV6 dc6 pm6 cd6 ct6 : Value}
    {od7 an7 : Option Addr} {sl7 : Array (Option Value)} {oc7 kV7 dc7 pm7 cd7 ct7 : Value}
    {od8 an8 : Option Addr} {sl8 : Array (Option Value)} {oc8 kV8 dc8 pm8 cd8 ct8 : Value}
    {od9 an9 : Option Addr} {sl9 : Array (Option Value)} {oc9 kV9 dc9 pm9 cd9 ct9 : Value}
    {od10 an10 : Option Addr} {sl10 : Array (Option Value)} {oc10 kV10 dc10 pm10 cd10 ct10 : Value}
    {od11 an11 : Option Addr} {sl11 : Array (Option Value)} {oc11 kV11 dc11 pm11 cd11 ct11 : Value}
    {od12 an12 : Option Addr} {sl12 : Array (Option Value)} {oc12 kV12 dc12 pm12 cd12 ct12 : Value}
    {od13 an13 : Option Addr} {sl13 : Array (Option Value)} {oc13 kV13 dc13 pm13 cd13 ct13 : Value}
    {od14 an14 : Option Addr} {sl14 : Array (Option Value)} {oc14 kV14 dc14 pm14 cd14 ct14 : Value}
    {od15 an15 : Option Addr} {sl15 : Array (Option Value)} {oc15 kV15 dc15 pm15 cd15 ct15 : Value}
    {od16 an16 : Option Addr} {sl16 : Array (Option Value)} {oc16 kV16 dc16 pm16 cd16 ct16 : Value}
    {od17 an17 : Option Addr} {sl17 : Array (Option Value)} {oc17 kV17 dc17 pm17 cd17 ct17 : Value}
    {od18 an18 : Option Addr} {sl18 : Array (Option Value)} {oc18 kV18 dc18 pm18 cd18 ct18 : Value}
    {od19 an19 : Option Addr} {sl19 : Array (Option Value)} {oc19 kV19 dc19 pm19 cd19 ct19 : Value}
    {od20 an20 : Option Addr} {sl20 : Array (Option Value)} {oc20 kV20 dc20 pm20 cd20 ct20 : Value}
    {od21 an21 : Option Addr} {sl21 : Array (Option Value)} {oc21 kV21 dc21 pm21 cd21 ct21 : Value}
    {od22 an22 : Option Addr} {sl22 : Array (Option Value)} {oc22 kV22 dc22 pm22 cd22 ct22 : Value}
    {od23 an23 : Option Addr} {sl23 : Array (Option Value)} {oc23 kV23 dc23 pm23 cd23 ct23 : Value}
    {od24 an24 : Option Addr} {sl24 : Array (Option Value)} {oc24 kV24 dc24 pm24 cd24 ct24 : Value}
    {c_GlowError c_NoPicture c_NoTable c_NoFont c_NoLine c_NoNote c_NoText c_NoRow : Addr}
    {ia_NoPicture : Addr} {iod_NoPicture ian_NoPicture : Option Addr} {isl_NoPicture : Array (Option Value)} {ioc_NoPicture ikV_NoPicture idc_NoPicture ipm_NoPicture icd_NoPicture ict_NoPicture : Value}
    {ia_NoNote : Addr} {iod_NoNote ian_NoNote : Option Addr} {isl_NoNote : Array (Option Value)} {ioc_NoNote ikV_NoNote idc_NoNote ipm_NoNote icd_NoNote ict_NoNote : Value}
    {ia_NoText : Addr} {iod_NoText ian_NoText : Option Addr} {isl_NoText : Array (Option Value)} {ioc_NoText ikV_NoText idc_NoText ipm_NoText icd_NoText ict_NoText : Value}
    (a1 : PySem.W.nsIn K mainGlobals "is_whole" = some (some (.ref f1))) (l1 : K.lookup f1 = some ⟨oc1, od1, .func (PySem.W.fnOf "is_whole" "is_whole" (defArgs s_iswhole) (defBody s_iswhole) (defScope s_iswhole) .none kV1 dc1 pm1 an1 cd1 ct1), sl1⟩) (c1 : PySem.W.codeIn K cd1 "is_whole" = true) (k1 : PySem.W.keepIn K (.ref f1) = true)
    (a2 : PySem.W.nsIn K mainGlobals "is_within" = some (some (.ref f2))) (l2 : K.lookup f2 = some ⟨oc2, od2, .func (PySem.W.fnOf "is_within" "is_within" (defArgs s_iswithin) (defBody s_iswithin) (defScope s_iswithin) .none kV2 dc2 pm2 an2 cd2 ct2), sl2⟩) (c2 : PySem.W.codeIn K cd2 "is_within" = true) (k2 : PySem.W.keepIn K (.ref f2) = true)
    (a3 : PySem.W.nsIn K mainGlobals "is_side" = some (some (.ref f3))) (l3 : K.lookup f3 = some ⟨oc3, od3, .func (PySem.W.fnOf "is_side" "is_side" (defArgs s_isside) (defBody s_isside) (defScope s_isside) .none kV3 dc3 pm3 an3 cd3 ct3), sl3⟩) (c3 : PySem.W.codeIn K cd3 "is_side" = true) (k3 : PySem.W.keepIn K (.ref f3) = true)
    (a4 : PySem.W.nsIn K mainGlobals "is_cell" = some (some (.ref f4))) (l4 : K.lookup f4 = some ⟨oc4, od4, .func (PySem.W.fnOf "is_cell" "is_cell" (defArgs s_iscell) (defBody s_iscell) (defScope s_iscell) .none kV4 dc4 pm4 an4 cd4 ct4), sl4⟩) (c4 : PySem.W.codeIn K cd4 "is_cell" = true) (k4 : PySem.W.keepIn K (.ref f4) = true)
    (a5 : PySem.W.nsIn K mainGlobals "is_cells_row" = some (some (.ref f5))) (l5 : K.lookup f5 = some ⟨oc5, od5, .func (PySem.W.fnOf "is_cells_row" "is_cells_row" (defArgs s_iscellsrow) (defBody s_iscellsrow) (defScope s_iscellsrow) .none kV5 dc5 pm5 an5 cd5 ct5), sl5⟩) (c5 : PySem.W.codeIn K cd5 "is_cells_row" = true) (k5 : PySem.W.keepIn K (.ref f5) = true)
    (a6 : PySem.W.nsIn K mainGlobals "paint_of" = some (some (.ref f6))) (l6 : K.lookup f6 = some ⟨oc6, od6, .func (PySem.W.fnOf "paint_of" "paint_of" (defArgs s_paintof) (defBody s_paintof) (defScope s_paintof) .none kV6 dc6 pm6 an6 cd6 ct6), sl6⟩) (c6 : PySem.W.codeIn K cd6 "paint_of" = true) (k6 : PySem.W.keepIn K (.ref f6) = true)
    (a7 : PySem.W.nsIn K mainGlobals "mask_of" = some (some (.ref f7))) (l7 : K.lookup f7 = some ⟨oc7, od7, .func (PySem.W.fnOf "mask_of" "mask_of" (defArgs s_maskof) (defBody s_maskof) (defScope s_maskof) .none kV7 dc7 pm7 an7 cd7 ct7), sl7⟩) (c7 : PySem.W.codeIn K cd7 "mask_of" = true) (k7 : PySem.W.keepIn K (.ref f7) = true)
    (a8 : PySem.W.nsIn K mainGlobals "packed" = some (some (.ref f8))) (l8 : K.lookup f8 = some ⟨oc8, od8, .func (PySem.W.fnOf "packed" "packed" (defArgs s_packed) (defBody s_packed) (defScope s_packed) .none kV8 dc8 pm8 an8 cd8 ct8), sl8⟩) (c8 : PySem.W.codeIn K cd8 "packed" = true) (k8 : PySem.W.keepIn K (.ref f8) = true)
    (a9 : PySem.W.nsIn K mainGlobals "pictured" = some (some (.ref f9))) (l9 : K.lookup f9 = some ⟨oc9, od9, .func (PySem.W.fnOf "pictured" "pictured" (defArgs s_pictured) (defBody s_pictured) (defScope s_pictured) .none kV9 dc9 pm9 an9 cd9 ct9), sl9⟩) (c9 : PySem.W.codeIn K cd9 "pictured" = true) (k9 : PySem.W.keepIn K (.ref f9) = true)
    (a10 : PySem.W.nsIn K mainGlobals "_law_draw" = some (some (.ref f10))) (l10 : K.lookup f10 = some ⟨oc10, od10, .func (PySem.W.fnOf "_law_draw" "_law_draw" (defArgs s_lawdraw) (defBody s_lawdraw) (defScope s_lawdraw) .none kV10 dc10 pm10 an10 cd10 ct10), sl10⟩) (c10 : PySem.W.codeIn K cd10 "_law_draw" = true) (k10 : PySem.W.keepIn K (.ref f10) = true)
    (a11 : PySem.W.nsIn K mainGlobals "_law_great" = some (some (.ref f11))) (l11 : K.lookup f11 = some ⟨oc11, od11, .func (PySem.W.fnOf "_law_great" "_law_great" (defArgs s_lawgreat) (defBody s_lawgreat) (defScope s_lawgreat) .none kV11 dc11 pm11 an11 cd11 ct11), sl11⟩) (c11 : PySem.W.codeIn K cd11 "_law_great" = true) (k11 : PySem.W.keepIn K (.ref f11) = true)
    (a12 : PySem.W.nsIn K mainGlobals "_law_alike" = some (some (.ref f12))) (l12 : K.lookup f12 = some ⟨oc12, od12, .func (PySem.W.fnOf "_law_alike" "_law_alike" (defArgs s_lawalike) (defBody s_lawalike) (defScope s_lawalike) .none kV12 dc12 pm12 an12 cd12 ct12), sl12⟩) (c12 : PySem.W.codeIn K cd12 "_law_alike" = true) (k12 : PySem.W.keepIn K (.ref f12) = true)
    (a13 : PySem.W.nsIn K mainGlobals "_law_sides" = some (some (.ref f13))) (l13 : K.lookup f13 = some ⟨oc13, od13, .func (PySem.W.fnOf "_law_sides" "_law_sides" (defArgs s_lawsides) (defBody s_lawsides) (defScope s_lawsides) .none kV13 dc13 pm13 an13 cd13 ct13), sl13⟩) (c13 : PySem.W.codeIn K cd13 "_law_sides" = true) (k13 : PySem.W.keepIn K (.ref f13) = true)
    (a14 : PySem.W.nsIn K mainGlobals "_law_rows" = some (some (.ref f14))) (l14 : K.lookup f14 = some ⟨oc14, od14, .func (PySem.W.fnOf "_law_rows" "_law_rows" (defArgs s_lawrows) (defBody s_lawrows) (defScope s_lawrows) .none kV14 dc14 pm14 an14 cd14 ct14), sl14⟩) (c14 : PySem.W.codeIn K cd14 "_law_rows" = true) (k14 : PySem.W.keepIn K (.ref f14) = true)
    (a15 : PySem.W.nsIn K mainGlobals "_law_packed" = some (some (.ref f15))) (l15 : K.lookup f15 = some ⟨oc15, od15, .func (PySem.W.fnOf "_law_packed" "_law_packed" (defArgs s_lawpacked) (defBody s_lawpacked) (defScope s_lawpacked) .none kV15 dc15 pm15 an15 cd15 ct15), sl15⟩) (c15 : PySem.W.codeIn K cd15 "_law_packed" = true) (k15 : PySem.W.keepIn K (.ref f15) = true)
    (a16 : PySem.W.nsIn K mainGlobals "_law_no_cell" = some (some (.ref f16))) (l16 : K.lookup f16 = some ⟨oc16, od16, .func (PySem.W.fnOf "_law_no_cell" "_law_no_cell" (defArgs s_lawnocell) (defBody s_lawnocell) (defScope s_lawnocell) .none kV16 dc16 pm16 an16 cd16 ct16), sl16⟩) (c16 : PySem.W.codeIn K cd16 "_law_no_cell" = true) (k16 : PySem.W.keepIn K (.ref f16) = true)
    (a17 : PySem.W.nsIn K mainGlobals "_law_no_row" = some (some (.ref f17))) (l17 : K.lookup f17 = some ⟨oc17, od17, .func (PySem.W.fnOf "_law_no_row" "_law_no_row" (defArgs s_lawnorow) (defBody s_lawnorow) (defScope s_lawnorow) .none kV17 dc17 pm17 an17 cd17 ct17), sl17⟩) (c17 : PySem.W.codeIn K cd17 "_law_no_row" = true) (k17 : PySem.W.keepIn K (.ref f17) = true)
    (a18 : PySem.W.nsIn K mainGlobals "_law_spoiled" = some (some (.ref f18))) (l18 : K.lookup f18 = some ⟨oc18, od18, .func (PySem.W.fnOf "_law_spoiled" "_law_spoiled" (defArgs s_lawspoiled) (defBody s_lawspoiled) (defScope s_lawspoiled) .none kV18 dc18 pm18 an18 cd18 ct18), sl18⟩) (c18 : PySem.W.codeIn K cd18 "_law_spoiled" = true) (k18 : PySem.W.keepIn K (.ref f18) = true)
    (a19 : PySem.W.nsIn K mainGlobals "_law_no_rows" = some (some (.ref f19))) (l19 : K.lookup f19 = some ⟨oc19, od19, .func (PySem.W.fnOf "_law_no_rows" "_law_no_rows" (defArgs s_lawnorows) (defBody s_lawnorows) (defScope s_lawnorows) .none kV19 dc19 pm19 an19 cd19 ct19), sl19⟩) (c19 : PySem.W.codeIn K cd19 "_law_no_rows" = true) (k19 : PySem.W.keepIn K (.ref f19) = true)
    (a20 : PySem.W.nsIn K mainGlobals "_law_cell_is" = some (some (.ref f20))) (l20 : K.lookup f20 = some ⟨oc20, od20, .func (PySem.W.fnOf "_law_cell_is" "_law_cell_is" (defArgs s_lawcellis) (defBody s_lawcellis) (defScope s_lawcellis) .none kV20 dc20 pm20 an20 cd20 ct20), sl20⟩) (c20 : PySem.W.codeIn K cd20 "_law_cell_is" = true) (k20 : PySem.W.keepIn K (.ref f20) = true)
    (a21 : PySem.W.nsIn K mainGlobals "_law_fault" = some (some (.ref f21))) (l21 : K.lookup f21 = some ⟨oc21, od21, .func (PySem.W.fnOf "_law_fault" "_law_fault" (defArgs s_lawfault) (defBody s_lawfault) (defScope s_lawfault) .none kV21 dc21 pm21 an21 cd21 ct21), sl21⟩) (c21 : PySem.W.codeIn K cd21 "_law_fault" = true) (k21 : PySem.W.keepIn K (.ref f21) = true)
    (a22 : PySem.W.nsIn K mainGlobals "_law_apart" = some (some (.ref f22))) (l22 : K.lookup f22 = some ⟨oc22, od22, .func (PySem.W.fnOf "_law_apart" "_law_apart" (defArgs s_lawapart) (defBody s_lawapart) (defScope s_lawapart) .none kV22 dc22 pm22 an22 cd22 ct22), sl22⟩) (c22 : PySem.W.codeIn K cd22 "_law_apart" = true) (k22 : PySem.W.keepIn K (.ref f22) = true)
    (a23 : PySem.W.nsIn K mainGlobals "_law_asked" = some (some (.ref f23))) (l23 : K.lookup f23 = some ⟨oc23, od23, .func (PySem.W.fnOf "_law_asked" "_law_asked" (defArgs s_lawasked) (defBody s_lawasked) (defScope s_lawasked) .none kV23 dc23 pm23 an23 cd23 ct23), sl23⟩) (c23 : PySem.W.codeIn K cd23 "_law_asked" = true) (k23 : PySem.W.keepIn K (.ref f23) = true)
    (a24 : PySem.W.nsIn K mainGlobals "law" = some (some (.ref f24))) (l24 : K.lookup f24 = some ⟨oc24, od24, .func (PySem.W.fnOf "law" "law" (defArgs s_law) (defBody s_law) (defScope s_law) .none kV24 dc24 pm24 an24 cd24 ct24), sl24⟩) (c24 : PySem.W.codeIn K cd24 "law" = true) (k24 : PySem.W.keepIn K (.ref f24) = true)
    (z1 : PySem.W.nsIn K mainGlobals "ValueError" = some none)
    (z2 : PySem.W.nsIn K mainGlobals "len" = some none)
    (z3 : PySem.W.nsIn K mainGlobals "range" = some none)
    (z4 : PySem.W.nsIn K mainGlobals "enumerate" = some none)
    (z5 : PySem.W.nsIn K mainGlobals "reversed" = some none)
    (z6 : PySem.W.nsIn K mainGlobals "isinstance" = some none)
    (z7 : PySem.W.nsIn K mainGlobals "int" = some none)
    (z8 : PySem.W.nsIn K mainGlobals "bool" = some none)
    (z9 : PySem.W.nsIn K mainGlobals "str" = some none)
    (z10 : PySem.W.nsIn K mainGlobals "list" = some none)
    (z11 : PySem.W.nsIn K mainGlobals "tuple" = some none)
    (z12 : PySem.W.nsIn K mainGlobals "all" = some none)
    (cm_GlowError : PySem.W.nsIn K mainGlobals "GlowError" = some (some (.ref c_GlowError)))
    (cm_NoPicture : PySem.W.nsIn K mainGlobals "NoPicture" = some (some (.ref c_NoPicture)))
    (cm_NoTable : PySem.W.nsIn K mainGlobals "NoTable" = some (some (.ref c_NoTable)))
    (cm_NoFont : PySem.W.nsIn K mainGlobals "NoFont" = some (some (.ref c_NoFont)))
    (cm_NoLine : PySem.W.nsIn K mainGlobals "NoLine" = some (some (.ref c_NoLine)))
    (cm_NoNote : PySem.W.nsIn K mainGlobals "NoNote" = some (some (.ref c_NoNote)))
    (cm_NoText : PySem.W.nsIn K mainGlobals "NoText" = some (some (.ref c_NoText)))
    (cm_NoRow : PySem.W.nsIn K mainGlobals "NoRow" = some (some (.ref c_NoRow)))
    (gs : PySem.W.specialIn K (.ref c_GlowError) "__getattribute__" = some (some (.builtin "type.__getattribute__"))) (gr : PySem.W.readsIn K c_GlowError (.type "type") = true) (gf : PySem.W.findCls K (.ref c_GlowError) (.type "type") "__init__" = some (.val (.builtin "ValueError.__init__")))
    (fi_NoPicture : PySem.W.findIn K (.ref c_NoPicture) "__init__" = some (some (.ref ia_NoPicture))) (il_NoPicture : K.lookup ia_NoPicture = some ⟨ioc_NoPicture, iod_NoPicture, .func (PySem.W.fnOf "__init__" "NoPicture.__init__" (defArgs i_NoPicture) (defBody i_NoPicture) (defScope i_NoPicture) .none ikV_NoPicture idc_NoPicture ipm_NoPicture ian_NoPicture icd_NoPicture ict_NoPicture), isl_NoPicture⟩) (ic_NoPicture : PySem.W.codeIn K icd_NoPicture "NoPicture.__init__" = true) (ik_NoPicture : PySem.W.keepIn K (.ref ia_NoPicture) = true) (it_NoPicture : PySem.W.typeIn K (.ref ia_NoPicture) = some (.type "function"))
    (ff_NoPicture_row : PySem.W.findIn K (.ref c_NoPicture) "row" = some none)
    (fi_NoTable : PySem.W.findIn K (.ref c_NoTable) "__init__" = some (some (.builtin "ValueError.__init__")))
    (fi_NoFont : PySem.W.findIn K (.ref c_NoFont) "__init__" = some (some (.builtin "ValueError.__init__")))
    (fi_NoLine : PySem.W.findIn K (.ref c_NoLine) "__init__" = some (some (.builtin "ValueError.__init__")))
    (fi_NoNote : PySem.W.findIn K (.ref c_NoNote) "__init__" = some (some (.ref ia_NoNote))) (il_NoNote : K.lookup ia_NoNote = some ⟨ioc_NoNote, iod_NoNote, .func (PySem.W.fnOf "__init__" "NoNote.__init__" (defArgs i_NoNote) (defBody i_NoNote) (defScope i_NoNote) .none ikV_NoNote idc_NoNote ipm_NoNote ian_NoNote icd_NoNote ict_NoNote), isl_NoNote⟩) (ic_NoNote : PySem.W.codeIn K icd_NoNote "NoNote.__init__" = true) (ik_NoNote : PySem.W.keepIn K (.ref ia_NoNote) = true) (it_NoNote : PySem.W.typeIn K (.ref ia_NoNote) = some (.type "function"))
    (ff_NoNote_row : PySem.W.findIn K (.ref c_NoNote) "row" = some none)
    (fi_NoText : PySem.W.findIn K (.ref c_NoText) "__init__" = some (some (.ref ia_NoText))) (il_NoText : K.lookup ia_NoText = some ⟨ioc_NoText, iod_NoText, .func (PySem.W.fnOf "__init__" "NoText.__init__" (defArgs i_NoText) (defBody i_NoText) (defScope i_NoText) .none ikV_NoText idc_NoText ipm_NoText ian_NoText icd_NoText ict_NoText), isl_NoText⟩) (ic_NoText : PySem.W.codeIn K icd_NoText "NoText.__init__" = true) (ik_NoText : PySem.W.keepIn K (.ref ia_NoText) = true) (it_NoText : PySem.W.typeIn K (.ref ia_NoText) = some (.type "function"))
    (ff_NoText_at : PySem.W.findIn K (.ref c_NoText) "at" = some none)
    (fi_NoRow : PySem.W.findIn K (.ref c_NoRow) "__init__" = some (some (.builtin "ValueError.__init__")))
    (xall : ([c_GlowError, c_NoPicture, c_NoTable, c_NoFont, c_NoLine, c_NoNote, c_NoText, c_NoRow] : List Addr).all (xeB K) = true) (kall : kitTab K [c_NoPicture, c_NoTable, c_NoFont, c_NoLine, c_NoNote, c_NoText, c_NoRow] c_GlowError = true) (k_tup : PySem.W.kitOne K (.type "tuple") (.ref c_GlowError) = some false) (aball : (([c_NoPicture, c_NoTable, c_NoFont, c_NoLine, c_NoNote, c_NoText, c_NoRow] : List Addr).all fun c => PySem.W.mroIn K c (.ref c_GlowError) == some true) = true)
    : ∃ fd : FuncData, (∀ (s : Shared) (v : Value), BindsTo s fd ⟨[v], []⟩ [("_law_script", v)]) ∧ ∀ base : Heap, K.In base → base.Ns mainGlobals mg → FnOk l.prog w K mg base CX0 7 fa fd ["_law_script"] (spLaw K) := by
  have e := hfa.symm.trans (PySem.W.mg_of X G a24)
  cases e
  have B : Blt mg := ⟨PySem.W.mg_none_of X G z1, PySem.W.mg_none_of X G z2, PySem.W.mg_none_of X G z3, PySem.W.mg_none_of X G z4, PySem.W.mg_none_of X G z5, PySem.W.mg_none_of X G z6, PySem.W.mg_none_of X G z7, PySem.W.mg_none_of X G z8, PySem.W.mg_none_of X G z9, PySem.W.mg_none_of X G z10, PySem.W.mg_none_of X G z11, PySem.W.mg_none_of X G z12⟩
  have xa := List.all_eq_true.mp xall
  have xk_NoPicture := xeB_of (xa c_NoPicture (by simp))
  have xk_NoTable := xeB_of (xa c_NoTable (by simp))
  have xk_NoFont := xeB_of (xa c_NoFont (by simp))
  have xk_NoLine := xeB_of (xa c_NoLine (by simp))
  have xk_NoNote := xeB_of (xa c_NoNote (by simp))
  have xk_NoText := xeB_of (xa c_NoText (by simp))
  have xk_NoRow := xeB_of (xa c_NoRow (by simp))
  have Z : Cl K mg c_GlowError c_NoPicture c_NoTable c_NoFont c_NoLine c_NoNote c_NoText c_NoRow := ⟨PySem.W.mg_of X G cm_GlowError, ⟨gs, gr, gf⟩, (xeB_of (xa c_GlowError (by simp))).1, k_tup, (fun c hc => by simpa using List.all_eq_true.mp aball c hc), PySem.W.mg_of X G cm_NoPicture, xk_NoPicture.1, ff_NoPicture_row, PySem.W.mg_of X G cm_NoTable, xk_NoTable.1, PySem.W.mg_of X G cm_NoFont, xk_NoFont.1, PySem.W.mg_of X G cm_NoLine, xk_NoLine.1, PySem.W.mg_of X G cm_NoNote, xk_NoNote.1, ff_NoNote_row, PySem.W.mg_of X G cm_NoText, xk_NoText.1, ff_NoText_at, PySem.W.mg_of X G cm_NoRow, xk_NoRow.1, kitTab_of kall⟩
  have FI_NoPicture := fun_mk (st := i_NoPicture) il_NoPicture ic_NoPicture ik_NoPicture
  have FI_NoNote := fun_mk (st := i_NoNote) il_NoNote ic_NoNote ik_NoNote
  have FI_NoText := fun_mk (st := i_NoText) il_NoText ic_NoText ik_NoText
  have F1 := fun_mk (st := s_iswhole) l1 c1 k1
  have D1 : Df K mg "is_whole" s_iswhole ["thing"] _ _ := ⟨F1, F1.binds (ps := ["thing"]) fun _ _ _ _ _ _ us hl => match us, hl with | [_], _ => rfl, PySem.W.mg_of X G a1⟩
  have F2 := fun_mk (st := s_iswithin) l2 c2 k2
  have D2 : Df K mg "is_within" s_iswithin ["thing", "least", "most"] _ _ := ⟨F2, F2.binds (ps := ["thing", "least", "most"]) fun _ _ _ _ _ _ us hl => match us, hl with | [_, _, _], _ => rfl, PySem.W.mg_of X G a2⟩
  have F3 := fun_mk (st := s_isside) l3 c3 k3
  have D3 : Df K mg "is_side" s_isside ["thing"] _ _ := ⟨F3, F3.binds (ps := ["thing"]) fun _ _ _ _ _ _ us hl => match us, hl with | [_], _ => rfl, PySem.W.mg_of X G a3⟩
  have F4 := fun_mk (st := s_iscell) l4 c4 k4
  have D4 : Df K mg "is_cell" s_iscell ["thing"] _ _ := ⟨F4, F4.binds (ps := ["thing"]) fun _ _ _ _ _ _ us hl => match us, hl with | [_], _ => rfl, PySem.W.mg_of X G a4⟩
  have F5 := fun_mk (st := s_iscellsrow) l5 c5 k5
  have D5 : Df K mg "is_cells_row" s_iscellsrow ["row", "first"] _ _ := ⟨F5, F5.binds (ps := ["row", "first"]) fun _ _ _ _ _ _ us hl => match us, hl with | [_, _], _ => rfl, PySem.W.mg_of X G a5⟩
  have F6 := fun_mk (st := s_paintof) l6 c6 k6
  have D6 : Df K mg "paint_of" s_paintof ["row"] _ _ := ⟨F6, F6.binds (ps := ["row"]) fun _ _ _ _ _ _ us hl => match us, hl with | [_], _ => rfl, PySem.W.mg_of X G a6⟩
  have F7 := fun_mk (st := s_maskof) l7 c7 k7
  have D7 : Df K mg "mask_of" s_maskof ["row"] _ _ := ⟨F7, F7.binds (ps := ["row"]) fun _ _ _ _ _ _ us hl => match us, hl with | [_], _ => rfl, PySem.W.mg_of X G a7⟩
  have F8 := fun_mk (st := s_packed) l8 c8 k8
  have D8 : Df K mg "packed" s_packed ["wide", "rows"] _ _ := ⟨F8, F8.binds (ps := ["wide", "rows"]) fun _ _ _ _ _ _ us hl => match us, hl with | [_, _], _ => rfl, PySem.W.mg_of X G a8⟩
  have F9 := fun_mk (st := s_pictured) l9 c9 k9
  have D9 : Df K mg "pictured" s_pictured ["rows"] _ _ := ⟨F9, F9.binds (ps := ["rows"]) fun _ _ _ _ _ _ us hl => match us, hl with | [_], _ => rfl, PySem.W.mg_of X G a9⟩
  have F10 := fun_mk (st := s_lawdraw) l10 c10 k10
  have D10 : Df K mg "_law_draw" s_lawdraw ["_law_script", "_law_k", "_law_many"] _ _ := ⟨F10, F10.binds (ps := ["_law_script", "_law_k", "_law_many"]) fun _ _ _ _ _ _ us hl => match us, hl with | [_, _, _], _ => rfl, PySem.W.mg_of X G a10⟩
  have F11 := fun_mk (st := s_lawgreat) l11 c11 k11
  have D11 : Df K mg "_law_great" s_lawgreat ["_law_script", "_law_k", "_law_many"] _ _ := ⟨F11, F11.binds (ps := ["_law_script", "_law_k", "_law_many"]) fun _ _ _ _ _ _ us hl => match us, hl with | [_, _, _], _ => rfl, PySem.W.mg_of X G a11⟩
  have F12 := fun_mk (st := s_lawalike) l12 c12 k12
  have D12 : Df K mg "_law_alike" s_lawalike ["_law_found", "_law_due"] _ _ := ⟨F12, F12.binds (ps := ["_law_found", "_law_due"]) fun _ _ _ _ _ _ us hl => match us, hl with | [_, _], _ => rfl, PySem.W.mg_of X G a12⟩
  have F13 := fun_mk (st := s_lawsides) l13 c13 k13
  have D13 : Df K mg "_law_sides" s_lawsides ["_law_script", "_law_k"] _ _ := ⟨F13, F13.binds (ps := ["_law_script", "_law_k"]) fun _ _ _ _ _ _ us hl => match us, hl with | [_, _], _ => rfl, PySem.W.mg_of X G a13⟩
  have F14 := fun_mk (st := s_lawrows) l14 c14 k14
  have D14 : Df K mg "_law_rows" s_lawrows ["_law_script", "_law_k", "_law_wide", "_law_high"] _ _ := ⟨F14, F14.binds (ps := ["_law_script", "_law_k", "_law_wide", "_law_high"]) fun _ _ _ _ _ _ us hl => match us, hl with | [_, _, _, _], _ => rfl, PySem.W.mg_of X G a14⟩
  have F15 := fun_mk (st := s_lawpacked) l15 c15 k15
  have D15 : Df K mg "_law_packed" s_lawpacked ["_law_rows_here"] _ _ := ⟨F15, F15.binds (ps := ["_law_rows_here"]) fun _ _ _ _ _ _ us hl => match us, hl with | [_], _ => rfl, PySem.W.mg_of X G a15⟩
  have F16 := fun_mk (st := s_lawnocell) l16 c16 k16
  have D16 : Df K mg "_law_no_cell" s_lawnocell ["_law_script", "_law_k"] _ _ := ⟨F16, F16.binds (ps := ["_law_script", "_law_k"]) fun _ _ _ _ _ _ us hl => match us, hl with | [_, _], _ => rfl, PySem.W.mg_of X G a16⟩
  have F17 := fun_mk (st := s_lawnorow) l17 c17 k17
  have D17 : Df K mg "_law_no_row" s_lawnorow ["_law_script", "_law_k", "_law_row"] _ _ := ⟨F17, F17.binds (ps := ["_law_script", "_law_k", "_law_row"]) fun _ _ _ _ _ _ us hl => match us, hl with | [_, _, _], _ => rfl, PySem.W.mg_of X G a17⟩
  have F18 := fun_mk (st := s_lawspoiled) l18 c18 k18
  have D18 : Df K mg "_law_spoiled" s_lawspoiled ["_law_script", "_law_k", "_law_rows_here"] _ _ := ⟨F18, F18.binds (ps := ["_law_script", "_law_k", "_law_rows_here"]) fun _ _ _ _ _ _ us hl => match us, hl with | [_, _, _], _ => rfl, PySem.W.mg_of X G a18⟩
  have F19 := fun_mk (st := s_lawnorows) l19 c19 k19
  have D19 : Df K mg "_law_no_rows" s_lawnorows ["_law_script", "_law_k", "_law_rows_here"] _ _ := ⟨F19, F19.binds (ps := ["_law_script", "_law_k", "_law_rows_here"]) fun _ _ _ _ _ _ us hl => match us, hl with | [_, _, _], _ => rfl, PySem.W.mg_of X G a19⟩
  have F20 := fun_mk (st := s_lawcellis) l20 c20 k20
  have D20 : Df K mg "_law_cell_is" s_lawcellis ["_law_cell"] _ _ := ⟨F20, F20.binds (ps := ["_law_cell"]) fun _ _ _ _ _ _ us hl => match us, hl with | [_], _ => rfl, PySem.W.mg_of X G a20⟩
  have F21 := fun_mk (st := s_lawfault) l21 c21 k21
  have D21 : Df K mg "_law_fault" s_lawfault ["_law_rows_here"] _ _ := ⟨F21, F21.binds (ps := ["_law_rows_here"]) fun _ _ _ _ _ _ us hl => match us, hl with | [_], _ => rfl, PySem.W.mg_of X G a21⟩
  have F22 := fun_mk (st := s_lawapart) l22 c22 k22
  have D22 : Df K mg "_law_apart" s_lawapart ["_law_e"] _ _ := ⟨F22, F22.binds (ps := ["_law_e"]) fun _ _ _ _ _ _ us hl => match us, hl with | [_], _ => rfl, PySem.W.mg_of X G a22⟩
  have F23 := fun_mk (st := s_lawasked) l23 c23 k23
  have D23 : Df K mg "_law_asked" s_lawasked ["_law_rows_here"] _ _ := ⟨F23, F23.binds (ps := ["_law_rows_here"]) fun _ _ _ _ _ _ us hl => match us, hl with | [_], _ => rfl, PySem.W.mg_of X G a23⟩
  have F24 := fun_mk (st := s_law) l24 c24 k24
  have D24 : Df K mg "law" s_law ["_law_script"] _ _ := ⟨F24, F24.binds (ps := ["_law_script"]) fun _ _ _ _ _ _ us hl => match us, hl with | [_], _ => rfl, PySem.W.mg_of X G a24⟩
  refine ⟨PySem.W.fnOf "law" "law" (defArgs s_law) (defBody s_law) (defScope s_law) .none kV24 dc24 pm24 an24 cd24 ct24, fun s v => .of_eq rfl, fun base _ _ => ?_⟩
  have E_NoPicture : Oe l.prog w K mg base "NoPicture" c_NoPicture ["self", "row"] 1 (spE1 c_NoPicture "row") := ⟨ia_NoPicture, _, PySem.W.mg_of X G cm_NoPicture, ⟨xk_NoPicture.1, xk_NoPicture.2, fi_NoPicture, it_NoPicture⟩, FI_NoPicture.binds (ps := ["self", "row"]) fun _ _ _ _ _ _ us hl => match us, hl with | [_, _], _ => rfl, oi_NoPicture Z FI_NoPicture⟩
  have E_NoTable : Oo K mg "NoTable" c_NoTable := ⟨PySem.W.mg_of X G cm_NoTable, ⟨xk_NoTable.1, xk_NoTable.2, fi_NoTable⟩⟩
  have E_NoFont : Oo K mg "NoFont" c_NoFont := ⟨PySem.W.mg_of X G cm_NoFont, ⟨xk_NoFont.1, xk_NoFont.2, fi_NoFont⟩⟩
  have E_NoLine : Oo K mg "NoLine" c_NoLine := ⟨PySem.W.mg_of X G cm_NoLine, ⟨xk_NoLine.1, xk_NoLine.2, fi_NoLine⟩⟩
  have E_NoNote : Oe l.prog w K mg base "NoNote" c_NoNote ["self", "row"] 1 (spE1 c_NoNote "row") := ⟨ia_NoNote, _, PySem.W.mg_of X G cm_NoNote, ⟨xk_NoNote.1, xk_NoNote.2, fi_NoNote, it_NoNote⟩, FI_NoNote.binds (ps := ["self", "row"]) fun _ _ _ _ _ _ us hl => match us, hl with | [_, _], _ => rfl, oi_NoNote Z FI_NoNote⟩
  have E_NoText : Oe l.prog w K mg base "NoText" c_NoText ["self", "at"] 1 (spE1 c_NoText "at") := ⟨ia_NoText, _, PySem.W.mg_of X G cm_NoText, ⟨xk_NoText.1, xk_NoText.2, fi_NoText, it_NoText⟩, FI_NoText.binds (ps := ["self", "at"]) fun _ _ _ _ _ _ us hl => match us, hl with | [_, _], _ => rfl, oi_NoText Z FI_NoText⟩
  have E_NoRow : Oo K mg "NoRow" c_NoRow := ⟨PySem.W.mg_of X G cm_NoRow, ⟨xk_NoRow.1, xk_NoRow.2, fi_NoRow⟩⟩
  have O_iswhole := ok_iswhole (P := l.prog) (w := w) (base := base) D1  B
  have O_iswithin := ok_iswithin (P := l.prog) (w := w) (base := base) D2 O_iswhole B
  have O_isside := ok_isside (P := l.prog) (w := w) (base := base) D3 O_iswithin B
  have O_iscell := ok_iscell (P := l.prog) (w := w) (base := base) D4 O_iswithin B
  have O_iscellsrow := ok_iscellsrow (P := l.prog) (w := w) (base := base) D5 O_isside O_iscell B
  have O_paintof := ok_paintof (P := l.prog) (w := w) (base := base) D6  B
  have O_maskof := ok_maskof (P := l.prog) (w := w) (base := base) D7  B
  have O_packed := ok_packed (P := l.prog) (w := w) (base := base) D8 O_paintof O_maskof B
  have O_pictured := ok_pictured (P := l.prog) (w := w) (base := base) D9 Z O_isside O_iscellsrow O_packed E_NoPicture B
  have O_lawdraw := ok_lawdraw (P := l.prog) (w := w) (base := base) D10  B
  have O_lawgreat := ok_lawgreat (P := l.prog) (w := w) (base := base) D11  B
  have O_lawalike := ok_lawalike (P := l.prog) (w := w) (base := base) D12  B
  have O_lawsides := ok_lawsides (P := l.prog) (w := w) (base := base) D13 O_lawdraw B
  have O_lawrows := ok_lawrows (P := l.prog) (w := w) (base := base) D14 O_lawdraw B
  have O_lawpacked := ok_lawpacked (P := l.prog) (w := w) (base := base) D15  B
  have O_lawnocell := ok_lawnocell (P := l.prog) (w := w) (base := base) D16 O_lawdraw O_lawgreat B
  have O_lawnorow := ok_lawnorow (P := l.prog) (w := w) (base := base) D17 O_lawdraw B
  have O_lawspoiled := ok_lawspoiled (P := l.prog) (w := w) (base := base) D18 O_lawdraw O_lawnocell O_lawnorow B
  have O_lawnorows := ok_lawnorows (P := l.prog) (w := w) (base := base) D19 O_lawdraw B
  have O_lawcellis := ok_lawcellis (P := l.prog) (w := w) (base := base) D20  B
  have O_lawfault := ok_lawfault (P := l.prog) (w := w) (base := base) D21 O_lawcellis B
  have O_lawapart := ok_lawapart (P := l.prog) (w := w) (base := base) D22 Z  B
  have O_lawasked := ok_lawasked (P := l.prog) (w := w) (base := base) D23 Z O_pictured O_lawapart B
  exact ok_law D24 O_lawdraw O_lawalike O_lawsides O_lawrows O_lawpacked O_lawspoiled O_lawnorows O_lawfault O_lawasked B
theorem walk {l : PySem.W.OpenLaw} {q : Program} {loose : List Str} {XP : (Str → Option Value) → Heap → Prop} {YP : World → Heap → Prop} {d : DefRec} {K : Params → PySem.W.Frag} (hn : l.most = some 63) (hdf : d.params.defaults = [])
    (hY : ∀ (w : World) (h : Heap), YP w h → (K w.params).In h)
    (F : ∀ (w : World) (mg : Str → Option Value) (fa : Addr) (h : Heap), (K w.params).In h → h.Ns mainGlobals mg → mg d.name = some (.ref fa) →
      ∃ fd : FuncData, (∀ (s : Shared) (u : Value), BindsTo s fd ⟨[u], []⟩ [("_law_script", u)]) ∧ ∀ base : Heap, (K w.params).In base → base.Ns mainGlobals mg → FnOk l.prog w (K w.params) mg base CX0 7 fa fd ["_law_script"] (spLaw (K w.params))) :
    PySem.W.WalkO q loose XP YP l.row.toRowW d [] (fun f vs => PySem.call f vs) :=
  L2.walk_of (n := 63) (k := 7) (x := "_law_script") (CX := fun _ => CX0) (sp := fun w => spLaw (K w.params)) hn (by decide) hdf ⟨rfl, by decide, by decide⟩ hY F (fun _ _ a ns hl _ hS => ⟨a, ns, rfl, hS, hl, fun _ => rfl⟩) fun _ _ _ _ _ z => z
end K04
open PySem PySem.W PyProof.Rows
set_option maxRecDepth 100000 in
set_option maxHeartbeats 0 in
theorem PySem.Challenge.cw_glowboard_k04_what_makes_no_picture_holds : PySem.Challenge.rw_glowboard_k04_what_makes_no_picture.Holds := by
  w_on; o_law; k_head; (case hw => w_witness2)
  k_fill
  refine K04.walk (l := PySem.Challenge.rw_glowboard_k04_what_makes_no_picture) rfl rfl (fun w h Y => PySem.W.kIn_of Y) ?F
  case F =>
    intro w mg fa h KX G hmg
    refine' K04.all_mk KX G hmg ?a1 ?l1 ?c1 ?k1 ?a2 ?l2 ?c2 ?k2 ?a3 ?l3 ?c3 ?k3 ?a4 ?l4 ?c4 ?k4 ?a5 ?l5 ?c5 ?k5 ?a6 ?l6 ?c6 ?k6 ?a7 ?l7 ?c7 ?k7 ?a8 ?l8 ?c8 ?k8 ?a9 ?l9 ?c9 ?k9 ?a10 ?l10 ?c10 ?k10 ?a11 ?l11 ?c11 ?k11 ?a12 ?l12 ?c12 ?k12 ?a13 ?l13 ?c13 ?k13 ?a14 ?l14 ?c14 ?k14 ?a15 ?l15 ?c15 ?k15 ?a16 ?l16 ?c16 ?k16 ?a17 ?l17 ?c17 ?k17 ?a18 ?l18 ?c18 ?k18 ?a19 ?l19 ?c19 ?k19 ?a20 ?l20 ?c20 ?k20 ?a21 ?l21 ?c21 ?k21 ?a22 ?l22 ?c22 ?k22 ?a23 ?l23 ?c23 ?k23 ?a24 ?l24 ?c24 ?k24 ?z1 ?z2 ?z3 ?z4 ?z5 ?z6 ?z7 ?z8 ?z9 ?z10 ?z11 ?z12 ?cm_GlowError ?cm_NoPicture ?cm_NoTable ?cm_NoFont ?cm_NoLine ?cm_NoNote ?cm_NoText ?cm_NoRow ?gs ?gr ?gf ?fi_NoPicture ?il_NoPicture ?ic_NoPicture ?ik_NoPicture ?it_NoPicture ?ff_NoPicture_row ?fi_NoTable ?fi_NoFont ?fi_NoLine ?fi_NoNote ?il_NoNote ?ic_NoNote ?ik_NoNote ?it_NoNote ?ff_NoNote_row ?fi_NoText ?il_NoText ?ic_NoText ?ik_NoText ?it_NoText ?ff_NoText_at ?fi_NoRow ?xall ?kall ?k_tup ?aball
    (case a1 => k_is); (case l1 => k_is); (case c1 => k_is); (case k1 => k_is)
    (case a2 => k_is); (case l2 => k_is); (case c2 => k_is); (case k2 => k_is)
    (case a3 => k_is); (case l3 => k_is); (case c3 => k_is); (case k3 => k_is)
    (case a4 => k_is); (case l4 => k_is); (case c4 => k_is); (case k4 => k_is)
    (case a5 => k_is); (case l5 => k_is); (case c5 => k_is); (case k5 => k_is)
    (case a6 => k_is); (case l6 => k_is); (case c6 => k_is); (case k6 => k_is)
    (case a7 => k_is); (case l7 => k_is); (case c7 => k_is); (case k7 => k_is)
    (case a8 => k_is); (case l8 => k_is); (case c8 => k_is); (case k8 => k_is)
    (case a9 => k_is); (case l9 => k_is); (case c9 => k_is); (case k9 => k_is)
    (case a10 => k_is); (case l10 => k_is); (case c10 => k_is); (case k10 => k_is)
    (case a11 => k_is); (case l11 => k_is); (case c11 => k_is); (case k11 => k_is)
    (case a12 => k_is); (case l12 => k_is); (case c12 => k_is); (case k12 => k_is)
    (case a13 => k_is); (case l13 => k_is); (case c13 => k_is); (case k13 => k_is)
    (case a14 => k_is); (case l14 => k_is); (case c14 => k_is); (case k14 => k_is)
    (case a15 => k_is); (case l15 => k_is); (case c15 => k_is); (case k15 => k_is)
    (case a16 => k_is); (case l16 => k_is); (case c16 => k_is); (case k16 => k_is)
    (case a17 => k_is); (case l17 => k_is); (case c17 => k_is); (case k17 => k_is)
    (case a18 => k_is); (case l18 => k_is); (case c18 => k_is); (case k18 => k_is)
    (case a19 => k_is); (case l19 => k_is); (case c19 => k_is); (case k19 => k_is)
    (case a20 => k_is); (case l20 => k_is); (case c20 => k_is); (case k20 => k_is)
    (case a21 => k_is); (case l21 => k_is); (case c21 => k_is); (case k21 => k_is)
    (case a22 => k_is); (case l22 => k_is); (case c22 => k_is); (case k22 => k_is)
    (case a23 => k_is); (case l23 => k_is); (case c23 => k_is); (case k23 => k_is)
    (case a24 => k_is); (case l24 => k_is); (case c24 => k_is); (case k24 => k_is)
    (case z1 => k_is); (case z2 => k_is); (case z3 => k_is); (case z4 => k_is)
    (case z5 => k_is); (case z6 => k_is); (case z7 => k_is); (case z8 => k_is)
    (case z9 => k_is); (case z10 => k_is); (case z11 => k_is); (case z12 => k_is)
    (case cm_GlowError => k_is); (case cm_NoPicture => k_is); (case cm_NoTable => k_is); (case cm_NoFont => k_is)
    (case cm_NoLine => k_is); (case cm_NoNote => k_is); (case cm_NoText => k_is); (case cm_NoRow => k_is)
    (case gs => k_is); (case gr => k_is); (case gf => k_is); (case fi_NoPicture => k_is)
    (case il_NoPicture => k_is); (case ic_NoPicture => k_is); (case ik_NoPicture => k_is); (case it_NoPicture => k_is)
    (case ff_NoPicture_row => k_is); (case fi_NoTable => k_is); (case fi_NoFont => k_is); (case fi_NoLine => k_is)
    (case fi_NoNote => k_is); (case il_NoNote => k_is); (case ic_NoNote => k_is); (case ik_NoNote => k_is)
    (case it_NoNote => k_is); (case ff_NoNote_row => k_is); (case fi_NoText => k_is); (case il_NoText => k_is)
    (case ic_NoText => k_is); (case ik_NoText => k_is); (case it_NoText => k_is); (case ff_NoText_at => k_is)
    (case fi_NoRow => k_is); (case xall => kernel_rfl); (case kall => kernel_rfl); (case k_tup => kit_is)
    (case aball => kernel_rfl)
#print axioms PySem.Challenge.cw_glowboard_k04_what_makes_no_picture_holds
