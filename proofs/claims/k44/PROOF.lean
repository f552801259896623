import PyProof.Rows.All
import Wide.All
import OpenK.AllK
import Wide.FinOn
import Lean
import PyProof.EqAt
import PyProof.EqKinds
import PyProof.TupleCall
import PySem.Challenge.RW_glowboard_k44_the_first_touch
set_option Elab.async false
set_option linter.all false
set_option maxRecDepth 100000
namespace L2
open PySem PySem.Spec PyProof.Rows
abbrev Key := Sum Int Str
def z7S : Key -> Value -> Bool
  | .inl k, v => Value.isInt k v
  | .inr x, v => Value.isStrOf x v
def zA6 (w : World) : Key -> Int
  | .inl k => hashInt k
  | .inr x => hashStr w x
theorem z0S : ∀ {k : Key} {v : Value}, z7S k v = true -> (∃ i t, k = Sum.inl i /\ v = Value.int i t) \/ (∃ x t, k = Sum.inr x /\ v = Value.str x t)
  | .inl i, v, h => by
    obtain ⟨t, e⟩ := Value.isInt_shape (k := i) (v := v) h
    exact .inl ⟨i, t, rfl, e⟩
  | .inr x, v, h => by
    obtain ⟨t, e⟩ := Value.isStrOf_shape (x := x) (v := v) h
    exact .inr ⟨x, t, rfl, e⟩
theorem z7T (a b : Int) : decide ((Sum.inl a : Key) = Sum.inl b) = (a == b) := by
  by_cases e : a = b
  . subst e; simp
  . have h : ¬ (Sum.inl a : Key) = Sum.inl b := fun q => e (Sum.inl.inj q)
    rw [decide_eq_false h]
    exact (beq_eq_false_iff_ne.mpr e).symm
theorem z7U (a b : Str) : decide ((Sum.inr a : Key) = Sum.inr b) = decide (a = b) := by
  by_cases e : a = b
  . subst e; simp
  . have h : ¬ (Sum.inr a : Key) = Sum.inr b := fun q => e (Sum.inr.inj q)
    rw [decide_eq_false h, decide_eq_false e]
theorem z7V (a : Int) (b : Str) : decide ((Sum.inl a : Key) = Sum.inr b) = false := decide_eq_false (fun q => nomatch q)
theorem z7W (a : Str) (b : Int) : decide ((Sum.inr a : Key) = Sum.inl b) = false := decide_eq_false (fun q => nomatch q)
def z4G (prog : Program) (w : World) : PySem.KeyKind prog w Key where
  is := z7S
  hash := zA6 w
  inj := fun v a b ha hb => by
    rcases z0S ha with ⟨i, t, rfl, rfl⟩ | ⟨x, t, rfl, rfl⟩
    . rcases z0S hb with ⟨j, u, rfl, e⟩ | ⟨y, u, rfl, e⟩
      . injection e with e1 _; rw [e1]
      . exact nomatch e
    . rcases z0S hb with ⟨j, u, rfl, e⟩ | ⟨y, u, rfl, e⟩
      . exact nomatch e
      . injection e with e1 _; rw [e1]
  byValue := fun k v h => by
    rcases z0S h with ⟨i, t, rfl, rfl⟩ | ⟨x, t, rfl, rfl⟩ <;> rfl
  pyHash := fun hv h => by
    rcases z0S hv with ⟨i, t, rfl, rfl⟩ | ⟨x, t, rfl, rfl⟩
    . exact wpAny_pyHash_int h
    . exact wpAny_pyHash_str h
  eqBool := fun hu hv h => by
    rcases z0S hu with ⟨i, t, rfl, rfl⟩ | ⟨x, t, rfl, rfl⟩
    . rcases z0S hv with ⟨j, u, rfl, rfl⟩ | ⟨y, u, rfl, rfl⟩
      . rw [z7T] at h; exact wpAny_eqBool_int h
      . rw [z7V] at h; exact SeqAt.EqAt.int_str i t y u _ _ _ _ h
    . rcases z0S hv with ⟨j, u, rfl, rfl⟩ | ⟨y, u, rfl, rfl⟩
      . rw [z7W] at h; exact SeqAt.EqAt.str_int x t j u _ _ _ _ h
      . rw [z7U] at h; exact wpAny_eqBool_str h
  «strs» := fun k x t v h => by
    rcases z0S h with ⟨i, u, rfl, e⟩ | ⟨y, u, rfl, e⟩
    . exact nomatch e
    . injection e with e1 _
      subst e1
      cases v <;> rfl
inductive V where
  | non | bl (b : Bool) | int (i : Int) | str (x : Str) | byt (b : Array UInt8) | flt (b : UInt64) | ref (a : Addr) | ty (n : String)
  deriving DecidableEq
def RelV : V -> Value -> Prop
  | .non, u => u = Value.none
  | .bl b, u => u = Value.bool b
  | .int i, u => ∃ t, u = Value.int i t
  | .str x, u => ∃ t, u = Value.str x t
  | .byt b, u => ∃ t, u = Value.bytes b t
  | .flt b, u => ∃ t, u = Value.float b t
  | .ref a, u => u = Value.ref a
  | .ty n, u => u = Value.type n
abbrev Vals : List V -> List Value -> Prop := Paired RelV
theorem Vals.length {xs : List V} {us : List Value} (r : Vals xs us) : xs.length = us.length := Paired.length r
theorem Vals.get : ∀ {xs : List V} {us : List Value} {i : Nat} {x : V}, Vals xs us -> xs[i]? = some x -> ∃ u, us[i]? = some u /\ RelV x u
  | _, _, _, _, .nil, e => by simp at e
  | _, _, 0, _, .cons r _, e => by simp at e; subst e; exact ⟨_, rfl, r⟩
  | _, _, i + 1, x, .cons _ t, e => by
    obtain ⟨u, h1, h2⟩ := Vals.get (i := i) (x := x) t (by simpa using e)
    exact ⟨u, by simpa using h1, h2⟩
theorem Vals.set {x : V} {u : Value} (r : RelV x u) : ∀ {xs : List V} {us : List Value} (i : Nat), Vals xs us -> Vals (xs.set i x) (us.set i u)
  | _, _, _, .nil => .nil
  | _, _, 0, .cons _ t => .cons r t
  | _, _, i + 1, .cons q t => .cons q (Vals.set r i t)
theorem Vals.append : ∀ {xs ys : List V} {us ws : List Value}, Vals xs us -> Vals ys ws -> Vals (xs ++ ys) (us ++ ws)
  | _, _, _, _, .nil, s => s
  | _, _, _, _, .cons r t, s => .cons r (Vals.append t s)
theorem Vals.take : ∀ {xs : List V} {us : List Value} (n : Nat), Vals xs us -> Vals (xs.take n) (us.take n)
  | _, _, 0, _ => .nil
  | _, _, _ + 1, .nil => .nil
  | _, _, n + 1, .cons r t => .cons r (Vals.take n t)
theorem Vals.drop : ∀ {xs : List V} {us : List Value} (n : Nat), Vals xs us -> Vals (xs.drop n) (us.drop n)
  | _, _, 0, r => r
  | _, _, _ + 1, .nil => .nil
  | _, _, n + 1, .cons _ t => Vals.drop n t
def RelO : Option V -> Option Value -> Prop
  | some v, some u => RelV v u
  | none, none => True
  | _, _ => False
def KV {κ : Type} : List (κ × V) -> List (κ × Value) -> Prop := Paired fun (p : κ × V) (q : κ × Value) => p.1 = q.1 /\ RelV p.2 q.2
def kV : Key -> V
  | .inl i => .int i
  | .inr x => .str x
inductive HO where
  | lst (xs : List V)
  | tup (xs : List V)
  | dK (kvs : List (Key × V)) | dT (kvs : List (List Key × V))
  | set (S : Int -> Bool) (n : Nat)
  | ins (C dx : Addr) (fs : List (Str × V))
  | own (x : Addr)
  | xd (fs : List (Str × V))
  | met (f x : Addr)
  | rng (lo hi : Int)
  | frz (o : Obj) (u : HO)
  | tbl (ps : Array Value)
  | ext (φ : Heap -> Prop)
abbrev Hp := Addr -> Option HO
def upd (H : Hp) (a : Addr) (o : HO) : Hp := fun b => if b = a then some o else H b
theorem upd_same {H : Hp} {a : Addr} {o : HO} : upd H a o a = some o := by unfold upd; rw [if_pos rfl]
theorem z0A {H : Hp} {a b : Addr} {o : HO} (h : b ≠ a) : upd H a o b = H b := by unfold upd; rw [if_neg h]
theorem z4H {H : Hp} {a : Addr} {o u : HO} : upd (upd H a o) a u = upd H a u := by
  funext b; unfold upd; split <;> rfl
theorem z7X {H : Hp} {a b : Addr} {o u : HO} (h : H a = some o) (h' : H b = some u) (d : o ≠ u) : a ≠ b := by
  intro e; subst e; rw [h] at h'; exact d (Option.some.inj h')
theorem z0J {H : Hp} {a b : Addr} {o : HO} (h : H a = some o) (h' : H b = none) : a ≠ b := by
  intro e; subst e; rw [h] at h'; cases h'
section
variable (P : Program) (w : World)
def ObjOk (H : Hp) (h : Heap) (a : Addr) : HO -> Prop
  | .lst xs => xs.length <= sizeLine /\ ∃ (its : List Value) (n : Nat), Vals xs its /\ h.get? a = some { cls := .type "list", data := .seq its.toArray n }
  | .tup xs => xs.length <= sizeLine /\ ∃ its : List Value, Vals xs its /\ IsTup h a its.toArray
  | .dK kvs => kvs.length <= sizeLine /\ (a == sysModules) = false /\ ∃ vs, KV kvs vs /\ h.DictOf (z4G P w) a vs
  | .dT kvs => kvs.length <= sizeLine /\ (a == sysModules) = false /\ ∃ xs : List (List Key × Addr × Value),
      Paired (fun (p : List Key × V) (q : List Key × Addr × Value) => p.1 = q.1 /\ H q.2.1 = some (.tup (p.1.map kV)) /\ RelV p.2 q.2.2) kvs xs /\
      ∃ o es ep, h.get? a = some o /\ o.ExactDict /\ o.data = .dict es ep /\ es.toList = xs.map (entryOfKey (tupleKind (z4G P w))) /\ (xs.map (·.1)).Nodup
  | .set S n => h.SetOf (intKind P w) a S n
  | .ins C dx fs => H dx = some (.own a) /\ fs.length <= 1000 /\ dx ≠ a /\ h.get? a = some (PySem.W.instObj C dx) /\
      ∃ mA, h.Ns1 dx mA /\ (∀ f, RelO (fs.lookup f) (mA f)) /\ PySem.Within mA (fs.map (·.1))
  | .own _ => ∃ o, h.get? a = some o
  | .xd fs => ∃ mA, h.Ns1 a mA /\ ∀ f, RelO (fs.lookup f) (mA f)
  | .rng lo hi => ∃ t u v, h.get? a = some { cls := .type "range", data := .fields #[.int lo t, .int hi u, .int 1 v] }
  | .frz o u => h.get? a = some o /\ ObjOk H h a u
  | .tbl ps => h.get? a = some { cls := .none, data := .fields ps }
  | .met f x => h.get? a = some (PySem.W.methodObj (.ref f) (.ref x))
  | .ext φ => φ h /\ (∃ o, h.get? a = some o) /\ ∀ h1 h2 : Heap, φ h1 -> (∀ o, h1.get? a = some o -> h2.get? a = some o) -> φ h2
def HOk (H : Hp) (h : Heap) : Prop := ∀ a o, H a = some o -> ObjOk P w H h a o
end
section
variable {P : Program} {w : World} {H H' : Hp} {h h' : Heap} {a : Addr} {o : HO}
theorem ObjOk.lt (x : ObjOk P w H h a o) : a < h.objs.size := by
  cases o with
  | lst xs => obtain ⟨_, _, _, _, e⟩ := x; exact Heap.lt_size e
  | tup xs => obtain ⟨_, _, _, p⟩ := x; exact p.lt
  | dK kvs => obtain ⟨_, _, _, _, o, _, _, e, _⟩ := x; exact Heap.lt_size e
  | dT kvs => obtain ⟨_, _, _, _, o, _, _, e, _⟩ := x; exact Heap.lt_size e
  | set S n => obtain ⟨o, _, _, _, e, _⟩ := x; exact Heap.lt_size e
  | ins C dx fs => obtain ⟨_, _, _, e, _⟩ := x; exact Heap.lt_size e
  | own y => obtain ⟨_, e⟩ := x; exact Heap.lt_size e
  | xd fs => obtain ⟨_, ⟨_, _, _, e, _⟩, _⟩ := x; exact Heap.lt_size e
  | rng lo hi => obtain ⟨_, _, _, e⟩ := x; exact Heap.lt_size e
  | frz ob u => obtain ⟨e, _⟩ := x; exact Heap.lt_size e
  | tbl ps => exact Heap.lt_size (show h.get? a = some _ from x)
  | met f y => exact Heap.lt_size (show h.get? a = some _ from x)
  | ext φ => obtain ⟨_, ⟨_, e⟩, _⟩ := x; exact Heap.lt_size e
theorem Paired.mapP {α β : Type} {F G : α -> β -> Prop} : ∀ {l₁ : List α} {l₂ : List β}, Paired F l₁ l₂ -> (∀ a b, F a b -> G a b) -> Paired G l₁ l₂
  | _, _, .nil, _ => .nil
  | _, _, .cons r t, f => .cons (f _ _ r) (Paired.mapP t f)
theorem ObjOk.stay (x : ObjOk P w H h a o) (k : ∀ b u, (b = a \/ H b = some (.own a)) -> h.get? b = some u -> h'.get? b = some u)
    (ho : ∀ b, H b = some (.own a) -> H' b = some (.own a)) (ht : ∀ b xs, H b = some (.tup xs) -> H' b = some (.tup xs)) : ObjOk P w H' h' a o := by
  induction o with
  | lst xs => obtain ⟨z, its, n, r, e⟩ := x; exact ⟨z, its, n, r, k _ _ (.inl rfl) e⟩
  | tup xs => obtain ⟨z, its, r, ob, e, c⟩ := x; exact ⟨z, its, r, ob, k _ _ (.inl rfl) e, c⟩
  | dK kvs => obtain ⟨z, y, vs, r, ob, es, ep, e, c⟩ := x; exact ⟨z, y, vs, r, ob, es, ep, k _ _ (.inl rfl) e, c⟩
  | dT kvs =>
    obtain ⟨z, y, xs, r, ob, es, ep, e, c⟩ := x
    exact ⟨z, y, xs, Paired.mapP r fun p q z => ⟨z.1, ht _ _ z.2.1, z.2.2⟩, ob, es, ep, k _ _ (.inl rfl) e, c⟩
  | set S n => obtain ⟨ob, es, ep, t, e, c⟩ := x; exact ⟨ob, es, ep, t, k _ _ (.inl rfl) e, c⟩
  | ins C dx fs =>
    obtain ⟨d, z, ne, e, mA, ⟨od, es, ep, e2, c⟩, r⟩ := x
    exact ⟨ho _ d, z, ne, k _ _ (.inl rfl) e, mA, ⟨od, es, ep, k _ _ (.inr d) e2, c⟩, r⟩
  | own y => obtain ⟨ob, e⟩ := x; exact ⟨ob, k _ _ (.inl rfl) e⟩
  | xd fs => obtain ⟨mA, ⟨od, es, ep, e, c⟩, r⟩ := x; exact ⟨mA, ⟨od, es, ep, k _ _ (.inl rfl) e, c⟩, r⟩
  | rng lo hi => obtain ⟨t, u, v, e⟩ := x; exact ⟨t, u, v, k _ _ (.inl rfl) e⟩
  | frz ob u ih => obtain ⟨e, q⟩ := x; exact ⟨k _ _ (.inl rfl) e, ih q⟩
  | tbl ps =>
    have e : h.get? a = some { cls := .none, data := .fields ps } := x
    show h'.get? a = some { cls := .none, data := .fields ps }
    exact k a _ (.inl rfl) e
  | met f y =>
    have e : h.get? a = some (PySem.W.methodObj (.ref f) (.ref y)) := x
    show h'.get? a = some (PySem.W.methodObj (.ref f) (.ref y))
    exact k a _ (.inl rfl) e
  | ext φ => obtain ⟨p, ⟨o, e⟩, st⟩ := x; exact ⟨st _ _ p fun o q => k _ _ (.inl rfl) q, ⟨o, k _ _ (.inl rfl) e⟩, st⟩
theorem HOk.lt (x : HOk P w H h) (e : H a = some o) : a < h.objs.size := (x a o e).lt
theorem HOk.fresh (x : HOk P w H h) (e : h.objs.size <= a) : H a = none := by
  cases q : H a with
  | none => rfl
  | some u => exact absurd (Nat.lt_of_lt_of_le (x.lt q) e) (Nat.lt_irrefl _)
theorem HOk.kept (x : HOk P w H h) (k : ∀ b u, h.get? b = some u -> h'.get? b = some u) : HOk P w H h' := fun a o e =>
  (x a o e).stay (fun b u _ q => k b u q) (fun _ q => q) fun _ _ q => q
theorem HOk.laid (x : HOk P w H h) (k : ∀ b u, h.get? b = some u -> h'.get? b = some u) (hp : h.objs.size <= a) (new : ObjOk P w (upd H a o) h' a o) : HOk P w (upd H a o) h' := fun b u e => by
  have hn := x.fresh hp
  by_cases hb : b = a
  . subst hb; rw [upd_same] at e; cases e; exact new
  . rw [z0A hb] at e
    exact (x b u e).stay (fun c v _ q => k c v q) (fun c q => by rw [z0A (z0J q hn)]; exact q) fun c xs q => by rw [z0A (z0J q hn)]; exact q
end
def Rd (H : Hp) (a : Addr) (u : HO) : Prop := H a = some u \/ ∃ o, H a = some (.frz o u)
theorem Rd.of {H : Hp} {a : Addr} {u : HO} (h : H a = some u) : Rd H a u := .inl h
theorem Rd.ok {P : Program} {w : World} {H : Hp} {h : Heap} {a : Addr} {u : HO} (r : Rd H a u) (x : HOk P w H h) : ObjOk P w H h a u := by
  rcases r with r | ⟨o, r⟩
  . exact x a u r
  . obtain ⟨_, q⟩ := x a _ r
    exact q
def Mut : Option HO -> Prop
  | some (.lst _) => True
  | some (.dK _) => True
  | some (.dT _) => True
  | some (.set _ _) => True
  | some (.ins _ _ _) => True
  | some (.ext _) => True
  | _ => False
section
variable {P : Program} {w : World} {H : Hp} {h h' : Heap} {x e : Addr} {o' : HO}
theorem HOk.write (ok : HOk P w H h) (mu : Mut (H x)) (he : e = x \/ H e = some (.own x)) (k : ∀ b u, b ≠ e -> h.get? b = some u -> h'.get? b = some u) (heo : ∃ u, h'.get? e = some u)
    (new : ObjOk P w (upd H x o') h' x o') : HOk P w (upd H x o') h' := fun b u q => by
  have nown : ∀ c y, H c = some (.own y) -> c ≠ x := fun c y r z => by subst z; rw [r] at mu; exact mu
  have ntup : ∀ c xs, H c = some (.tup xs) -> c ≠ x := fun c xs r z => by subst z; rw [r] at mu; exact mu
  by_cases hb : b = x
  . subst hb; rw [upd_same] at q; cases q; exact new
  . rw [z0A hb] at q
    by_cases hbe : b = e
    . have q' : H b = some (.own x) := by
        rcases he with z | z
        . exact absurd (hbe.trans z) hb
        . rw [hbe]; exact z
      rw [q] at q'; cases q'
      obtain ⟨v, hv⟩ := heo
      exact ⟨v, by rw [hbe]; exact hv⟩
    . refine (ok b u q).stay (fun c v hc r => k c v ?_ r) (fun c r => by rw [z0A (nown c b r)]; exact r) fun c xs r => by rw [z0A (ntup c xs r)]; exact r
      rcases hc with rfl | hc
      . exact hbe
      . rintro rfl
        rcases he with z | z
        . exact nown c b hc z
        . rw [hc] at z; cases z; exact hb rfl
end
structure Un (fs ex : List Addr) (H H' : Hp) (h h' : Heap) : Prop where
  keep : ∀ b o, h.get? b = some o -> H b = none -> b ∉ fs -> b ∉ ex -> h'.get? b = some o
  slot : ∀ b o, h.get? b = some o -> H b = none -> b ∈ fs -> b ∉ ex -> ∃ sl, h'.get? b = some { o with slots := sl }
  free : ∀ b o, h.get? b = some o -> H b = none -> b ∉ ex -> H' b = none
  there : ∀ b o, h.get? b = some o -> b ∉ ex -> ∃ o', h'.get? b = some o'
  tups : ∀ b xs, H b = some (.tup xs) -> H' b = some (.tup xs)
  frzs : ∀ b o u, H b = some (.frz o u) -> H' b = some (.frz o u)
  tbls : ∀ b ps, H b = some (.tbl ps) -> ∃ more, H' b = some (.tbl (ps ++ more))
section
variable {fs fs' ex ex' : List Addr} {H H1 H2 : Hp} {h h1 h2 h' : Heap} {a x e : Addr} {o : HO}
theorem Un.any (u : Un fs ex H H1 h h1) {b : Addr} {ob : Obj} (q : h.get? b = some ob) (n : H b = none) (hx : b ∉ ex) : ∃ sl, h1.get? b = some { ob with slots := sl } := by
  by_cases hb : b ∈ fs
  . exact u.slot b ob q n hb hx
  . exact ⟨ob.slots, u.keep b ob q n hb hx⟩
theorem Un.trans (a : Un fs ex H H1 h h1) (b : Un fs ex H1 H2 h1 h2) : Un fs ex H H2 h h2 where
  keep := fun c ob q n hc hx => b.keep c ob (a.keep c ob q n hc hx) (a.free c ob q n hx) hc hx
  slot := fun c ob q n hc hx => by
    obtain ⟨sl, e1⟩ := a.slot c ob q n hc hx
    obtain ⟨sl', e2⟩ := b.slot c _ e1 (a.free c ob q n hx) hc hx
    exact ⟨sl', e2⟩
  free := fun c ob q n hx => by
    obtain ⟨o', e1⟩ := a.there c ob q hx
    exact b.free c o' e1 (a.free c ob q n hx) hx
  there := fun c ob q hx => by
    obtain ⟨o', e1⟩ := a.there c ob q hx
    exact b.there c o' e1 hx
  tups := fun c xs q => b.tups c xs (a.tups c xs q)
  frzs := fun c ob xs q => b.frzs c ob xs (a.frzs c ob xs q)
  tbls := fun c ps q => by
    obtain ⟨m1, e1⟩ := a.tbls c ps q
    obtain ⟨m2, e2⟩ := b.tbls c _ e1
    exact ⟨m1 ++ m2, by rw [e2, Array.append_assoc]⟩
theorem Un.kept (k : ∀ b u, h.get? b = some u -> h'.get? b = some u) : Un fs ex H H h h' :=
  ⟨fun b ob q _ _ _ => k b ob q, fun b ob q _ _ _ => ⟨ob.slots, k b ob q⟩, fun _ _ _ n _ => n, fun b ob q _ => ⟨ob, k b ob q⟩, fun _ _ q => q, fun _ _ _ q => q, fun _ ps q => ⟨#[], by rw [q]; simp⟩⟩
theorem Un.refl : Un fs ex H H h h := Un.kept fun _ _ q => q
theorem Un.laid (k : ∀ b u, h.get? b = some u -> h'.get? b = some u) (hp : h.objs.size <= a) (hn : H a = none) : Un fs ex H (upd H a o) h h' where
  keep := fun b u q _ _ _ => k b u q
  slot := fun b u q _ _ _ => ⟨u.slots, k b u q⟩
  free := fun b u q n _ => by rw [z0A (Nat.ne_of_lt (Nat.lt_of_lt_of_le (Heap.lt_size q) hp))]; exact n
  there := fun b u q _ => ⟨u, k b u q⟩
  tups := fun b xs q => by rw [z0A (z0J q hn)]; exact q
  frzs := fun b u xs q => by rw [z0A (z0J q hn)]; exact q
  tbls := fun b ps q => ⟨#[], by rw [z0A (z0J q hn), q]; simp⟩
theorem Un.write (mu : Mut (H x)) (he : e = x \/ H e = some (.own x)) (k : ∀ b u, b ≠ e -> h.get? b = some u -> h'.get? b = some u) (heo : ∃ u, h'.get? e = some u) : Un fs ex H (upd H x o) h h' := by
  have hx : ∀ b, H b = none -> b ≠ x := fun b n z => by subst z; rw [n] at mu; exact mu
  have hb : ∀ b, H b = none -> b ≠ e := fun b n z => by
    subst z
    rcases he with r | r
    . exact hx b n r
    . rw [n] at r; cases r
  have hm : ∀ b u, H b = some u -> ¬ Mut (some u) -> b ≠ x := fun b u q nm z => by subst z; rw [q] at mu; exact nm mu
  refine ⟨fun b u q n _ _ => k b u (hb b n) q, fun b u q n _ _ => ⟨u.slots, k b u (hb b n) q⟩, fun b u q n _ => by rw [z0A (hx b n)]; exact n, fun b u q _ => ?_,
    fun b xs q => by rw [z0A (hm b _ q fun z => z)]; exact q, fun b u xs q => by rw [z0A (hm b _ q fun z => z)]; exact q, fun b ps q => ⟨#[], by rw [z0A (hm b _ q fun z => z), q]; simp⟩⟩
  by_cases hbe : b = e
  . subst hbe; exact heo
  . exact ⟨u, k b u hbe q⟩
theorem Un.mono (u : Un fs ex H H1 h h1) (hs : ∀ b ∈ fs, b ∈ fs') (hx : ∀ b ∈ ex, b ∈ ex') : Un fs' ex' H H1 h h1 :=
  ⟨fun b ob q n hb he => u.keep b ob q n (fun z => hb (hs b z)) fun z => he (hx b z), fun _ _ q n _ he => u.any q n fun z => he (hx _ z), fun b ob q n he => u.free b ob q n fun z => he (hx b z), fun b ob q he => u.there b ob q fun z => he (hx b z), u.tups, u.frzs, u.tbls⟩
end
def trk (h : Heap) (H : Hp) : List Addr := (List.range h.objs.size).filter fun a => (H a).isSome
def z5f (h : Heap) (H : Hp) : Heap := PySem.W.hideAll h (trk h H)
theorem z4I (h : Heap) (H : Hp) : (z5f h H).objs.size = h.objs.size := PySem.W.hideAll_size _ _
theorem z5g {h : Heap} {H : Hp} {b : Addr} {o : Obj} (e : h.get? b = some o) (n : H b = none) : (z5f h H).get? b = some o :=
  PySem.W.hideAll_get _ e fun hm => by
    have q : (H b).isSome = true := (List.mem_filter.mp hm).2
    rw [n] at q; simp at q
theorem z6Z {h : Heap} {H : Hp} {b : Addr} {o : Obj} (e : (z5f h H).get? b = some o) : h.get? b = some o /\ H b = none := by
  have e' : h.get? b = some o := PySem.W.of_hideAll (trk h H) e
  refine ⟨e', ?_⟩
  cases q : H b with
  | none => rfl
  | some x =>
    have hm : b ∈ trk h H := List.mem_filter.mpr ⟨List.mem_range.mpr (Heap.lt_size e'), by simp [q]⟩
    have z : (z5f h H).get? b = none := PySem.W.hideAll_none (trk h H) hm
    rw [z] at e; cases e
def z6a (g h : Heap) (L : Addr) : List (Addr × Obj) := (List.range h.objs.size).filterMap fun a => if a = L \/ (g.get? a).isSome = true then none else (h.get? a).map fun o => (a, o)
def rest (g h : Heap) (L d : Addr) : List (Addr × Obj) := (z6a g h L).filter fun p => decide (p.1 ≠ d)
structure Mod (K : PySem.W.Frag) (mg : Str -> Option Value) (base : Heap) : Prop where
  kin : K.In base
  glob : base.Ns mainGlobals mg
  blt : ∃ mb, base.Ns builtinsNs mb /\ ∀ x : Str, x ≠ "__name__" -> mb x = bootBuiltins x
  nolimit : base.NoLimit
structure Cx where
  prog : Program
  w : World
  K : PySem.W.Frag
  mg : Str -> Option Value
  base : Heap
  A : Around
  N : List Str
  s₀ : Shared
  H₀ : Hp
  env : Env
  outer : List Env
  stack : List Env
  ex : List Addr
  fn : Str -> Bool
  calm : Bool
  pn : List (Addr × Obj)
  xe : Value -> Shared -> Prop
def frs (l : List Env) : List Addr := l.filterMap (·.frame)
abbrev Cx.fs (X : Cx) : List Addr := frs X.outer
def Vis (sc : Scope) (x : Str) : Prop := sc.names.lookup x = some .local \/ sc.names.lookup x = some .cell \/ sc.names.lookup x = some .free
def Loc (sc : Scope) (x : Str) : Prop := sc.names.lookup x = some .local \/ sc.names.lookup x = some .cell
def Look (env : Env) (h : Heap) (m : Str -> Option Value) (x : Str) (u : Value) : Prop :=
  (env.kindOf x = some .local /\ m x = some u) \/ ((env.kindOf x = some .cell \/ env.kindOf x = some .free) /\ ∃ c, env.cells.lookup x = some c /\ h.IsCell c (some u))
structure Cx.Ok (X : Cx) : Prop where
  mod : Mod X.K X.mg X.base
  kind : X.env.scope.kind = .function
  glob : X.env.globals = mainGlobals
  blt : X.env.builtins = builtinsNs
  above : X.s₀.heap.objs.size <= X.env.locals
  inj : ∀ x y c, X.env.cells.lookup x = some c -> X.env.cells.lookup y = some c -> x = y
  has : ∀ x, (X.env.kindOf x = some .cell \/ X.env.kindOf x = some .free) -> ∃ c, X.env.cells.lookup x = some c
  cab : ∀ x c, X.fn x = true -> X.env.cells.lookup x = some c -> X.s₀.heap.objs.size <= c
  hd : X.calm = true -> X.A.handled = none
  frames : X.A.frames = some X.stack
  stk : X.stack = X.outer \/ (X.stack = X.env :: X.outer /\ X.env.frame = some X.env.locals)
  exf : ∀ b ∈ X.ex, b ≠ X.env.locals /\ ∀ x c, X.env.cells.lookup x = some c -> c ≠ b
  bs : ∀ b o, X.base.get? b = some o -> X.s₀.heap.get? b = some o /\ X.H₀ b = none
  bsz : X.base.objs.size <= X.s₀.heap.objs.size
  noex : ∀ b o, X.base.get? b = some o -> b ∉ X.ex
  exfs : ∀ b ∈ X.ex, b ∉ X.fs
  funs : X.s₀.heap.FunFrames X.base X.outer
  frf : ∀ b ∈ X.fs, X.H₀ b = none
structure Inv (X : Cx) (pins : List (Addr × Obj)) (σ : List (Option V)) (H : Hp) (s : Shared) : Prop where
  ok : X.Ok
  os : s.os = X.s₀.os
  bare : AllBare s.gens
  base : Un X.fs X.ex X.H₀ H X.s₀.heap s.heap
  loc : ∃ m, s.heap.Ns X.env.locals m /\ ∀ (i : Nat) (x : Str) (v : V), X.N[i]? = some x -> σ[i]? = some (some v) -> Vis X.env.scope x -> ∃ u, RelV v u /\ Look X.env s.heap m x u
  cell : ∀ x c, X.env.cells.lookup x = some c -> ∃ v, s.heap.IsCell c v
  free : H X.env.locals = none
  freeC : ∀ x c, X.env.cells.lookup x = some c -> H c = none
  pin : ∀ p ∈ X.pn ++ pins, s.heap.get? p.1 = some p.2 /\ H p.1 = none /\ p.1 ≠ X.env.locals /\ p.1 ∉ X.fs /\ ∀ v, p.2.data ≠ .cell v
  hok : HOk X.prog X.w H s.heap
  len : σ.length = X.N.length
section
variable {X : Cx} {pins : List (Addr × Obj)} {σ : List (Option V)} {H H' : Hp} {s : Shared} {h' : Heap}
theorem Cx.Ok.nofr (ok : X.Ok) {b : Addr} {o : Obj} (e : X.base.get? b = some o) : b ∉ X.fs := fun hb => by
  have := (ok.funs.mem hb).1
  rw [e] at this; cases this
theorem Inv.bs (I : Inv X pins σ H s) : ∀ b o, X.base.get? b = some o -> s.heap.get? b = some o /\ H b = none := fun b o e =>
  ⟨I.base.keep b o (I.ok.bs b o e).1 (I.ok.bs b o e).2 (I.ok.nofr e) (I.ok.noex b o e), I.base.free b o (I.ok.bs b o e).1 (I.ok.bs b o e).2 (I.ok.noex b o e)⟩
theorem Inv.bk (I : Inv X pins σ H s) : ∀ b o, X.base.get? b = some o -> s.heap.get? b = some o := fun b o e => (I.bs b o e).1
theorem Inv.mod (I : Inv X pins σ H s) : Mod X.K X.mg X.base := I.ok.mod
theorem Inv.kIn (I : Inv X pins σ H s) : X.K.In s.heap := I.ok.mod.kin.keeps I.bk
theorem Inv.nolimit (I : Inv X pins σ H s) : s.heap.NoLimit := I.ok.mod.nolimit.keeps I.bk
theorem Inv.fr (I : Inv X pins σ H s) : ∃ m, Fr X.base X.env.locals s.heap m :=
  let ⟨m, hn, _⟩ := I.loc
  ⟨m, hn, I.bk, Nat.le_trans I.ok.bsz I.ok.above⟩
theorem Inv.lt (I : Inv X pins σ H s) : X.env.locals < s.heap.objs.size := let ⟨_, hn, _⟩ := I.loc; hn.lt
theorem Inv.sz (I : Inv X pins σ H s) : X.s₀.heap.objs.size <= s.heap.objs.size := Nat.le_trans I.ok.above (Nat.le_of_lt I.lt)
theorem Inv.nofs (I : Inv X pins σ H s) {a : Addr} (h : s.heap.objs.size <= a) : a ∉ X.fs := fun hb => by
  obtain ⟨_, o, ho, _⟩ := I.ok.funs.mem hb
  exact absurd (Nat.lt_of_lt_of_le (Heap.lt_size ho) (Nat.le_trans I.sz h)) (Nat.lt_irrefl _)
theorem Inv.cne (I : Inv X pins σ H s) : ∀ x c, X.env.cells.lookup x = some c -> c ≠ X.env.locals := fun x c e z => by
  obtain ⟨v, o, ho, hd⟩ := I.cell x c e
  obtain ⟨m, ⟨o', es, ep, ho', hd', _⟩, _⟩ := I.loc
  rw [z, ho'] at ho; cases ho; rw [hd'] at hd; cases hd
theorem Inv.funs (I : Inv X pins σ H s) : s.heap.FunFrames X.base X.outer := by
  have all : ∀ (l : List Env), (∀ b ∈ frs l, b ∈ X.fs) -> X.s₀.heap.FunFrames X.base l -> s.heap.FunFrames X.base l := by
    intro l
    induction l with
    | nil => intro _ _; trivial
    | cons env r ih =>
      intro hs hl
      obtain ⟨hk, ⟨L, o, hf, hn, ho, hd⟩, hr⟩ := hl
      have hL : L ∈ X.fs := hs L (by unfold frs; rw [List.filterMap_cons, hf]; exact List.mem_cons_self)
      obtain ⟨sl, e⟩ := I.base.slot L o ho (I.ok.frf L hL) hL fun z => I.ok.exfs L z hL
      exact ⟨hk, ⟨L, _, hf, hn, e, hd⟩, ih (fun b hb => hs b (by unfold frs; rw [List.filterMap_cons, hf]; exact List.mem_cons_of_mem _ hb)) hr⟩
  exact all X.outer (fun _ hb => hb) I.ok.funs
theorem Inv.stack (I : Inv X pins σ H s) : s.heap.FunFrames X.base X.stack := by
  rcases I.ok.stk with e | ⟨e, hf⟩
  . rw [e]; exact I.funs
  . rw [e]
    obtain ⟨m, hn, _⟩ := I.loc
    refine .cons (by rw [I.ok.kind]; decide) hf hn ?_ I.funs
    exact Heap.get?_none_of_le (Nat.le_trans I.ok.bsz I.ok.above)
theorem Inv.stkSub (I : Inv X pins σ H s) : ∀ b ∈ frs X.stack, b ∈ X.env.locals :: X.fs := fun b hb => by
  rcases I.ok.stk with e | ⟨e, hf⟩
  . rw [e] at hb; exact List.mem_cons_of_mem _ hb
  . rw [e] at hb
    unfold frs at hb
    rw [List.filterMap_cons, hf] at hb
    exact hb
theorem Inv.stkFree (I : Inv X pins σ H s) : ∀ b ∈ frs X.stack, H b = none := fun b hb => by
  rcases List.mem_cons.mp (I.stkSub b hb) with e | hb
  . rw [e]; exact I.free
  . obtain ⟨_, o, ho, _⟩ := I.ok.funs.mem hb
    exact I.base.free b o ho (I.ok.frf b hb) fun z => I.ok.exfs b z hb
theorem Inv.step {g' : Array GenState} {t' : Nat} {d' : Drawn} {ch : List Addr} (I : Inv X pins σ H s)
    (hch : ∀ b ∈ ch, (b ∈ X.ex \/ X.s₀.heap.objs.size <= b) /\ b ≠ X.env.locals /\ (∀ x c, X.env.cells.lookup x = some c -> c ≠ b) /\ ∀ p ∈ X.pn ++ pins, p.1 ≠ b)
    (keep : ∀ b o, b ≠ X.env.locals -> b ∉ X.fs -> b ∉ ch -> s.heap.get? b = some o -> H b = none -> h'.get? b = some o)
    (slot : ∀ b o, b ≠ X.env.locals -> b ∈ X.fs -> b ∉ ch -> s.heap.get? b = some o -> H b = none -> ∃ sl, h'.get? b = some { o with slots := sl }) (free : ∀ b o, b ∉ ch -> s.heap.get? b = some o -> H b = none -> H' b = none)
    (there : ∀ b o, b ∉ ch -> s.heap.get? b = some o -> ∃ o', h'.get? b = some o')
    (tups : ∀ b xs, H b = some (.tup xs) -> H' b = some (.tup xs)) (frzs : ∀ b o u, H b = some (.frz o u) -> H' b = some (.frz o u)) (tbls : ∀ b ps, H b = some (.tbl ps) -> ∃ more, H' b = some (.tbl (ps ++ more)))
    (ns : ∀ m, s.heap.Ns X.env.locals m -> h'.Ns X.env.locals m) (hok : HOk X.prog X.w H' h') (hg : AllBare g') :
    Inv X pins σ H' { s with heap := h', gens := g', drawn := d', toks := t' } := by
  have neL : ∀ b o, X.s₀.heap.get? b = some o -> b ≠ X.env.locals := fun b o e => Nat.ne_of_lt (Nat.lt_of_lt_of_le (Heap.lt_size e) I.ok.above)
  have neC : ∀ b o, X.s₀.heap.get? b = some o -> b ∉ X.ex -> b ∉ ch := fun b o e hx hb => by
    rcases (hch b hb).1 with z | z
    . exact hx z
    . exact absurd (Nat.lt_of_lt_of_le (Heap.lt_size e) z) (Nat.lt_irrefl _)
  have cellK : ∀ x c, X.env.cells.lookup x = some c -> ∀ v, s.heap.IsCell c v -> h'.IsCell c v := fun x c e v ⟨o, ho, hd⟩ => by
    have nch : c ∉ ch := fun z => (hch c z).2.2.1 x c e rfl
    by_cases hc : c ∈ X.fs
    . obtain ⟨sl, q⟩ := slot c o (I.cne x c e) hc nch ho (I.freeC x c e)
      exact ⟨_, q, hd⟩
    . exact ⟨o, keep c o (I.cne x c e) hc nch ho (I.freeC x c e), hd⟩
  refine ⟨I.ok, I.os, hg, ⟨fun b o e n hb hx => ?_, fun b o e n hb hx => ?_, fun b o e n hx => ?_, fun b o e hx => ?_, fun b xs e => tups b xs (I.base.tups b xs e), fun b o xs e => frzs b o xs (I.base.frzs b o xs e), fun b ps e => ?_⟩, ?_, fun x c e => ?_, ?_, fun x c e => ?_, fun p hp => ?_, hok, I.len⟩
  . exact keep b o (neL b o e) hb (neC b o e hx) (I.base.keep b o e n hb hx) (I.base.free b o e n hx)
  . obtain ⟨sl, e1⟩ := I.base.slot b o e n hb hx
    obtain ⟨sl', e2⟩ := slot b _ (neL b o e) hb (neC b o e hx) e1 (I.base.free b o e n hx)
    exact ⟨sl', e2⟩
  . obtain ⟨o', e1⟩ := I.base.there b o e hx
    exact free b o' (neC b o e hx) e1 (I.base.free b o e n hx)
  . obtain ⟨o', e1⟩ := I.base.there b o e hx
    exact there b o' (neC b o e hx) e1
  . obtain ⟨m1, e1⟩ := I.base.tbls b ps e
    obtain ⟨m2, e2⟩ := tbls b _ e1
    exact ⟨m1 ++ m2, by rw [e2, Array.append_assoc]⟩
  . obtain ⟨m, hn, hl⟩ := I.loc
    refine ⟨m, ns m hn, fun i x v e1 e2 e3 => ?_⟩
    obtain ⟨u, r, l⟩ := hl i x v e1 e2 e3
    refine ⟨u, r, ?_⟩
    rcases l with l | ⟨k, c, e, z⟩
    . exact .inl l
    . exact .inr ⟨k, c, e, cellK x c e _ z⟩
  . obtain ⟨v, z⟩ := I.cell x c e
    exact ⟨v, cellK x c e v z⟩
  . obtain ⟨m, ⟨o, _, _, ho, _⟩, _⟩ := I.loc
    exact free _ o (fun z => (hch _ z).2.1 rfl) ho I.free
  . obtain ⟨v, o, ho, hd⟩ := I.cell x c e
    exact free c o (fun z => (hch c z).2.2.1 x c e rfl) ho (I.freeC x c e)
  . obtain ⟨e, n, ne, nf, d⟩ := I.pin p hp
    have nch : p.1 ∉ ch := fun z => (hch p.1 z).2.2.2 p hp rfl
    exact ⟨keep p.1 p.2 ne nf nch e n, free p.1 p.2 nch e n, ne, nf, d⟩
theorem Inv.un {t' : Nat} (I : Inv X pins σ H s) (u : Un X.fs [] H H' s.heap h') (hok : HOk X.prog X.w H' h') : Inv X pins σ H' { s with heap := h', toks := t' } := by
  obtain ⟨m, ⟨o, es, ep, ho, r⟩, _⟩ := id I.loc
  obtain ⟨sl, hL⟩ := u.any ho I.free (by simp)
  exact I.step (g' := s.gens) (d' := s.drawn) (ch := []) (fun _ z => nomatch z) (fun b o _ hb _ e n => u.keep b o e n hb (by simp)) (fun b o _ hb _ e n => u.slot b o e n hb (by simp)) (fun b o _ e n => u.free b o e n (by simp)) (fun b o _ e => u.there b o e (by simp)) u.tups u.frzs u.tbls (fun m' hm => by
    obtain ⟨o', es', ep', ho', r'⟩ := hm
    rw [ho] at ho'; cases ho'
    exact ⟨_, es', ep', hL, r'⟩) hok I.bare
theorem Inv.call {g' : Array GenState} {t' : Nat} {d' : Drawn} {ch : List Addr} (I : Inv X pins σ H s) (u : Un (frs X.stack) ch H H' s.heap h') (hok : HOk X.prog X.w H' h') (hg : AllBare g')
    (hch : ∀ b ∈ ch, (b ∈ X.ex \/ X.s₀.heap.objs.size <= b) /\ b ≠ X.env.locals /\ (∀ x c, X.env.cells.lookup x = some c -> c ≠ b) /\ ∀ p ∈ X.pn ++ pins, p.1 ≠ b) :
    Inv X pins σ H' { s with heap := h', gens := g', drawn := d', toks := t' } := by
  obtain ⟨m, ⟨o, es, ep, ho, r⟩, _⟩ := id I.loc
  obtain ⟨sl, hL⟩ := u.any ho I.free fun z => (hch _ z).2.1 rfl
  exact I.step (ch := ch) hch (fun b o hL hb hc e n => u.keep b o e n (fun z => (List.mem_cons.mp (I.stkSub b z)).elim hL hb) hc) (fun b o _ _ hc e n => u.any e n hc) (fun b o hc e n => u.free b o e n hc) (fun b o hc e => u.there b o e hc) u.tups u.frzs u.tbls (fun m' hm => by
    obtain ⟨o', es', ep', ho', r'⟩ := hm
    rw [ho] at ho'; cases ho'
    exact ⟨_, es', ep', hL, r'⟩) hok hg
theorem Inv.turned {t' : Nat} {it : Addr} (I : Inv X pins σ H s) (k : ∀ b o, b ≠ it -> s.heap.get? b = some o -> h'.get? b = some o) (hn : H it = none) (hL : it ≠ X.env.locals)
    (h1 : it ∈ X.ex \/ X.s₀.heap.objs.size <= it) (h2 : ∀ x c, X.env.cells.lookup x = some c -> c ≠ it) (h3 : ∀ p ∈ X.pn ++ pins, p.1 ≠ it) : Inv X pins σ H { s with heap := h', toks := t' } := by
  have nit : ∀ b u, H b = some u -> b ≠ it := fun b u e z => by rw [z, hn] at e; cases e
  refine I.step (g' := s.gens) (d' := s.drawn) (ch := [it]) (fun b hb => ?_) (fun b o _ _ hc e _ => k b o (fun z => hc (by simp [z])) e) (fun b o _ _ hc e _ => ⟨o.slots, k b o (fun z => hc (by simp [z])) e⟩) (fun _ _ _ _ n => n)
    (fun b o hc e => ⟨o, k b o (fun z => hc (by simp [z])) e⟩) (fun _ _ e => e) (fun _ _ _ e => e) (fun b ps e => ⟨#[], by rw [e]; simp⟩) (fun m hm => ?_) (fun b u e => ?_) I.bare
  . have e : b = it := by simpa using hb
    subst e
    exact ⟨h1, hL, h2, h3⟩
  . obtain ⟨o, es, ep, ho, r⟩ := hm
    exact ⟨o, es, ep, k _ o (Ne.symm hL) ho, r⟩
  . refine (I.hok b u e).stay (fun c v hc q => k c v ?_ q) (fun _ q => q) fun _ _ q => q
    rcases hc with z | z
    . rw [z]; exact nit b u e
    . exact nit c _ z
theorem Inv.tok (I : Inv X pins σ H s) (t : Nat) : Inv X pins σ H { s with toks := t } := I.un (h' := s.heap) (t' := t) Un.refl I.hok
theorem Inv.kept {t' : Nat} (I : Inv X pins σ H s) (k : ∀ b u, s.heap.get? b = some u -> h'.get? b = some u) : Inv X pins σ H { s with heap := h', toks := t' } := I.un (Un.kept k) (I.hok.kept k)
theorem Inv.laid {a : Addr} {o : HO} {t' : Nat} (I : Inv X pins σ H s) (k : ∀ b u, s.heap.get? b = some u -> h'.get? b = some u) (hp : s.heap.objs.size <= a) (new : ObjOk X.prog X.w (upd H a o) h' a o) :
    Inv X pins σ (upd H a o) { s with heap := h', toks := t' } := I.un (Un.laid k hp (I.hok.fresh hp)) (I.hok.laid k hp new)
theorem Inv.write {x e : Addr} {o : HO} {t' : Nat} (I : Inv X pins σ H s) (mu : Mut (H x)) (he : e = x \/ H e = some (.own x)) (k : ∀ b u, b ≠ e -> s.heap.get? b = some u -> h'.get? b = some u) (heo : ∃ u, h'.get? e = some u)
    (new : ObjOk X.prog X.w (upd H x o) h' x o) : Inv X pins σ (upd H x o) { s with heap := h', toks := t' } := I.un (Un.write mu he k heo) (I.hok.write mu he k heo new)
theorem Inv.pins_of {pins' : List (Addr × Obj)} (I : Inv X pins σ H s) (h : ∀ p ∈ pins', s.heap.get? p.1 = some p.2 /\ H p.1 = none /\ p.1 ≠ X.env.locals /\ p.1 ∉ X.fs /\ ∀ v, p.2.data ≠ .cell v) : Inv X pins' σ H s :=
  ⟨I.ok, I.os, I.bare, I.base, I.loc, I.cell, I.free, I.freeC, fun p hp => (List.mem_append.mp hp).elim (fun z => I.pin p (List.mem_append_left _ z)) (h p), I.hok, I.len⟩
theorem z29 {N : List Str} (hN : N.Nodup) {i j : Nat} {x : Str} (a : N[i]? = some x) (b : N[j]? = some x) : i = j := by
  obtain ⟨h1, e1⟩ := List.getElem?_eq_some_iff.mp a
  obtain ⟨h2, e2⟩ := List.getElem?_eq_some_iff.mp b
  exact (List.getElem_inj hN).mp (e1.trans e2.symm)
theorem z2W {M : Model} {A : Around} {E : Value -> Shared -> Prop} {i : Nat} {x : Str} {v : V} {u : Value} {Q : Unit -> Shared -> Prop} (I : Inv X pins σ H s) (hN : X.N.Nodup) (hi : X.N[i]? = some x) (hx : Loc X.env.scope x) (r : RelV v u)
    (h : ∀ s', Inv X pins (σ.set i (some v)) H s' -> (∃ a, Heap.SameBut a s.heap s'.heap /\ (a = X.env.locals \/ X.env.cells.lookup x = some a)) -> Q () s') (hf : X.fn x = true \/ X.env.scope.names.lookup x = some .local := by first | exact .inl rfl | exact .inr rfl | assumption) : wpAny M A (storeName X.env x u) Q E s := by
  obtain ⟨m, hn, hl⟩ := id I.loc
  have hcls : (X.env.scope.kind == .class || (X.env.scope.kind == .module && X.env.locals != X.env.globals)) = false := by rw [I.ok.kind]; rfl
  have hiσ : i < σ.length := by rw [I.len]; exact (List.getElem?_eq_some_iff.mp hi).1
  have cne := I.cne
  have tracked : ∀ {a : Addr} {h' : Heap}, (∃ o, s.heap.get? a = some o /\ H a = none) -> Heap.SameBut a s.heap h' -> HOk X.prog X.w H h' := fun {a h'} ha hs b ob e => by
    obtain ⟨_, _, hfree⟩ := ha
    refine (I.hok b ob e).stay (fun c w' hc q => (hs.2 c ?_).trans q) (fun _ q => q) fun _ _ q => q
    rintro rfl
    rcases hc with rfl | hc
    . rw [hfree] at e; cases e
    . rw [hfree] at hc; cases hc
  rcases hx with hk | hk
  . refine wpAny_storeName_local hk hn (fun h' hn' hs => ?_) hcls
    obtain ⟨oL, _, _, hoL, _⟩ := id hn
    refine h _ ⟨I.ok, I.os, I.bare, ⟨fun b o e n hb hx => ?_, fun b o e n hb hx => ?_, I.base.free, fun b o e hx => ?_, I.base.tups, I.base.frzs, I.base.tbls⟩, ⟨_, hn', fun j y v' e1 e2 e3 => ?_⟩, fun y c e => ?_, I.free, I.freeC, fun p hp => ?_, tracked ⟨oL, hoL, I.free⟩ hs, by simpa using I.len⟩ ⟨_, hs, .inl rfl⟩
    . exact (hs.2 b (Nat.ne_of_lt (Nat.lt_of_lt_of_le (Heap.lt_size e) I.ok.above))).trans (I.base.keep b o e n hb hx)
    . obtain ⟨sl, e1⟩ := I.base.slot b o e n hb hx
      exact ⟨sl, (hs.2 b (Nat.ne_of_lt (Nat.lt_of_lt_of_le (Heap.lt_size e) I.ok.above))).trans e1⟩
    . obtain ⟨o', e1⟩ := I.base.there b o e hx
      exact ⟨o', (hs.2 b (Nat.ne_of_lt (Nat.lt_of_lt_of_le (Heap.lt_size e) I.ok.above))).trans e1⟩
    . by_cases hj : j = i
      . subst hj
        rw [hi] at e1; cases e1
        rw [List.getElem?_set_self hiσ] at e2
        cases e2
        exact ⟨u, r, .inl ⟨hk, by simp⟩⟩
      . rw [List.getElem?_set_ne (Ne.symm hj)] at e2
        obtain ⟨u', r', q⟩ := hl j y v' e1 e2 e3
        refine ⟨u', r', ?_⟩
        rcases q with ⟨k, e⟩ | ⟨k, c, e, z⟩
        . refine .inl ⟨k, ?_⟩
          have : y ≠ x := fun e => hj (z29 hN e1 (e ▸ hi))
          simp [this, e]
        . exact .inr ⟨k, c, e, z.sameBut hs (cne y c e)⟩
    . obtain ⟨w', z⟩ := I.cell y c e
      exact ⟨w', z.sameBut hs (cne y c e)⟩
    . obtain ⟨e, n, ne, nf, d⟩ := I.pin p hp
      exact ⟨(hs.2 p.1 ne).trans e, n, ne, nf, d⟩
  . have hfn : X.fn x = true := by
      rcases hf with z | z
      . exact z
      . rw [z] at hk; cases hk
    obtain ⟨c, hc⟩ := I.ok.has x (.inl hk)
    obtain ⟨w', z⟩ := I.cell x c hc
    refine wpAny_storeName_cell I.ok.kind hk hc z (fun h' hc' hs => ?_)
    obtain ⟨oc, hoc, hocd⟩ := id z
    refine h { s with heap := h' } ⟨I.ok, I.os, I.bare, ⟨fun b o e n hb hx => ?_, fun b o e n hb hx => ?_, I.base.free, fun b o e hx => ?_, I.base.tups, I.base.frzs, I.base.tbls⟩, ⟨m, hn.sameBut hs (Ne.symm (cne x c hc)), fun j y v' e1 e2 e3 => ?_⟩, fun y c' e => ?_, I.free, I.freeC, fun p hp => ?_, tracked ⟨oc, hoc, I.freeC x c hc⟩ hs, by simpa using I.len⟩ ⟨c, hs, .inr hc⟩
    . exact (hs.2 b (Nat.ne_of_lt (Nat.lt_of_lt_of_le (Heap.lt_size e) (I.ok.cab x c hfn hc)))).trans (I.base.keep b o e n hb hx)
    . obtain ⟨sl, e1⟩ := I.base.slot b o e n hb hx
      exact ⟨sl, (hs.2 b (Nat.ne_of_lt (Nat.lt_of_lt_of_le (Heap.lt_size e) (I.ok.cab x c hfn hc)))).trans e1⟩
    . obtain ⟨o', e1⟩ := I.base.there b o e hx
      exact ⟨o', (hs.2 b (Nat.ne_of_lt (Nat.lt_of_lt_of_le (Heap.lt_size e) (I.ok.cab x c hfn hc)))).trans e1⟩
    . by_cases hj : j = i
      . subst hj
        rw [hi] at e1; cases e1
        rw [List.getElem?_set_self hiσ] at e2
        cases e2
        exact ⟨u, r, .inr ⟨.inl hk, c, hc, hc'⟩⟩
      . rw [List.getElem?_set_ne (Ne.symm hj)] at e2
        obtain ⟨u', r', q⟩ := hl j y v' e1 e2 e3
        refine ⟨u', r', ?_⟩
        rcases q with q | ⟨k, c', e, z'⟩
        . exact .inl q
        . refine .inr ⟨k, c', e, z'.sameBut hs ?_⟩
          rintro rfl
          exact hj (z29 hN e1 (I.ok.inj _ _ _ e hc ▸ hi))
    . by_cases hcc : c' = c
      . subst hcc; exact ⟨_, hc'⟩
      . obtain ⟨w2, z2⟩ := I.cell y c' e
        exact ⟨w2, z2.sameBut hs hcc⟩
    . obtain ⟨e, n, ne, nf, d⟩ := I.pin p hp
      refine ⟨(hs.2 p.1 ?_).trans e, n, ne, nf, d⟩
      intro q
      rw [q, hoc] at e
      have q' : oc = p.2 := Option.some.inj e
      exact d w' (by rw [<- q']; exact hocd)
theorem z1a {M : Model} {A : Around} {E : Value -> Shared -> Prop} {i : Nat} {x : Str} {v : V} {u : Value} {Q : Unit -> Shared -> Prop} (I : Inv X pins σ H s) (hN : X.N.Nodup) (hi : X.N[i]? = some x) (hx : Loc X.env.scope x) (r : RelV v u)
    (h : ∀ s', Inv X pins (σ.set i (some v)) H s' -> Q () s') (hf : X.fn x = true \/ X.env.scope.names.lookup x = some .local := by first | exact .inl rfl | exact .inr rfl | assumption) : wpAny M A (storeName X.env x u) Q E s :=
  z2W I hN hi hx r (fun s' I' _ => h s' I') hf
theorem Inv.call' {s' : Shared} {ch : List Addr} (I : Inv X pins σ H s) (ho : s'.os = s.os) (u : Un (frs X.stack) ch H H' s.heap s'.heap) (hok : HOk X.prog X.w H' s'.heap) (hg : AllBare s'.gens)
    (hch : ∀ b ∈ ch, (b ∈ X.ex \/ X.s₀.heap.objs.size <= b) /\ b ≠ X.env.locals /\ (∀ x c, X.env.cells.lookup x = some c -> c ≠ b) /\ ∀ p ∈ X.pn ++ pins, p.1 ≠ b) : Inv X pins σ H' s' := by
  obtain ⟨h', g', d', t', o'⟩ := s'
  have e : o' = s.os := ho
  subst e
  exact I.call (g' := g') (t' := t') (d' := d') u hok hg hch
end
abbrev XK := Value -> Option Addr -> Hp -> Prop
abbrev St := List (Option V)
abbrev VK := V -> Hp -> Prop
abbrev TE := St -> Hp -> VK -> Prop
abbrev TT := St -> Hp -> (Bool -> Hp -> Prop) -> Prop
abbrev TA := St -> Hp -> (List V -> Hp -> Prop) -> Prop
structure Ends where
  nx : St -> Hp -> Prop
  rt : VK
  bk : St -> Hp -> Prop := fun _ _ => False
  ct : St -> Hp -> Prop := fun _ _ => False
abbrev TS := Ends -> St -> Hp -> Prop
def EP (X : Cx) (pins : List (Addr × Obj)) (σ : St) (Q : VK) (u : Value) (s' : Shared) : Prop := ∃ v H', Inv X pins σ H' s' /\ RelV v u /\ Q v H'
def TP (X : Cx) (pins : List (Addr × Obj)) (σ : St) (Q : Bool -> Hp -> Prop) (b : Bool) (s' : Shared) : Prop := ∃ H', Inv X pins σ H' s' /\ Q b H'
def AP (X : Cx) (pins : List (Addr × Obj)) (σ : St) (Q : List V -> Hp -> Prop) (us : List Value) (s' : Shared) : Prop := ∃ vs H', Inv X pins σ H' s' /\ Vals vs us /\ Q vs H'
def SP (X : Cx) (pins : List (Addr × Obj)) (D : Ends) (f : Flow) (s' : Shared) : Prop :=
  match f with
  | .next => ∃ σ' H', Inv X pins σ' H' s' /\ D.nx σ' H'
  | .brk => ∃ σ' H', Inv X pins σ' H' s' /\ D.bk σ' H'
  | .cont => ∃ σ' H', Inv X pins σ' H' s' /\ D.ct σ' H'
  | .ret u => ∃ v σ' H', Inv X pins σ' H' s' /\ RelV v u /\ D.rt v H'
def PE (X : Cx) (e : Expr) (t : TE) : Prop :=
  ∀ (pins : List (Addr × Obj)) (s : Shared) (σ : St) (H : Hp) (Q : VK), Inv X pins σ H s -> t σ H Q -> wpAny (model X.prog X.w) X.A (eval e X.env) (EP X pins σ Q) X.xe s
def PT (X : Cx) (e : Expr) (t : TT) : Prop :=
  ∀ (pins : List (Addr × Obj)) (s : Shared) (σ : St) (H : Hp) (Q : Bool -> Hp -> Prop), Inv X pins σ H s -> t σ H Q -> wpAny (model X.prog X.w) X.A (isTrue e X.env (eval e X.env)) (TP X pins σ Q) X.xe s
def PW (X : Cx) (e : Expr) (t : TT) : Prop :=
  ∀ (whole : Sem Value) (pins : List (Addr × Obj)) (s : Shared) (σ : St) (H : Hp) (Q : Bool -> Hp -> Prop), Inv X pins σ H s -> t σ H Q -> wpAny (model X.prog X.w) X.A (isTrue e X.env whole) (TP X pins σ Q) X.xe s
theorem PW.pt {X : Cx} {e : Expr} {t : TT} (h : PW X e t) : PT X e t := h _
def PA (X : Cx) (es : List Expr) (t : TA) : Prop :=
  ∀ (pos : Pos) (pins : List (Addr × Obj)) (s : Shared) (σ : St) (H : Hp) (Q : List V -> Hp -> Prop), Inv X pins σ H s -> t σ H Q -> wpAny (model X.prog X.w) X.A (spliced (backTo pos (starEach es X.env))) (AP X pins σ Q) X.xe s
def PS (X : Cx) (st : Stmt) (t : TS) : Prop :=
  ∀ (pins : List (Addr × Obj)) (s : Shared) (σ : St) (H : Hp) (D : Ends), Inv X pins σ H s -> t D σ H -> wpAny (model X.prog X.w) X.A (exec st X.env) (SP X pins D) X.xe s
def PSs (X : Cx) (st : List Stmt) (t : TS) : Prop :=
  ∀ (pins : List (Addr × Obj)) (s : Shared) (σ : St) (H : Hp) (D : Ends), Inv X pins σ H s -> t D σ H -> wpAny (model X.prog X.w) X.A (execs st X.env) (SP X pins D) X.xe s
theorem thn {α : Type} {t : Sem α} {Q Q' : α -> Shared -> Prop} {M : Model} {A : Around} {E : Value -> Shared -> Prop} {s : Shared} (h : wpAny M A t Q E s) (hQ : ∀ a s, Q a s -> Q' a s) : wpAny M A t Q' E s := wpAny_mono h hQ fun _ _ x => x
section
variable {X : Cx}
def z8I (i : Nat) : TE := fun σ H Q => ∃ v, σ[i]? = some (some v) /\ Q v H
def tC (v : V) : TE := fun _ H Q => Q v H
theorem z7Y {i : Nat} {x : Str} {pos : Pos} (hN : X.N[i]? = some x) (hv : Vis X.env.scope x) (hd : (x == ("__debug__" : Str)) = false := by decide) (hcd : (x == ("__classdict__" : Str)) = false := by decide) : PE X (.Name x pos) (z8I i) := by
  intro pins s σ H Q I h
  obtain ⟨v, e, h⟩ := h
  obtain ⟨m, hn, hl⟩ := I.loc
  obtain ⟨u, r, l⟩ := hl i x v hN e hv
  have fin : EP X pins σ Q u s := ⟨v, H, I, r, h⟩
  rcases l with ⟨hk, hm⟩ | ⟨hk, c, hc, hcell⟩
  . exact wpAny_Name (wpAny_loadName_local I.ok.kind hk hn hm fin) hd
  . rcases hk with hk | hk
    . exact wpAny_Name (wpAny_loadName_cell I.ok.kind hk hc hcell fin) hd
    . exact wpAny_Name (wpAny_loadName_free I.ok.kind hk hc hcell fin hcd) hd
theorem z01 {i j pos} : PE X (.Constant (.int i) j pos) (tC (.int i)) := fun _ _ _ H _ I h => wpAny_Constant_int ⟨.int i, H, I.tok _, ⟨_, rfl⟩, h⟩
theorem z4J {b j pos} : PE X (.Constant (.bool b) j pos) (tC (.bl b)) := fun _ _ _ H _ I h => Constant_bool ⟨.bl b, H, I, rfl, h⟩
theorem z0z {j pos} : PE X (.Constant .none j pos) (tC .non) := fun _ _ _ H _ I h => Constant_none ⟨.non, H, I, rfl, h⟩
theorem z7Z {x j pos} : PE X (.Constant (.str x) j pos) (tC (.str x)) := fun _ _ _ H _ I h => Calls.Constant_str ⟨.str x, H, I.tok _, ⟨_, rfl⟩, h⟩
def Gl (X : Cx) (x : Str) : Prop := X.env.kindOf x = some .globalImplicit
theorem z1K {E : Value -> Shared -> Prop} {pins : List (Addr × Obj)} {s : Shared} {σ : St} {H : Hp} {x : Str} {u : Value} {pos : Pos} {Q : Value -> Shared -> Prop} (I : Inv X pins σ H s) (hg : Gl X x) (hm : X.mg x = some u) (h : Q u s)
    (hd : (x == ("__debug__" : Str)) = false := by decide) : wpAny (model X.prog X.w) X.A (eval (.Name x pos) X.env) Q E s :=
  Calls.Name_function_global I.ok.kind hg (Calls.loadGlobal_global (by rw [I.ok.glob]; exact I.mod.glob.keeps I.bk) hm h) hd
theorem z1z {E : Value -> Shared -> Prop} {pins : List (Addr × Obj)} {s : Shared} {σ : St} {H : Hp} {x : Str} {u : Value} {pos : Pos} {Q : Value -> Shared -> Prop} (I : Inv X pins σ H s) (hg : Gl X x) (hm : X.mg x = none) (hv : bootBuiltins x = some u) (h : Q u s)
    (hn : x ≠ "__name__" := by decide) (hd : (x == ("__debug__" : Str)) = false := by decide) : wpAny (model X.prog X.w) X.A (eval (.Name x pos) X.env) Q E s := by
  obtain ⟨mb, h1, h2⟩ := I.mod.blt
  exact Calls.Name_function_global I.ok.kind hg (Calls.loadGlobal_builtin (by rw [I.ok.glob]; exact I.mod.glob.keeps I.bk) hm (by rw [I.ok.blt]; exact h1.keeps I.bk) ((h2 x hn).trans hv) h) hd
theorem z4K {x : Str} {v : V} {u : Value} {pos : Pos} (hg : Gl X x) (hm : X.mg x = some u) (r : RelV v u) (hd : (x == ("__debug__" : Str)) = false := by decide) : PE X (.Name x pos) (tC v) :=
  fun _ _ _ H _ I h => z1K I hg hm ⟨v, H, I, r, h⟩ hd
theorem z38 {x : Str} {v : V} {u : Value} {pos : Pos} (hg : Gl X x) (hm : X.mg x = none) (hv : bootBuiltins x = some u) (r : RelV v u) (hn : x ≠ "__name__" := by decide) (hd : (x == ("__debug__" : Str)) = false := by decide) : PE X (.Name x pos) (tC v) :=
  fun _ _ _ H _ I h => z1z I hg hm hv ⟨v, H, I, r, h⟩ hn hd
def t2I (ta tb : TE) (k : Int -> Int -> Hp -> Prop) : St -> Hp -> Prop := fun σ H => ta σ H fun x H1 => tb σ H1 fun y H2 => ∃ i j, x = .int i /\ y = .int j /\ k i j H2
def zAp (ta tb : TE) : TE := fun σ H Q => t2I ta tb (fun i j H2 => Q (.int (i + j)) H2) σ H
def zAq (ta tb : TE) : TE := fun σ H Q => t2I ta tb (fun i j H2 => Q (.int (i - j)) H2) σ H
def zAr (ta tb : TE) : TE := fun σ H Q => t2I ta tb (fun i j H2 => (-(2 ^ 64) < i /\ i < 2 ^ 64) /\ Q (.int (i * j)) H2) σ H
variable {a b : Expr} {ta tb : TE} {pos : Pos}
def PC (X : Cx) (op : CmpOp) (a b : Expr) (t : TE) : Prop :=
  ∀ (pins : List (Addr × Obj)) (s : Shared) (σ : St) (H : Hp) (Q : VK), Inv X pins σ H s -> t σ H Q ->
    wpAny (model X.prog X.w) X.A (eval a X.env) (fun v s₁ => wpAny (model X.prog X.w) X.A (eval b X.env) (fun u s₂ => wpAny (model X.prog X.w) X.A (compareOp op v u) (EP X pins σ Q) X.xe s₂) X.xe s₁) X.xe s
def z7J (p : Int -> Int -> Bool) (ta tb : TE) : TE := fun σ H Q => t2I ta tb (fun i j H2 => Q (.bl (p i j)) H2) σ H
abbrev tLt : TE -> TE -> TE := z7J fun i j => decide (i < j)
abbrev tLe : TE -> TE -> TE := z7J fun i j => decide (i <= j)
abbrev tGt : TE -> TE -> TE := z7J fun i j => decide (j < i)
abbrev tGe : TE -> TE -> TE := z7J fun i j => decide (j <= i)
abbrev zAs : TE -> TE -> TE := z7J fun i j => decide (i = j)
abbrev zAu : TE -> TE -> TE := z7J fun i j => !decide (i = j)
def zAv (ta : TE) : TE := fun σ H Q => ta σ H fun x H1 => Q (.bl (decide (x = .non))) H1
def zA7 (ta : TE) : TE := fun σ H Q => ta σ H fun x H1 => Q (.bl (!decide (x = .non))) H1
def tB (t : TE) : TT := fun σ H Q => t σ H fun x H1 => ∃ c, x = .bl c /\ Q c H1
theorem z2X {e : Expr} {t : TE} (h : PE X e t) (he : ∀ whole, isTrue e X.env whole = (do let v <- whole; standAt e.pos; holding [v] (truthy v)) := by intro _; rfl) : PT X e (tB t) := by
  intro pins s σ H Q I hw
  refine isTrue_plain (thn (h pins s σ H _ I hw) fun v s1 ⟨x, H1, I1, r1, q1⟩ => ?_) (he _)
  obtain ⟨d, rfl, q⟩ := q1
  cases r1
  exact wpAny_truthy_bool ⟨H1, I1, q⟩
variable {tA tB' : TT} {rest : List Expr}
def zA8 (t u : TT) : TT := fun σ H Q => t σ H fun c H1 => if c = true then u σ H1 Q else Q false H1
def tOr (t u : TT) : TT := fun σ H Q => t σ H fun c H1 => if c = true then Q true H1 else u σ H1 Q
def zA9 (t : TT) : TT := fun σ H Q => t σ H fun c H1 => Q (!c) H1
theorem z4L (ha : PT X a tA) : PW X (.BoolOp .And [a] pos) tA := by
  intro wh pins s σ H Q I h
  refine isTrue_and (thn (ha pins s σ H Q I h) fun c s1 e => ?_)
  cases c with
  | true => exact isTrue_and_nil e
  | false => exact e
theorem z4M (ha : PT X a tA) : PW X (.BoolOp .Or [a] pos) tA := by
  intro wh pins s σ H Q I h
  refine isTrue_or (thn (ha pins s σ H Q I h) fun c s1 e => ?_)
  cases c with
  | false => exact isTrue_or_nil e
  | true => exact e
theorem z6G (ha : PT X a tA) (hb : PW X (.BoolOp .And (b :: rest) pos) tB') : PW X (.BoolOp .And (a :: b :: rest) pos) (zA8 tA tB') := by
  intro wh pins s σ H Q I h
  refine isTrue_and (thn (ha pins s σ H _ I h) fun c s1 ⟨H1, I1, q1⟩ => ?_)
  cases c with
  | true => exact hb wh pins s1 σ H1 Q I1 q1
  | false => exact ⟨H1, I1, q1⟩
theorem z5h (ha : PT X a tA) (hb : PW X (.BoolOp .Or (b :: rest) pos) tB') : PW X (.BoolOp .Or (a :: b :: rest) pos) (tOr tA tB') := by
  intro wh pins s σ H Q I h
  refine isTrue_or (thn (ha pins s σ H _ I h) fun c s1 ⟨H1, I1, q1⟩ => ?_)
  cases c with
  | true => exact ⟨H1, I1, q1⟩
  | false => exact hb wh pins s1 σ H1 Q I1 q1
theorem z1g (ha : PT X a tA) : PT X (.UnaryOp .Not a pos) (zA9 tA) := by
  intro pins s σ H Q I h
  exact isTrue_not (ha pins s σ H (fun c H1 => Q (!c) H1) I h)
def z8a (ta tb : TE) : TE := fun σ H Q => ta σ H fun x H1 => ∃ c, x = .bl c /\ if c = true then tb σ H1 Q else Q (.bl false) H1
def zAw (ta tb : TE) : TE := fun σ H Q => ta σ H fun x H1 => ∃ c, x = .bl c /\ if c = true then Q (.bl true) H1 else tb σ H1 Q
def z8b (ta : TE) : TE := fun σ H Q => ta σ H fun x H1 => ∃ c, x = .bl c /\ Q (.bl (!c)) H1
theorem z6H {op} {t : TE} (h : PE X a t) : PE X (.BoolOp op [a] pos) t := fun pins s σ H Q I hw => BoolOp_one (h pins s σ H Q I hw)
theorem z6I (ha : PE X a ta) (hb : PE X (.BoolOp .And (b :: rest) pos) tb) : PE X (.BoolOp .And (a :: b :: rest) pos) (z8a ta tb) := by
  intro pins s σ H Q I h
  refine BoolOp_and (thn (ha pins s σ H _ I h) fun v s1 ⟨x, H1, I1, r1, q1⟩ => ?_)
  obtain ⟨c, rfl, q1⟩ := q1
  cases r1
  refine wpAny_truthy_bool ?_
  cases c with
  | true => exact hb pins s1 σ H1 Q I1 q1
  | false => exact ⟨.bl false, H1, I1, rfl, q1⟩
theorem z6J (ha : PE X a ta) : PE X (.UnaryOp .Not a pos) (z8b ta) := by
  intro pins s σ H Q I h
  refine UnaryOp_ (thn (ha pins s σ H _ I h) fun v s1 ⟨x, H1, I1, r1, q1⟩ => ?_)
  obtain ⟨c, rfl, q1⟩ := q1
  cases r1
  exact not_of (wpAny_truthy_bool ⟨.bl (!c), H1, I1, rfl, q1⟩)
def tIf (t : TT) (ta tb : TE) : TE := fun σ H Q => t σ H fun c H1 => if c = true then ta σ H1 Q else tb σ H1 Q
theorem z2A {c : Expr} (hc : PT X c tA) (ha : PE X a ta) (hb : PE X b tb) : PE X (.IfExp c a b pos) (tIf tA ta tb) := by
  intro pins s σ H Q I h
  refine wpAny_IfExp (thn (hc pins s σ H _ I h) fun d s1 ⟨H1, I1, q1⟩ => ?_)
  cases d with
  | true => exact ha pins s1 σ H1 Q I1 q1
  | false => exact hb pins s1 σ H1 Q I1 q1
end
def SqL (K : PySem.W.Frag) (H : Hp) (a : Addr) (xs : List V) : Prop :=
  Rd H a (.lst xs) \/
    ∃ (o : Obj) (its : Array Value) (n : Nat), K.lookup a = some o /\ o.cls = .type "list" /\ o.dict = none /\ o.data = .seq its n /\ its.size <= sizeLine /\ Vals xs its.toList
def SqT (K : PySem.W.Frag) (H : Hp) (a : Addr) (xs : List V) : Prop :=
  Rd H a (.tup xs) \/
    ∃ (o : Obj) (its : Array Value) (n : Nat), K.lookup a = some o /\ o.cls = .type "tuple" /\ o.data = .seq its n /\ its.size <= sizeLine /\ Vals xs its.toList
def zAA : Value -> Option V
  | .none => some .non
  | .bool b => some (.bl b)
  | .int i _ => some (.int i)
  | .str x _ => some (.str x)
  | .bytes b _ => some (.byt b)
  | .float b _ => some (.flt b)
  | .ref a => some (.ref a)
  | .type n => some (.ty n)
  | _ => none
theorem RelV.abs {x : V} {u : Value} (r : RelV x u) : zAA u = some x := by
  cases x with
  | non => cases r; rfl
  | bl _ => cases r; rfl
  | int _ => obtain ⟨t, rfl⟩ := r; rfl
  | str _ => obtain ⟨t, rfl⟩ := r; rfl
  | byt _ => obtain ⟨t, rfl⟩ := r; rfl
  | flt _ => obtain ⟨t, rfl⟩ := r; rfl
  | ref _ => cases r; rfl
  | ty _ => cases r; rfl
theorem RelV.inj {x y : V} {u : Value} (r : RelV x u) (q : RelV y u) : x = y := Option.some.inj (r.abs.symm.trans q.abs)
theorem Vals.inj : ∀ {xs ys : List V} {us : List Value}, Vals xs us -> Vals ys us -> xs = ys
  | _, _, _, .nil, .nil => rfl
  | _, _, _, .cons r t, .cons r' t' => by rw [r.inj r', Vals.inj t t']
section
variable {X : Cx} {pins : List (Addr × Obj)} {σ : St} {H : Hp} {s : Shared} {a : Addr} {xs ys : List V}
theorem SqL.of {K : PySem.W.Frag} (h : H a = some (.lst xs)) : SqL K H a xs := .inl (.inl h)
theorem SqT.of {K : PySem.W.Frag} (h : H a = some (.tup xs)) : SqT K H a xs := .inl (.inl h)
theorem Inv.list (I : Inv X pins σ H s) (h : SqL X.K H a xs) : ∃ its : List Value, Vals xs its /\ PlainL s.heap a its.toArray /\ xs.length <= sizeLine := by
  rcases h with h | ⟨o, its, n, hk, hc, hd, hs, hz, r⟩
  . obtain ⟨z, its, n, r, e⟩ := h.ok I.hok
    exact ⟨its, r, ⟨_, n, e, rfl, rfl, rfl⟩, z⟩
  . refine ⟨its.toList, r, ⟨o, n, I.kIn a o hk, hc, hd, by simpa using hs⟩, ?_⟩
    have e := r.length
    simp only [Array.length_toList] at e
    omega
theorem Inv.tuple (I : Inv X pins σ H s) (h : SqT X.K H a xs) : ∃ its : List Value, Vals xs its /\ IsTup s.heap a its.toArray /\ xs.length <= sizeLine := by
  rcases h with h | ⟨o, its, n, hk, hc, hs, hz, r⟩
  . obtain ⟨z, its, r, p⟩ := h.ok I.hok
    exact ⟨its, r, p, z⟩
  . refine ⟨its.toList, r, ⟨o, I.kIn a o hk, hc, n, by simpa using hs⟩, ?_⟩
    have e := r.length
    simp only [Array.length_toList] at e
    omega
theorem Inv.list_inj (I : Inv X pins σ H s) (h : SqL X.K H a xs) (h' : SqL X.K H a ys) : xs = ys := by
  obtain ⟨its, r, ⟨o, n, e, _, _, d⟩, _⟩ := I.list h
  obtain ⟨its', r', ⟨o', n', e', _, _, d'⟩, _⟩ := I.list h'
  rw [e] at e'; cases e'
  rw [d] at d'
  injection d' with d1 _
  have : its = its' := by simpa using congrArg Array.toList d1
  subst this
  exact r.inj r'
theorem Inv.tuple_inj (I : Inv X pins σ H s) (h : SqT X.K H a xs) (h' : SqT X.K H a ys) : xs = ys := by
  obtain ⟨its, r, ⟨o, e, _, n, d⟩, _⟩ := I.tuple h
  obtain ⟨its', r', ⟨o', e', _, n', d'⟩, _⟩ := I.tuple h'
  rw [e] at e'; cases e'
  rw [d] at d'
  injection d' with d1 _
  have : its = its' := by simpa using congrArg Array.toList d1
  subst this
  exact r.inj r'
end
abbrev Cx.wish (X : Cx) (E : Value -> Shared -> Prop) : Cx := { X with xe := E }
abbrev Cx.nox (X : Cx) : Cx := X.wish fun _ _ => False
theorem Cx.Ok.wish {X : Cx} (ok : X.Ok) (E : Value -> Shared -> Prop) : (X.wish E).Ok :=
  ⟨ok.mod, ok.kind, ok.glob, ok.blt, ok.above, ok.inj, ok.has, ok.cab, ok.hd, ok.frames, ok.stk, ok.exf, ok.bs, ok.bsz, ok.noex, ok.exfs, ok.funs, ok.frf⟩
theorem Cx.Ok.unwish {X : Cx} {E : Value -> Shared -> Prop} (ok : (X.wish E).Ok) : X.Ok :=
  ⟨ok.mod, ok.kind, ok.glob, ok.blt, ok.above, ok.inj, ok.has, ok.cab, ok.hd, ok.frames, ok.stk, ok.exf, ok.bs, ok.bsz, ok.noex, ok.exfs, ok.funs, ok.frf⟩
section
variable {X : Cx} {pins : List (Addr × Obj)} {σ : St} {H : Hp} {s : Shared} {E : Value -> Shared -> Prop}
theorem Inv.wish (I : Inv X pins σ H s) (E : Value -> Shared -> Prop) : Inv (X.wish E) pins σ H s := ⟨I.ok.wish E, I.os, I.bare, I.base, I.loc, I.cell, I.free, I.freeC, I.pin, I.hok, I.len⟩
theorem Inv.unwish (I : Inv (X.wish E) pins σ H s) : Inv X pins σ H s := ⟨I.ok.unwish, I.os, I.bare, I.base, I.loc, I.cell, I.free, I.freeC, I.pin, I.hok, I.len⟩
theorem SP.unwish {D : Ends} {f : Flow} {s' : Shared} (h : SP (X.wish E) pins D f s') : SP X pins D f s' := by
  cases f with
  | next => obtain ⟨σ', H', I, q⟩ := h; exact ⟨σ', H', I.unwish, q⟩
  | brk => obtain ⟨σ', H', I, q⟩ := h; exact ⟨σ', H', I.unwish, q⟩
  | cont => obtain ⟨σ', H', I, q⟩ := h; exact ⟨σ', H', I.unwish, q⟩
  | ret u => obtain ⟨v, σ', H', I, r, q⟩ := h; exact ⟨v, σ', H', I.unwish, r, q⟩
theorem PE.nox {e : Expr} {t : TE} (h : PE X.nox e t) : PE X e t := fun pins s σ H Q I hw =>
  wpAny_mono (h pins s σ H Q (I.wish _) hw) (fun _ _ ⟨v, H', I', r, q⟩ => ⟨v, H', I'.unwish, r, q⟩) fun _ _ z => False.elim z
theorem PT.nox {e : Expr} {t : TT} (h : PT X.nox e t) : PT X e t := fun pins s σ H Q I hw =>
  wpAny_mono (h pins s σ H Q (I.wish _) hw) (fun _ _ ⟨H', I', q⟩ => ⟨H', I'.unwish, q⟩) fun _ _ z => False.elim z
theorem PSs.nox {st : List Stmt} {t : TS} (h : PSs X.nox st t) : PSs X st t := fun pins s σ H D I hw =>
  wpAny_mono (h pins s σ H D (I.wish _) hw) (fun _ _ q => q.unwish) fun _ _ z => False.elim z
end
section
variable {X : Cx} {st : Stmt} {rest : List Stmt} {t u : TS} {e : Expr} {te : TE} {pos : Pos}
def z8c : TS := fun D σ H => D.nx σ H
def zAB (t u : TS) : TS := fun D σ H => t { D with nx := u D } σ H
theorem z0N : PSs X [] z8c := fun _ _ σ H _ I h => wpAny_execs_nil ⟨σ, H, I, h⟩
theorem z03 (h1 : PS X st t) (h2 : PSs X rest u) : PSs X (st :: rest) (zAB t u) := by
  intro pins s σ H D I h
  refine wpAny_execs_cons (thn (h1 pins s σ H { D with nx := u D } I h) fun f s1 q => ?_)
  cases f with
  | next =>
    obtain ⟨σ', H', I', q⟩ := q
    exact h2 pins s1 σ' H' D I' q
  | ret v => exact q
  | brk => exact q
  | cont => exact q
theorem z05 (h1 : PS X st t) : PSs X [st] t := by
  intro pins s σ H D I h
  refine wpAny_execs_cons (thn (h1 pins s σ H D I h) fun f s1 q => ?_)
  cases f with
  | next => exact wpAny_execs_nil q
  | ret v => exact q
  | brk => exact q
  | cont => exact q
def z9O : TS := fun D σ H => D.bk σ H
def zAC : TS := fun D σ H => D.ct σ H
theorem Inv.quiet {pins : List (Addr × Obj)} {σ : St} {H : Hp} {s : Shared} (I : Inv X pins σ H s) : interactive X.env = false := by simp [interactive, I.ok.kind]
def z8d (te : TE) : TS := fun D σ H => te σ H fun _ H1 => D.nx σ H1
theorem z2B (he : PE X e te) (hs : swapsWith e none pos.line X.env = pure false := by rfl) : PS X (.Expr e pos) (z8d te) := by
  intro pins s σ H D I h
  exact wpAny_Expr_any (thn (he pins s σ H _ I h) fun v s1 ⟨x, H1, I1, r1, q1⟩ => ⟨σ, H1, I1, q1⟩) I.quiet hs
def z9P (te : TE) : TS := fun D σ H => te σ H D.rt
theorem z0G (he : PE X e te) : PS X (.Return (some e) pos) (z9P te) := by
  intro pins s σ H D I h
  exact wpAny_Return_some (thn (he pins s σ H _ I h) fun v s1 ⟨x, H1, I1, r1, q1⟩ => ⟨x, σ, H1, I1, r1, q1⟩)
def zAD : TS := fun D _ H => D.rt .non H
def zAE (c : TT) (t u : TS) : TS := fun D σ H => c σ H fun b H1 => if b = true then t D σ H1 else u D σ H1
theorem z0q {c : Expr} {a b : List Stmt} {tc : TT} (hc : PT X c tc) (ha : PSs X a t) (hb : PSs X b u) : PS X (.If c a b pos) (zAE tc t u) := by
  intro pins s σ H D I h
  refine wpAny_If (thn (hc pins s σ H _ I h) fun d s1 ⟨H1, I1, q1⟩ => ?_)
  cases d with
  | true => exact ha pins s1 σ H1 D I1 q1
  | false => exact hb pins s1 σ H1 D I1 q1
def z9Q : TS := fun _ _ _ => False
end
abbrev TG := V -> St -> Hp -> (St -> Hp -> Prop) -> Prop
abbrev TGs := List V -> St -> Hp -> (St -> Hp -> Prop) -> Prop
def PG (X : Cx) (target : Expr) (t : TG) : Prop :=
  ∀ (pins : List (Addr × Obj)) (s : Shared) (σ : St) (H : Hp) (v : V) (u : Value) (Q : St -> Hp -> Prop), Inv X pins σ H s -> RelV v u -> t v σ H Q ->
    wpAny (model X.prog X.w) X.A (assign target X.env u) (fun _ s' => ∃ σ' H', Inv X pins σ' H' s' /\ Q σ' H') X.xe s
def PGs (X : Cx) (ts : List Expr) (t : TGs) : Prop :=
  ∀ (pins : List (Addr × Obj)) (s : Shared) (σ : St) (H : Hp) (vs : List V) (us : List Value) (Q : St -> Hp -> Prop), Inv X pins σ H s -> Vals vs us -> t vs σ H Q ->
    wpAny (model X.prog X.w) X.A (assignInOrder ((assignEach ts X.env).map (·.2)) us) (fun _ s' => ∃ σ' H', Inv X pins σ' H' s' /\ Q σ' H') X.xe s
abbrev z8e := V -> V -> V -> Hp -> (Hp -> Prop) -> Prop
def zAx (X : Cx) (t : z8e) : Prop :=
  ∀ (pins : List (Addr × Obj)) (s : Shared) (σ : St) (H : Hp) (o i v : V) (ov iv u : Value) (Q : Hp -> Prop), Inv X pins σ H s -> RelV o ov -> RelV i iv -> RelV v u -> t o i v H Q ->
    wpAny (model X.prog X.w) X.A (setItem ov iv u) (fun _ s' => ∃ H', Inv X pins σ H' s' /\ Q H') X.xe s
abbrev TIp := V -> V -> Hp -> VK -> Prop
def PIp (X : Cx) (op : Operator) (t : TIp) : Prop :=
  ∀ (pins : List (Addr × Obj)) (s : Shared) (σ : St) (H : Hp) (x y : V) (v u : Value) (Q : VK), Inv X pins σ H s -> RelV x v -> RelV y u -> t x y H Q ->
    wpAny (model X.prog X.w) X.A (inplaceOp op v u) (EP X pins σ Q) X.xe s
section
variable {X : Cx} {pos : Pos}
def z7a (i : Nat) : TG := fun v σ H Q => Q (σ.set i (some v)) H
theorem z0K {i : Nat} {x : Str} (hN : X.N.Nodup) (hi : X.N[i]? = some x) (hx : Loc X.env.scope x) (hf : X.fn x = true \/ X.env.scope.names.lookup x = some .local := by first | exact .inl rfl | exact .inr rfl | assumption) : PG X (.Name x pos) (z7a i) := by
  intro pins s σ H v u Q I r h
  exact wpAny_assign_Name (z1a I hN hi hx r (fun s' I' => ⟨_, H, I', h⟩) hf)
def zAF : TGs := fun vs σ H Q => vs = [] /\ Q σ H
def z8f (t : TG) (u : TGs) : TGs := fun vs σ H Q => ∃ v r, vs = v :: r /\ t v σ H fun σ' H' => u r σ' H' Q
theorem z2C : PGs X [] zAF := by
  intro pins s σ H vs us Q I r h
  obtain ⟨e, h⟩ := h
  subst e
  cases r
  exact assignInOrder_nil ⟨σ, H, I, h⟩
theorem z0U {e : Expr} {es : List Expr} {t : TG} {u : TGs} (h1 : PG X e t) (h2 : PGs X es u)
    (hs : (assignEach (e :: es) X.env).map (·.2) = assign e X.env :: (assignEach es X.env).map (·.2) := by rfl) : PGs X (e :: es) (z8f t u) := by
  intro pins s σ H vs us Q I r h
  obtain ⟨v, vr, e1, h⟩ := h
  subst e1
  cases r with
  | cons r rr =>
    rw [hs]
    refine assignInOrder_cons (thn (h1 pins s σ H _ _ _ I r h) fun _ s1 ⟨σ1, H1, I1, q1⟩ => ?_)
    exact h2 pins s1 σ1 H1 _ _ Q I1 rr q1
def zAG (K : PySem.W.Frag) (n : Nat) (t : TGs) : TG := fun v σ H Q => ∃ a xs, v = .ref a /\ SqT K H a xs /\ xs.length = n /\ t xs σ H Q
theorem z3X {es : List Expr} {k : Nat} {t : TGs} {n : Nat} (hc : X.calm = true) (h : PGs X es t)
    (hn : (assignEach es X.env).length = n := by rfl) (hst : (assignEach es X.env).findIdx? (·.1) = none := by rfl) : PG X (.Tuple es k pos) (zAG X.K n t) := by
  intro pins s σ H v u Q I r hw
  obtain ⟨a, xs, e1, hq, hl, hw⟩ := hw
  subst e1
  cases r
  obtain ⟨its, rv, ht, hz⟩ := I.tuple hq
  refine assign_Tuple_tuple (I.ok.hd hc) ht (by simp [hn, <- hl, rv.length]) hst fun h' hx => ?_
  have I1 : Inv X pins σ H { s with heap := h' } := I.kept (t' := s.toks) fun b o e => hx b o (Nat.ne_of_lt (Heap.lt_size e)) e
  exact h pins _ σ H xs _ Q I1 (by simpa using rv) hw
def zAy (to ti : TE) (t : z8e) : TG := fun v σ H Q => to σ H fun o H1 => ti σ H1 fun i H2 => t o i v H2 fun H3 => Q σ H3
def z9R (te : TE) (g : TG) : TS := fun D σ H => te σ H fun x H1 => g x σ H1 D.nx
theorem z6K {tg e : Expr} {te : TE} {g : TG} (he : PE X e te) (hg : PG X tg g) (hs : swapsWithSole [tg] e pos.line X.env = pure false := by rfl) (hw : swappedStores [tg] e X.env = pure none := by rfl)
    (h1 : (assignEach [tg] X.env).map (·.2) = [assign tg X.env] := by rfl) : PS X (.Assign [tg] e pos) (z9R te g) := by
  intro pins s σ H D I h
  refine wpAny_Assign_stores (thn (he pins s σ H _ I h) fun v s1 ⟨x, H1, I1, r1, q1⟩ => ?_) hs hw
  rw [h1]
  exact thn (hg pins s1 σ H1 x v _ I1 r1 q1) fun _ s2 q => q
theorem z0E {i : Nat} {x : Str} {e : Expr} {te : TE} {pos' : Pos} (hN : X.N.Nodup) (hi : X.N[i]? = some x) (hx : Loc X.env.scope x) (he : PE X e te) (hs : swapsWith e (some (.Name x pos')) pos.line X.env = pure false := by rfl) (hf : X.fn x = true \/ X.env.scope.names.lookup x = some .local := by first | exact .inl rfl | exact .inr rfl | assumption) :
    PS X (.Assign [.Name x pos'] e pos) (z9R te (z7a i)) := by
  intro pins s σ H D I h
  refine wpAny_Assign_Name (thn (he pins s σ H _ I h) fun v s1 ⟨y, H1, I1, r1, q1⟩ => ?_) hs
  exact z1a I1 hN hi hx r1 (fun s2 I2 => ⟨_, H1, I2, q1⟩) hf
def zAz (i j : Nat) (ta : TA) : TS := fun D σ H => ta σ H fun vs H1 => ∃ v w, vs = [v, w] /\ D.nx ((σ.set i (some v)).set j (some w)) H1
def zB0 (i : Nat) (te : TE) (ti : TIp) : TS := fun D σ H => ∃ x, σ[i]? = some (some x) /\ te σ H fun y H1 => ti x y H1 fun z H2 => D.nx (σ.set i (some z)) H2
def zAH (to ti te : TE) (tget : V -> V -> Hp -> VK -> Prop) (tip : TIp) (tset : z8e) : TS := fun D σ H => to σ H fun o H1 => ti σ H1 fun i H2 => tget o i H2 fun x H3 => te σ H3 fun y H4 => tip x y H4 fun z H5 => tset o i z H5 fun H6 => D.nx σ H6
def zB1 (X : Cx) (t : V -> V -> Hp -> VK -> Prop) : Prop :=
  ∀ (pins : List (Addr × Obj)) (s : Shared) (σ : St) (H : Hp) (o i : V) (ov iv : Value) (Q : VK), Inv X pins σ H s -> RelV o ov -> RelV i iv -> t o i H Q ->
    wpAny (model X.prog X.w) X.A (getItem ov iv) (EP X pins σ Q) X.xe s
def ipI (f : Int -> Int -> Int) : TIp := fun x y H Q => ∃ i j, x = .int i /\ y = .int j /\ Q (.int (f i j)) H
end
section
variable {X : Cx} {pos : Pos}
def z9S (c : TT) (tb : TS) : TS := fun D σ H => ∃ W : Nat -> St -> Hp -> Prop, (∃ m, W m σ H) /\ ∀ m σ H, W m σ H ->
  c σ H fun b H1 => if b = true then ∃ N : St -> Hp -> Prop, (∀ σ' H', N σ' H' -> ∃ m', m' < m /\ W m' σ' H') /\ tb { D with nx := N, ct := N, bk := D.nx } σ H1 else D.nx σ H1
end
structure It where
  go : Nat -> Hp -> Prop
  yld : Nat -> Hp -> V -> Hp -> Prop
  stop : Nat -> Hp -> Prop
def z4F (X : Cx) (pins : List (Addr × Obj)) (H : Hp) (b : Addr) : Prop :=
  H b = none /\ b ≠ X.env.locals /\ b ∉ X.fs /\ (b ∈ X.ex \/ X.s₀.heap.objs.size <= b) /\ (∀ x c, X.env.cells.lookup x = some c -> c ≠ b) /\ ∀ p ∈ X.pn ++ pins, p.1 ≠ b
theorem Inv.fpOk {X : Cx} {pins : List (Addr × Obj)} {σ : St} {H H' : Hp} {s : Shared} {b : Addr} (I : Inv X pins σ H s) (hb : s.heap.objs.size <= b) (hn : H' b = none) : z4F X pins H' b := by
  refine ⟨hn, Nat.ne_of_gt (Nat.lt_of_lt_of_le I.lt hb), I.nofs hb, .inr (Nat.le_trans I.sz hb), fun x c e z => ?_, fun p hp z => ?_⟩
  . obtain ⟨v, q⟩ := I.cell x c e
    exact absurd (Nat.lt_of_lt_of_le q.lt (by rw [z]; exact hb)) (Nat.lt_irrefl _)
  . exact absurd (Nat.lt_of_lt_of_le (Heap.lt_size (I.pin p hp).1) (by rw [z]; exact hb)) (Nat.lt_irrefl _)
structure Turn (P : Program) (w : World) (K : PySem.W.Frag) (tg : Expr) (J : It) (fp : List Addr) (it : Addr) (tn : Nat -> Heap -> Prop) : Prop where
  mem : it ∈ fp
  obj : ∀ i h, tn i h -> ∀ b ∈ fp, ∃ o, h.get? b = some o /\ ∀ v, o.data ≠ .cell v
  keep : ∀ i h h', tn i h -> (∀ b ∈ fp, ∀ o, h.get? b = some o -> h'.get? b = some o) -> tn i h'
  item : ∀ (X : Cx), X.prog = P -> X.w = w -> X.K = K -> X.calm = true -> ∀ (i : Nat) (pins : List (Addr × Obj)) (s : Shared) (σ : St) (H : Hp) (E : Value -> Shared -> Prop), Inv X pins σ H s -> (∀ b ∈ fp, z4F X pins H b) -> tn i s.heap -> J.go i H ->
    wpAny (model P w) X.A (pyNext (.ref it)) (fun r s1 => ∃ u, r = some u /\
      wpAny (model P w) X.A (letOwnedTupleGo tg (.ref it) u) (fun _ s2 => ∃ x H', Inv X pins σ H' s2 /\ RelV x u /\ J.yld i H x H' /\ tn (i + 1) s2.heap /\ ∀ b ∈ fp, H' b = none) E s1) E s
  done : ∀ (X : Cx), X.prog = P -> X.w = w -> X.K = K -> X.calm = true -> ∀ (i : Nat) (pins : List (Addr × Obj)) (s : Shared) (σ : St) (H : Hp) (E : Value -> Shared -> Prop), Inv X pins σ H s -> (∀ b ∈ fp, z4F X pins H b) -> tn i s.heap -> J.stop i H ->
    wpAny (model P w) X.A (pyNext (.ref it)) (fun r s1 => r = none /\ Inv X pins σ H s1) E s
  self : ∀ (A : Around) (i : Nat) (s : Shared) (Q : Value -> Shared -> Prop) (E : Value -> Shared -> Prop), tn i s.heap -> Q (.ref it) s -> wpAny (model P w) A (pyIter (.ref it)) Q E s
abbrev TI := St -> Hp -> (It -> Hp -> Prop) -> Prop
def PIE (X : Cx) (pins : List (Addr × Obj)) (σ : St) (tg : Expr) (R : It -> Hp -> Prop) (itv : Value) (s2 : Shared) : Prop :=
  ∃ (it : Addr) (fp : List Addr) (tn : Nat -> Heap -> Prop) (J : It) (H' : Hp), itv = .ref it /\ Inv X pins σ H' s2 /\ Turn X.prog X.w X.K tg J fp it tn /\ tn 0 s2.heap /\ (∀ b ∈ fp, z4F X pins H' b) /\ R J H'
def PI (X : Cx) (tg iter : Expr) (wi : TI) : Prop :=
  ∀ (pins : List (Addr × Obj)) (s : Shared) (σ : St) (H : Hp) (R : It -> Hp -> Prop), Inv X pins σ H s -> wi σ H R ->
    wpAny (model X.prog X.w) X.A (eval iter X.env) (fun v s1 => wpAny (model X.prog X.w) X.A (pyIter v) (PIE X pins σ tg R) X.xe s1) X.xe s
theorem z5i {M : Model} {A : Around} {E : Value -> Shared -> Prop} {s : Shared} {tg : Expr} {it : Addr} {u : Value} {o : Obj} {n : String} {vs : Array Value} {Q : Unit -> Shared -> Prop} (ho : s.heap.get? it = some o) (hc : o.cls = .type n) (hd : o.data = .fields vs)
    (hn : ["enumerate", "zip", "dict_itemiterator", "dict_reverseitemiterator", "odict_iterator", "itertools.zip_longest", "itertools.pairwise"].contains n = false) (hQ : Q () s) : wpAny M A (letOwnedTupleGo tg (.ref it) u) Q E s := by
  unfold letOwnedTupleGo
  cases tg <;> first
    | exact wpAny_pure hQ
    | (cases u <;> first
        | exact wpAny_pure hQ
        | (refine wpAny_bind (wpAny_load ho ?_)
           rw [hc, hd]
           show wpAny M A (if (["enumerate", "zip", "dict_itemiterator", "dict_reverseitemiterator", "odict_iterator", "itertools.zip_longest", "itertools.pairwise"].contains n && vs[0]? == some (rawInt _)) = true then _ else _) Q E s
           rw [if_neg (by intro h; rw [hn, Bool.false_and] at h; cases h)]
           exact wpAny_pure hQ))
def Itl (K : PySem.W.Frag) (a : Addr) : It :=
  ⟨fun i H => ∃ xs x, SqL K H a xs /\ xs[i]? = some x, fun i H x H' => H' = H /\ ∀ xs, SqL K H a xs -> xs[i]? = some x, fun i H => ∃ xs, SqL K H a xs /\ xs.length <= i⟩
def Itt (K : PySem.W.Frag) (a : Addr) : It :=
  ⟨fun i H => ∃ xs x, SqT K H a xs /\ xs[i]? = some x, fun i H x H' => H' = H /\ ∀ xs, SqT K H a xs -> xs[i]? = some x, fun i H => ∃ xs, SqT K H a xs /\ xs.length <= i⟩
def Itr (lo : Int) (n : Nat) : It := ⟨fun i _ => i < n, fun i H x H' => H' = H /\ x = .int (lo + i), fun i _ => n <= i⟩
theorem z4N {P : Program} {w : World} {K : PySem.W.Frag} {tg : Expr} (a it : Addr) : Turn P w K tg (Itl K a) [it] it (fun i h => h.IsListIter it a i) where
  mem := by simp
  obj := fun i h st b hb => by
    have e : b = it := by simpa using hb
    subst e
    obtain ⟨o, e, c, d⟩ := st
    exact ⟨o, e, fun v z => by rw [d] at z; cases z⟩
  keep := fun i h h' st k => st.at fun o e => k it (by simp) o e
  item := by
    intro X hP hw hK hc i pins s σ H E I hf st hg
    subst hP hw hK
    obtain ⟨xs, x, hq, hx⟩ := hg
    obtain ⟨its, rv, p, hz⟩ := I.list hq
    obtain ⟨u, hu, ru⟩ := rv.get hx
    obtain ⟨f0, f1, f2, f3, f4, f5⟩ := hf it (by simp)
    refine wpAny_pyNext_list_item st p.isList (x := u) (by simpa using hu) fun h' st' sb => ?_
    have I1 : Inv X pins σ H { s with heap := h' } := I.turned (t' := s.toks) (fun b o hb e => (sb.2 b hb).trans e) f0 f1 f3 f4 f5
    obtain ⟨o, e, c, d⟩ := id st'
    exact ⟨u, rfl, z5i (s := { s with heap := h' }) e c d (by decide) ⟨x, H, I1, ru, ⟨rfl, fun ys hy => by rw [I.list_inj hy hq]; exact hx⟩, st', fun b hb => (hf b hb).1⟩⟩
  done := by
    intro X hP hw hK hc i pins s σ H E I hf st hg
    subst hP hw hK
    obtain ⟨xs, hq, hx⟩ := hg
    obtain ⟨its, rv, p, hz⟩ := I.list hq
    obtain ⟨f0, f1, f2, f3, f4, f5⟩ := hf it (by simp)
    have hl := rv.length
    exact wpAny_pyNext_list_end (I.ok.hd hc) st p.isList (by simp; omega) fun h' eb => ⟨rfl, I.turned (t' := s.toks) (fun b o hb e => eb b o hb e) f0 f1 f3 f4 f5⟩
  self := fun _ _ _ _ _ st h => wpAny_pyIter_listiter st h
theorem z3t {P : Program} {w : World} {K : PySem.W.Frag} {tg : Expr} (a it : Addr) : Turn P w K tg (Itt K a) [it] it (fun i h => h.IsTupleIter it a i) where
  mem := by simp
  obj := fun i h st b hb => by
    have e : b = it := by simpa using hb
    subst e
    obtain ⟨o, e, c, d⟩ := st
    exact ⟨o, e, fun v z => by rw [d] at z; cases z⟩
  keep := fun i h h' st k => st.at fun o e => k it (by simp) o e
  item := by
    intro X hP hw hK hc i pins s σ H E I hf st hg
    subst hP hw hK
    obtain ⟨xs, x, hq, hx⟩ := hg
    obtain ⟨its, rv, p, hz⟩ := I.tuple hq
    obtain ⟨u, hu, ru⟩ := rv.get hx
    obtain ⟨f0, f1, f2, f3, f4, f5⟩ := hf it (by simp)
    refine wpAny_pyNext_tuple_item st (show s.heap.IsTuple a its.toArray from p) (x := u) (by simpa using hu) fun h' st' sb => ?_
    have I1 : Inv X pins σ H { s with heap := h' } := I.turned (t' := s.toks) (fun b o hb e => (sb.2 b hb).trans e) f0 f1 f3 f4 f5
    obtain ⟨o, e, c, d⟩ := id st'
    exact ⟨u, rfl, z5i (s := { s with heap := h' }) e c d (by decide) ⟨x, H, I1, ru, ⟨rfl, fun ys hy => by rw [I.tuple_inj hy hq]; exact hx⟩, st', fun b hb => (hf b hb).1⟩⟩
  done := by
    intro X hP hw hK hc i pins s σ H E I hf st hg
    subst hP hw hK
    obtain ⟨xs, hq, hx⟩ := hg
    obtain ⟨its, rv, p, hz⟩ := I.tuple hq
    obtain ⟨f0, f1, f2, f3, f4, f5⟩ := hf it (by simp)
    have hl := rv.length
    exact wpAny_pyNext_tuple_end (I.ok.hd hc) st (show s.heap.IsTuple a its.toArray from p) (by simp; omega) fun h' eb => ⟨rfl, I.turned (t' := s.toks) (fun b o hb e => eb b o hb e) f0 f1 f3 f4 f5⟩
  self := fun _ _ _ _ _ st h => wpAny_pyIter_tupleiter st h
theorem z3u {P : Program} {w : World} {K : PySem.W.Frag} {tg : Expr} (it : Addr) (lo : Int) (n : Nat) : Turn P w K tg (Itr lo n) [it] it (fun i h => IsRangeIter h it (lo + (i : Nat) * 1) ((n : Int) - (i : Nat)) 1) where
  mem := by simp
  obj := fun i h st b hb => by
    have e : b = it := by simpa using hb
    subst e
    exact ⟨_, st, fun v z => by
      have z' : Data.fields _ = Data.cell v := z
      cases z'⟩
  keep := fun i h h' st k => k it (by simp) _ st
  item := by
    intro X hP hw hK hc i pins s σ H E I hf st hg
    subst hP hw hK
    obtain ⟨f0, f1, f2, f3, f4, f5⟩ := hf it (by simp)
    have W := Walks.range (prog := X.prog) (w := X.w) (I.ok.hd hc) it lo 1 n
    refine W.item i s _ _ hg st fun v h' tk hv st' kk => ?_
    obtain ⟨t, rfl⟩ := hv
    have I1 : Inv X pins σ H { s with heap := h', toks := tk } := I.turned (fun b o hb e => kk b o (by simpa using hb) e) f0 f1 f3 f4 f5
    refine ⟨_, rfl, z5i (s := { s with heap := h', toks := tk }) (n := "range_iterator") st' rfl rfl (by decide) ⟨.int (lo + i), H, I1, ⟨t, ?_⟩, ⟨rfl, rfl⟩, st', fun b hb => (hf b hb).1⟩⟩
    rw [Int.mul_one]
  done := by
    intro X hP hw hK hc i pins s σ H E I hf st hg
    subst hP hw hK
    obtain ⟨f0, f1, f2, f3, f4, f5⟩ := hf it (by simp)
    exact wpAny_pyNext_range_end (I.ok.hd hc) st (by have : n <= i := hg; omega) fun h' eb => ⟨rfl, I.turned (t' := s.toks) (fun b o hb e => eb b o hb e) f0 f1 f3 f4 f5⟩
  self := fun _ _ _ _ _ st h => wpAny_pyIter_rangeiter st h
section
variable {X : Cx} {tg : Expr}
def z8g (K : PySem.W.Frag) (tl : TE) : TI := fun σ H R => tl σ H fun x H1 => ∃ a, x = .ref a /\ (∃ xs, SqL K H1 a xs) /\ R (Itl K a) H1
def zAI (K : PySem.W.Frag) (tl : TE) : TI := fun σ H R => tl σ H fun x H1 => ∃ a, x = .ref a /\ (∃ xs, SqT K H1 a xs) /\ R (Itt K a) H1
theorem z6b {l : Expr} {tl : TE} (hl : PE X l tl) : PI X tg l (z8g X.K tl) := by
  intro pins s σ H R I h
  refine thn (hl pins s σ H _ I h) fun v s1 ⟨x, H1, I1, r1, q1⟩ => ?_
  obtain ⟨a, e, ⟨xs, hq⟩, q⟩ := q1
  subst e
  cases r1
  obtain ⟨its, rv, p, hz⟩ := I1.list hq
  refine wpAny_pyIter_list p.isList ?_
  refine ⟨s1.heap.objs.size, [s1.heap.objs.size], _, _, H1, rfl, I1.kept (t' := s1.toks) fun b o e => Heap.get?_push_of_some _ e, z4N a _, ⟨_, Heap.get?_push_size _ rfl, rfl, rfl⟩, fun b hb => ?_, q⟩
  have e : b = s1.heap.objs.size := by simpa using hb
  subst e
  exact I1.fpOk (Nat.le_refl _) (I1.hok.fresh (Nat.le_refl _))
theorem z7b {l : Expr} {tl : TE} (hl : PE X l tl) : PI X tg l (zAI X.K tl) := by
  intro pins s σ H R I h
  refine thn (hl pins s σ H _ I h) fun v s1 ⟨x, H1, I1, r1, q1⟩ => ?_
  obtain ⟨a, e, ⟨xs, hq⟩, q⟩ := q1
  subst e
  cases r1
  obtain ⟨its, rv, p, hz⟩ := I1.tuple hq
  refine wpAny_pyIter_tuple (show s1.heap.IsTuple a its.toArray from p) ?_
  refine ⟨s1.heap.objs.size, [s1.heap.objs.size], _, _, H1, rfl, I1.kept (t' := s1.toks) fun b o e => Heap.get?_push_of_some _ e, z3t a _, ⟨_, Heap.get?_push_size _ rfl, rfl, rfl⟩, fun b hb => ?_, q⟩
  have e : b = s1.heap.objs.size := by simpa using hb
  subst e
  exact I1.fpOk (Nat.le_refl _) (I1.hok.fresh (Nat.le_refl _))
theorem z5j {pins : List (Addr × Obj)} {σ : St} {H : Hp} {s : Shared} {R : It -> Hp -> Prop} {E : Value -> Shared -> Prop} {lo hi : Int} {t u v : Tok} {tk : Nat} (I : Inv X pins σ H s) (h1 : -(2 ^ 62) <= lo) (h2 : lo < 2 ^ 62) (h3 : -(2 ^ 62) <= hi) (h4 : hi < 2 ^ 62)
    (q : R (Itr lo (hi - lo).toNat) H) : wpAny (model X.prog X.w) X.A (pyIter (.ref s.heap.objs.size)) (PIE X pins σ tg R) E { s with heap := s.heap.push { cls := .type "range", data := .fields #[.int lo t, .int hi u, .int 1 v] }, toks := tk } := by
  refine wpAny_pyIter_range (IsRange.new ..) (small_one h1 h2 h3 h4) ?_
  have I1 : Inv X pins σ H { s with heap := s.heap.push { cls := .type "range", data := .fields #[.int lo t, .int hi u, .int 1 v] }, toks := tk } := I.kept fun b o e => Heap.get?_push_of_some _ e
  refine ⟨(s.heap.push { cls := .type "range", data := .fields #[.int lo t, .int hi u, .int 1 v] }).objs.size, [(s.heap.push { cls := .type "range", data := .fields #[.int lo t, .int hi u, .int 1 v] }).objs.size], _, _, H, rfl,
    I1.kept (t' := tk) fun b o e => Heap.get?_push_of_some _ e, z3u _ lo (hi - lo).toNat, ?_, fun b hb => ?_, q⟩
  . have e1 : lo + ((0 : Nat) : Int) * 1 = lo := by simp
    have e2 : (((hi - lo).toNat : Nat) : Int) - ((0 : Nat) : Int) = Builtin.Range.rangeSize lo hi 1 := by rw [rangeSize_one]; split <;> omega
    show IsRangeIter _ _ (lo + ((0 : Nat) : Int) * 1) ((((hi - lo).toNat : Nat) : Int) - ((0 : Nat) : Int)) 1
    rw [e1, e2]
    exact Heap.get?_push_size _ rfl
  . have e : b = (s.heap.push { cls := .type "range", data := .fields #[.int lo t, .int hi u, .int 1 v] }).objs.size := by simpa using hb
    subst e
    exact I1.fpOk (Nat.le_refl _) (I1.hok.fresh (Nat.le_refl _))
def z8h (ta : TA) : TI := fun σ H R => ta σ H fun vs H1 => ∃ j : Int, vs = [.int j] /\ -(2 ^ 62) <= j /\ j < 2 ^ 62 /\ R (Itr 0 j.toNat) H1
def zAJ (ta : TA) : TI := fun σ H R => ta σ H fun vs H1 => ∃ i j : Int, vs = [.int i, .int j] /\ (-(2 ^ 62) <= i /\ i < 2 ^ 62 /\ -(2 ^ 62) <= j /\ j < 2 ^ 62) /\ R (Itr i (j - i).toNat) H1
theorem z0b {a : Expr} {ta : TA} {p pos : Pos} (hg : Gl X "range") (hm : X.mg "range" = none) (ha : PA X [a] ta) (hs : starEach [a] X.env = [(false, eval a X.env)] := by rfl) : PI X tg (.Call (.Name "range" p) [a] [] pos) (z8h ta) := by
  intro pins s σ H R I h
  refine Call_ (z1z I hg hm boot_range (PyProof.Rows.callWith_type1 (thn (ha pos pins s σ H _ I h) fun us s1 ⟨vs, H1, I1, r1, q1⟩ => ?_) hs rfl))
  obtain ⟨j, e, q1, q2, q⟩ := q1
  subst e
  cases r1 with
  | cons r rr =>
    cases rr
    obtain ⟨t, rfl⟩ := r
    exact call_range_1 (z5j I1 (by omega) (by omega) q1 q2 (by simpa using q))
def zAK (wi : TI) (g : TG) (tb : TS) : TS := fun D σ H => wi σ H fun J H1 => ∃ W : Nat -> Nat -> St -> Hp -> Prop, (∃ m, W 0 m σ H1) /\ ∀ i m σ H, W i m σ H ->
  (J.stop i H /\ D.nx σ H) \/ (J.go i H /\ ∃ N : St -> Hp -> Prop, (∀ σ' H', N σ' H' -> ∃ m', m' < m /\ W (i + 1) m' σ' H') /\ ∀ x H', J.yld i H x H' -> g x σ H' fun σ2 H2 => tb { D with nx := N, ct := N, bk := D.nx } σ2 H2)
def z2Y (fp : List Addr) (h : Heap) : List (Addr × Obj) := fp.filterMap fun b => (h.get? b).map fun o => (b, o)
theorem z1D {fp : List Addr} {h : Heap} {b : Addr} {o : Obj} (hb : b ∈ fp) (e : h.get? b = some o) : (b, o) ∈ z2Y fp h := List.mem_filterMap.mpr ⟨b, hb, by rw [e]; rfl⟩
theorem z4O {fp : List Addr} {h : Heap} {p : Addr × Obj} (hp : p ∈ z2Y fp h) : p.1 ∈ fp /\ h.get? p.1 = some p.2 := by
  obtain ⟨b, hb, e⟩ := List.mem_filterMap.mp hp
  cases q : h.get? b with
  | none => rw [q] at e; cases e
  | some o =>
    rw [q] at e
    have e' : (b, o) = p := Option.some.inj e
    subst e'
    exact ⟨hb, q⟩
theorem Inv.pinned {pins : List (Addr × Obj)} {σ : St} {H : Hp} {s : Shared} {fp : List Addr} (I : Inv X pins σ H s) (hf : ∀ b ∈ fp, z4F X pins H b) (ho : ∀ b ∈ fp, ∃ o, s.heap.get? b = some o /\ ∀ v, o.data ≠ .cell v) : Inv X (pins ++ z2Y fp s.heap) σ H s :=
  I.pins_of fun p hp => (List.mem_append.mp hp).elim (fun z => I.pin p (List.mem_append_right _ z)) fun z => by
    obtain ⟨hb, e⟩ := z4O z
    obtain ⟨f0, f1, f2, _⟩ := hf p.1 hb
    obtain ⟨o, e', d⟩ := ho p.1 hb
    rw [e] at e'; cases e'
    exact ⟨e, f0, f1, f2, d⟩
theorem Inv.unpinned {pins pl : List (Addr × Obj)} {σ : St} {H : Hp} {s : Shared} (I : Inv X (pins ++ pl) σ H s) : Inv X pins σ H s := I.pins_of fun p hp => I.pin p (List.mem_append_right _ (List.mem_append_left _ hp))
theorem z1G {iter : Expr} {body : List Stmt} {wi : TI} {g : TG} {tb : TS} {pos : Pos} (hp : PassesOwn (model X.prog X.w) X.A X.env X.xe) (hc : X.calm = true) (hi : PI X tg iter wi) (hg : PG X tg g) (hb : PSs X body tb)
    (hs : ∀ x, foldedSetIterable iter X.env x = pure x := by intro _; rfl) : PS X (.For tg iter body [] pos) (zAK wi g tb) := by
  intro pins s σ H D I h
  refine wpAny_For (thn (hi pins s σ H _ I h) fun v s1 h1 => thn h1 fun itv s2 h2 => ?_) hs
  obtain ⟨it, fp, tn, J, H2, e, I2, T, st2, f2, W, ⟨m0, w0⟩, turn⟩ := h2
  subst e
  have stat : ∀ {H' : Hp}, (∀ b ∈ fp, H' b = none) -> ∀ b ∈ fp, z4F X pins H' b := fun hn b hb => ⟨hn b hb, (f2 b hb).2⟩
  refine codeAny_forLoop_any (fun n s' => ∃ i σ' H', Inv X pins σ' H' s' /\ tn i s'.heap /\ (∀ b ∈ fp, H' b = none) /\ W i n σ' H') ?_ m0 ⟨0, σ, H2, I2, st2, fun b hb => (f2 b hb).1, w0⟩
  rintro n s3 ⟨i, σ3, H3, I3, st3, fr3, w3⟩
  rcases turn i n σ3 H3 w3 with ⟨stop, qn⟩ | ⟨go, N, hN, step⟩
  . refine wpAny_passesOwn hp (thn (T.done X rfl rfl rfl hc i pins s3 σ3 H3 X.xe I3 (stat fr3) st3 stop) fun r s4 ⟨hr, I4⟩ => ?_)
    subst hr
    exact wpAny_execs_nil ⟨σ3, H3, I4, qn⟩
  . refine wpAny_passesOwn hp (thn (T.item X rfl rfl rfl hc i pins s3 σ3 H3 X.xe I3 (stat fr3) st3 go) fun r s4 ⟨u, hr, h4⟩ => ?_)
    subst hr
    refine wpAny_passesOwn hp (thn h4 fun _ s5 ⟨x, H5, I5, r5, y5, st5, fr5⟩ => ?_)
    have I5' := I5.pinned (stat fr5) (T.obj _ _ st5)
    refine wpAny_passesOwn hp (thn (hg _ s5 σ3 H5 x u _ I5' r5 (step x H5 y5)) fun _ s6 ⟨σ6, H6, I6, q6⟩ => ?_)
    refine wpAny_passesOwn hp (thn (hb _ s6 σ6 H6 _ I6 q6) fun f s7 q7 => ?_)
    have again : ∀ {σ7 : St} {H7 : Hp}, Inv X (pins ++ z2Y fp s5.heap) σ7 H7 s7 -> N σ7 H7 -> ∃ m, m < n /\ ∃ i σ' H', Inv X pins σ' H' s7 /\ tn i s7.heap /\ (∀ b ∈ fp, H' b = none) /\ W i m σ' H' := fun {σ7 H7} I7 n7 => by
      obtain ⟨m', hm, w7⟩ := hN σ7 H7 n7
      refine ⟨m', hm, i + 1, σ7, H7, I7.unpinned, T.keep _ _ _ st5 fun b hb o e => (I7.pin (b, o) (List.mem_append_right _ (List.mem_append_right _ (z1D hb e)))).1, fun b hb => ?_, w7⟩
      obtain ⟨o, e, d⟩ := T.obj _ _ st5 b hb
      exact (I7.pin (b, o) (List.mem_append_right _ (List.mem_append_right _ (z1D hb e)))).2.1
    cases f with
    | next => obtain ⟨σ7, H7, I7, n7⟩ := q7; exact again I7 n7
    | cont => obtain ⟨σ7, H7, I7, n7⟩ := q7; exact again I7 n7
    | brk => obtain ⟨σ7, H7, I7, q7⟩ := q7; exact ⟨σ7, H7, I7.unpinned, q7⟩
    | ret v => obtain ⟨x7, σ7, H7, I7, r7, q7⟩ := q7; exact ⟨x7, σ7, H7, I7.unpinned, r7, q7⟩
end
theorem z5k {K : PySem.W.Frag} {a : Addr} {xs : List V} {g : TG} {tb : TS} {D : Ends} {σ : St} {H : Hp} (Pv : Nat -> St -> Hp -> Prop) (h0 : Pv 0 σ H) (hl : ∀ i σ H, i <= xs.length -> Pv i σ H -> SqL K H a xs)
    (hs : ∀ i x σ H, xs[i]? = some x -> Pv i σ H -> g x σ H fun σ2 H2 => tb { D with nx := Pv (i + 1), ct := Pv (i + 1), bk := D.nx } σ2 H2) (hd : ∀ σ H, Pv xs.length σ H -> D.nx σ H) :
    ∃ W : Nat -> Nat -> St -> Hp -> Prop, (∃ m, W 0 m σ H) /\ ∀ i m σ H, W i m σ H ->
      ((Itl K a).stop i H /\ D.nx σ H) \/ ((Itl K a).go i H /\ ∃ N : St -> Hp -> Prop, (∀ σ' H', N σ' H' -> ∃ m', m' < m /\ W (i + 1) m' σ' H') /\ ∀ x H', (Itl K a).yld i H x H' -> g x σ H' fun σ2 H2 => tb { D with nx := N, ct := N, bk := D.nx } σ2 H2) := by
  refine ⟨fun i m σ H => m = xs.length - i /\ i <= xs.length /\ Pv i σ H, ⟨xs.length, by simp, Nat.zero_le _, h0⟩, ?_⟩
  rintro i m σ H ⟨rfl, hi, p⟩
  have q := hl i σ H hi p
  by_cases hlt : i < xs.length
  . refine .inr ⟨⟨xs, xs[i], q, by simp [hlt]⟩, Pv (i + 1), fun σ' H' p' => ⟨xs.length - (i + 1), by omega, rfl, hlt, p'⟩, fun x H' y => ?_⟩
    obtain ⟨e, y⟩ := y
    subst e
    exact hs i x σ _ (y xs q) p
  . have e : i = xs.length := by omega
    subst e
    exact .inl ⟨⟨xs, q, Nat.le_refl _⟩, hd σ H p⟩
theorem z12 {lo : Int} {n : Nat} {g : TG} {tb : TS} {D : Ends} {σ : St} {H : Hp} (Pv : Nat -> St -> Hp -> Prop) (h0 : Pv 0 σ H)
    (hs : ∀ i σ H, i < n -> Pv i σ H -> g (.int (lo + i)) σ H fun σ2 H2 => tb { D with nx := Pv (i + 1), ct := Pv (i + 1), bk := D.nx } σ2 H2) (hd : ∀ σ H, Pv n σ H -> D.nx σ H) :
    ∃ W : Nat -> Nat -> St -> Hp -> Prop, (∃ m, W 0 m σ H) /\ ∀ i m σ H, W i m σ H ->
      ((Itr lo n).stop i H /\ D.nx σ H) \/ ((Itr lo n).go i H /\ ∃ N : St -> Hp -> Prop, (∀ σ' H', N σ' H' -> ∃ m', m' < m /\ W (i + 1) m' σ' H') /\ ∀ x H', (Itr lo n).yld i H x H' -> g x σ H' fun σ2 H2 => tb { D with nx := N, ct := N, bk := D.nx } σ2 H2) := by
  refine ⟨fun i m σ H => m = n - i /\ i <= n /\ Pv i σ H, ⟨n, by simp, Nat.zero_le _, h0⟩, ?_⟩
  rintro i m σ H ⟨rfl, hi, p⟩
  by_cases hlt : i < n
  . refine .inr ⟨hlt, Pv (i + 1), fun σ' H' p' => ⟨n - (i + 1), by omega, rfl, hlt, p'⟩, fun x H' y => ?_⟩
    obtain ⟨e, y⟩ := y
    subst e y
    exact hs i σ _ hlt p
  . have e : i = n := by omega
    subst e
    exact .inl ⟨Nat.le_refl _, hd σ H p⟩
abbrev R2 := V -> V -> Hp -> VK -> Prop
def OpR (X : Cx) (f : Value -> Value -> Sem Value) (r : R2) : Prop :=
  ∀ (pins : List (Addr × Obj)) (s : Shared) (σ : St) (H : Hp) (x y : V) (v u : Value) (Q : VK), Inv X pins σ H s -> RelV x v -> RelV y u -> r x y H Q ->
    wpAny (model X.prog X.w) X.A (f v u) (EP X pins σ Q) X.xe s
def UnR (X : Cx) (f : Value -> Sem Value) (r : V -> Hp -> VK -> Prop) : Prop :=
  ∀ (pins : List (Addr × Obj)) (s : Shared) (σ : St) (H : Hp) (x : V) (v : Value) (Q : VK), Inv X pins σ H s -> RelV x v -> r x H Q ->
    wpAny (model X.prog X.w) X.A (f v) (EP X pins σ Q) X.xe s
def CallR (X : Cx) (f : Value) (r : List V -> Hp -> VK -> Prop) : Prop :=
  ∀ (pins : List (Addr × Obj)) (s : Shared) (σ : St) (H : Hp) (xs : List V) (us : List Value) (Q : VK), Inv X pins σ H s -> Vals xs us -> r xs H Q ->
    wpAny (model X.prog X.w) X.A (call f us) (EP X pins σ Q) X.xe s
def zB2 (X : Cx) (r : V -> Hp -> (Bool -> Hp -> Prop) -> Prop) : Prop :=
  ∀ (pins : List (Addr × Obj)) (s : Shared) (σ : St) (H : Hp) (x : V) (v : Value) (Q : Bool -> Hp -> Prop), Inv X pins σ H s -> RelV x v -> r x H Q ->
    wpAny (model X.prog X.w) X.A (truthy v) (TP X pins σ Q) X.xe s
def tOp (r : R2) (ta tb : TE) : TE := fun σ H Q => ta σ H fun x H1 => tb σ H1 fun y H2 => r x y H2 Q
def tUn (r : V -> Hp -> VK -> Prop) (ta : TE) : TE := fun σ H Q => ta σ H fun x H1 => r x H1 Q
def rI (C : Int -> Int -> Prop) (g : Int -> Int -> V) : R2 := fun x y H Q => ∃ i j, x = .int i /\ y = .int j /\ C i j /\ Q (g i j) H
def rI0 (g : Int -> Int -> V) : R2 := fun x y H Q => ∃ i j, x = .int i /\ y = .int j /\ Q (g i j) H
def rU (g : Int -> V) : V -> Hp -> VK -> Prop := fun x H Q => ∃ i, x = .int i /\ Q (g i) H
section
variable {X : Cx} {a b c : Expr} {ta tb tc : TE} {pos : Pos}
theorem z8i (ha : PE X a ta) (hb : PE X b tb) {pins : List (Addr × Obj)} {s : Shared} {σ : St} {H : Hp} {R : V -> V -> Hp -> Prop} (I : Inv X pins σ H s)
    (h : ta σ H fun x H1 => tb σ H1 fun y H2 => R x y H2) {Q : Value -> Shared -> Prop} {f : Value -> Value -> Sem Value}
    (hf : ∀ v u s2 x y H2, Inv X pins σ H2 s2 -> RelV x v -> RelV y u -> R x y H2 -> wpAny (model X.prog X.w) X.A (f v u) Q X.xe s2) :
    wpAny (model X.prog X.w) X.A (eval a X.env) (fun v s₁ => wpAny (model X.prog X.w) X.A (eval b X.env) (fun u s₂ => wpAny (model X.prog X.w) X.A (f v u) Q X.xe s₂) X.xe s₁) X.xe s := by
  refine thn (ha pins s σ H _ I h) fun v s1 ⟨x, H1, I1, r1, q1⟩ => ?_
  refine thn (hb pins s1 σ H1 _ I1 q1) fun u s2 ⟨y, H2, I2, r2, q2⟩ => ?_
  exact hf v u s2 x y H2 I2 r1 r2 q2
theorem z08 {op : Operator} {r : R2} (ho : OpR X (binaryOp op) r) (ha : PE X a ta) (hb : PE X b tb) : PE X (.BinOp a op b pos) (tOp r ta tb) := by
  intro pins s σ H Q I h
  exact wpAny_BinOp (z8i ha hb I h fun v u s2 x y H2 I2 rx ry q => ho pins s2 σ H2 x y v u Q I2 rx ry q)
theorem z4P {op : UnaryOp} {r : V -> Hp -> VK -> Prop} (ho : UnR X (unaryOp op) r) (ha : PE X a ta) : PE X (.UnaryOp op a pos) (tUn r ta) := by
  intro pins s σ H Q I h
  exact UnaryOp_ (thn (ha pins s σ H _ I h) fun v s1 ⟨x, H1, I1, r1, q1⟩ => ho pins s1 σ H1 x v Q I1 r1 q1)
theorem opI {f : Value -> Value -> Sem Value} {C : Int -> Int -> Prop} {g : Int -> Int -> Int}
    (rule : ∀ (i j : Int) (t u : Tok) (s : Shared) (Q : Value -> Shared -> Prop) (E : Value -> Shared -> Prop), C i j -> Q (.int (g i j) s.toks) { s with toks := s.toks + 1 } -> wpAny (model X.prog X.w) X.A (f (.int i t) (.int j u)) Q E s) :
    OpR X f (rI C fun i j => .int (g i j)) := by
  intro pins s σ H x y v u Q I rx ry h
  obtain ⟨i, j, rfl, rfl, hc, q⟩ := h
  obtain ⟨t, rfl⟩ := rx
  obtain ⟨t', rfl⟩ := ry
  exact rule i j t t' s _ _ hc ⟨.int (g i j), H, I.tok _, ⟨_, rfl⟩, q⟩
theorem z8J {f : Value -> Value -> Sem Value} {g : Int -> Int -> Int}
    (rule : ∀ (i j : Int) (t u : Tok) (s : Shared) (Q : Value -> Shared -> Prop) (E : Value -> Shared -> Prop), Q (.int (g i j) s.toks) { s with toks := s.toks + 1 } -> wpAny (model X.prog X.w) X.A (f (.int i t) (.int j u)) Q E s) :
    OpR X f (rI0 fun i j => .int (g i j)) := by
  intro pins s σ H x y v u Q I rx ry h
  obtain ⟨i, j, rfl, rfl, q⟩ := h
  obtain ⟨t, rfl⟩ := rx
  obtain ⟨t', rfl⟩ := ry
  exact rule i j t t' s _ _ ⟨.int (g i j), H, I.tok _, ⟨_, rfl⟩, q⟩
theorem z8K {f : Value -> Value -> Sem Value} {g : Int -> Int -> Bool}
    (rule : ∀ (i j : Int) (t u : Tok) (s : Shared) (Q : Value -> Shared -> Prop) (E : Value -> Shared -> Prop), Q (.bool (g i j)) s -> wpAny (model X.prog X.w) X.A (f (.int i t) (.int j u)) Q E s) :
    OpR X f (rI0 fun i j => .bl (g i j)) := by
  intro pins s σ H x y v u Q I rx ry h
  obtain ⟨i, j, rfl, rfl, q⟩ := h
  obtain ⟨t, rfl⟩ := rx
  obtain ⟨t', rfl⟩ := ry
  exact rule i j t t' s _ _ ⟨.bl (g i j), H, I, rfl, q⟩
def zAL (i j : Int) : Prop := 0 < j /\ j < 1073741824
def zAM (i j : Int) : Prop := j ≠ 0 /\ j.natAbs < 1073741824
def z8j (i j : Int) : Prop := 0 <= j /\ j <= 1000000 /\ i.natAbs < 2 ^ 64
def CMul (i j : Int) : Prop := (-(2 ^ 64) < i /\ i < 2 ^ 64) \/ (-(2 ^ 64) < j /\ j < 2 ^ 64)
theorem CMul.ok {i j : Int} (h : CMul i j) : IntMulOk i j := by
  rcases h with ⟨h1, h2⟩ | ⟨h1, h2⟩
  . exact .of_left (intBits_le_64 h1 h2)
  . exact .of_right (intBits_le_64 h1 h2)
theorem z3v (k : Nat) : (0 : Int) <= 2 ^ k := by
  rw [two_pow_cast]
  exact Int.natCast_nonneg _
theorem z0M : OpR X (binaryOp .Add) (rI0 fun i j => .int (i + j)) := z8J fun _ _ _ _ _ _ _ q => add_int q
theorem z0c : OpR X (binaryOp .Sub) (rI0 fun i j => .int (i - j)) := z8J fun _ _ _ _ _ _ _ q => sub_int q
theorem z10 : OpR X (binaryOp .Mult) (rI CMul fun i j => .int (i * j)) := opI fun _ _ _ _ _ _ _ hc q => mul_int q hc.ok
theorem z6c : OpR X (binaryOp .FloorDiv) (rI zAL fun i j => .int (i / j)) := opI fun i j _ _ _ _ _ hc q => by
  have h1 : (0 : Int) < j := hc.1
  have h2 : j < 1073741824 := hc.2
  exact floordiv_int (by omega) (by rw [Int.fdiv_eq_ediv_of_nonneg i (by omega)]; exact q) (.inl (PyProof.noPylong_small (by omega)))
theorem z1H : OpR X (binaryOp .Mod) (rI (fun _ j => 0 < j) fun i j => .int (i % j)) := opI fun i j _ _ _ _ _ hc q => by
  have h1 : (0 : Int) < j := hc
  exact mod_int' (by omega) (by rw [Int.fmod_eq_emod_of_nonneg i (by omega)]; exact q)
theorem z2Z : OpR X (binaryOp .Pow) (rI z8j fun i j => .int (i ^ j.toNat)) := opI fun _ _ _ _ _ _ _ hc q => pow_int_small hc.1 hc.2.1 hc.2.2 q
theorem z4Q : OpR X (binaryOp .LShift) (rI z8j fun i j => .int (i * 2 ^ j.toNat)) := opI fun _ _ _ _ _ _ _ hc q => lshift_int_small hc.1 hc.2.1 hc.2.2 q
theorem z7c : OpR X (binaryOp .RShift) (rI (fun _ j => 0 <= j) fun i j => .int (i / 2 ^ j.toNat)) := opI fun i j _ _ _ _ _ hc q =>
  rshift_int hc (by rw [Int.fdiv_eq_ediv_of_nonneg i (z3v _)]; exact q)
theorem z4R : OpR X (binaryOp .BitAnd) (rI0 fun i j => .int (Builtin.bitAnd i j)) := z8J fun _ _ _ _ _ _ _ q => and_int q
theorem z7d : OpR X (binaryOp .BitOr) (rI0 fun i j => .int (Builtin.bitOr i j)) := z8J fun _ _ _ _ _ _ _ q => or_int q
theorem unI {f : Value -> Sem Value} {g : Int -> Int}
    (rule : ∀ (i : Int) (t : Tok) (s : Shared) (Q : Value -> Shared -> Prop) (E : Value -> Shared -> Prop), Q (.int (g i) s.toks) { s with toks := s.toks + 1 } -> wpAny (model X.prog X.w) X.A (f (.int i t)) Q E s) :
    UnR X f (rU fun i => .int (g i)) := by
  intro pins s σ H x v Q I rx h
  obtain ⟨i, rfl, q⟩ := h
  obtain ⟨t, rfl⟩ := rx
  exact rule i t s _ _ ⟨.int (g i), H, I.tok _, ⟨_, rfl⟩, q⟩
theorem z2a : UnR X (unaryOp .USub) (rU fun i => .int (-i)) := unI fun _ _ _ _ _ q => neg_int q
end
def z7e : V -> V -> Bool
  | .non, .non => true | .non, .int _ => true | .int _, .non => true | .non, .bl _ => true | .bl _, .non => true | .non, .str _ => true | .str _, .non => true
  | .int _, .int _ => true | .bl _, .bl _ => true | .str _, .str _ => true | .byt _, .byt _ => true
  | .int _, .str _ => true | .str _, .int _ => true | .bl _, .str _ => true | .str _, .bl _ => true
  | _, _ => false
def rEq : R2 := fun x y H Q => z7e x y = true /\ Q (.bl (decide (x = y))) H
def rNe : R2 := fun x y H Q => z7e x y = true /\ Q (.bl (!decide (x = y))) H
theorem z4S {i j : Int} : decide (V.int i = V.int j) = (i == j) := by
  rw [Bool.eq_iff_iff]
  simp
theorem z6L {i j : Bool} : decide (V.bl i = V.bl j) = (i == j) := by
  rw [Bool.eq_iff_iff]
  simp
theorem z4T {i j : Str} : decide (V.str i = V.str j) = (i == j) := by
  rw [Bool.eq_iff_iff]
  simp
theorem z4U {i j : Array UInt8} : decide (V.byt i = V.byt j) = (i.toList == j.toList) := by
  rw [Bool.eq_iff_iff]
  cases i
  cases j
  simp
section
variable {X : Cx} {a b c : Expr} {ta tb tc : TE} {pos : Pos}
theorem z0O {pins : List (Addr × Obj)} {σ : St} {H : Hp} {s : Shared} {Q : VK} {k k' : Bool} (I : Inv X pins σ H s) (q : Q (.bl k) H) (e : k = k') : EP X pins σ Q (.bool k') s := by
  subst e
  exact ⟨.bl k, H, I, rfl, q⟩
theorem z39 : OpR X (compareOp .Eq) rEq := by
  intro pins s σ H x y v u Q I rx ry h
  obtain ⟨hs, q⟩ := h
  cases x with
  | non =>
    cases rx
    cases y with
    | non => cases ry; exact PySem.EqNone.eq_none_none (z0O I q (by simp))
    | bl j => cases ry; exact PySem.EqNone.eq_none_bool (z0O I q (by simp))
    | int j => obtain ⟨t', rfl⟩ := ry; exact PySem.EqNone.eq_none_int (z0O I q (by simp))
    | str j => obtain ⟨t', rfl⟩ := ry; exact PySem.EqNone.eq_none_str (z0O I q (by simp))
    | _ => exact absurd (show false = true from hs) Bool.false_ne_true
  | bl i =>
    cases rx
    cases y with
    | non => cases ry; exact PySem.EqNone.eq_bool_none (z0O I q (by simp))
    | bl j => cases ry; exact eq_bool (z0O I q z6L)
    | str j => obtain ⟨t', rfl⟩ := ry; exact PySem.EqMixed.eq_bool_str (z0O I q (by simp))
    | _ => exact absurd (show false = true from hs) Bool.false_ne_true
  | int i =>
    obtain ⟨t, rfl⟩ := rx
    cases y with
    | non => cases ry; exact PySem.EqNone.eq_int_none (z0O I q (by simp))
    | int j => obtain ⟨t', rfl⟩ := ry; exact eq_int (z0O I q z4S)
    | str j => obtain ⟨t', rfl⟩ := ry; exact PySem.EqMixed.eq_int_str (z0O I q (by simp))
    | _ => exact absurd (show false = true from hs) Bool.false_ne_true
  | str i =>
    obtain ⟨t, rfl⟩ := rx
    cases y with
    | non => cases ry; exact PySem.EqNone.eq_str_none (z0O I q (by simp))
    | bl j => cases ry; exact PySem.EqMixed.eq_str_bool (z0O I q (by simp))
    | int j => obtain ⟨t', rfl⟩ := ry; exact PySem.EqMixed.eq_str_int (z0O I q (by simp))
    | str j => obtain ⟨t', rfl⟩ := ry; exact eq_str (z0O I q z4T)
    | _ => exact absurd (show false = true from hs) Bool.false_ne_true
  | byt i =>
    obtain ⟨t, rfl⟩ := rx
    cases y with
    | byt j => obtain ⟨t', rfl⟩ := ry; exact PySem.W.eq_bytes (z0O I q z4U)
    | _ => exact absurd (show false = true from hs) Bool.false_ne_true
  | _ => cases y <;> exact absurd (show false = true from hs) Bool.false_ne_true
theorem z7f : OpR X (compareOp .NotEq) rNe := by
  intro pins s σ H x y v u Q I rx ry h
  obtain ⟨hs, q⟩ := h
  cases x with
  | non =>
    cases rx
    cases y with
    | non => cases ry; exact PySem.EqNone.ne_none_none (z0O I q (by simp))
    | bl j => cases ry; exact PySem.EqNone.ne_none_bool (z0O I q (by simp))
    | int j => obtain ⟨t', rfl⟩ := ry; exact PySem.EqNone.ne_none_int (z0O I q (by simp))
    | str j => obtain ⟨t', rfl⟩ := ry; exact PySem.EqNone.ne_none_str (z0O I q (by simp))
    | _ => exact absurd (show false = true from hs) Bool.false_ne_true
  | bl i =>
    cases rx
    cases y with
    | non => cases ry; exact PySem.EqNone.ne_bool_none (z0O I q (by simp))
    | bl j => cases ry; exact ne_bool (z0O I q (congrArg not z6L))
    | str j => obtain ⟨t', rfl⟩ := ry; exact PySem.EqMixed.ne_bool_str (z0O I q (by simp))
    | _ => exact absurd (show false = true from hs) Bool.false_ne_true
  | int i =>
    obtain ⟨t, rfl⟩ := rx
    cases y with
    | non => cases ry; exact PySem.EqNone.ne_int_none (z0O I q (by simp))
    | int j => obtain ⟨t', rfl⟩ := ry; exact ne_int (z0O I q (congrArg not z4S))
    | str j => obtain ⟨t', rfl⟩ := ry; exact PySem.EqMixed.ne_int_str (z0O I q (by simp))
    | _ => exact absurd (show false = true from hs) Bool.false_ne_true
  | str i =>
    obtain ⟨t, rfl⟩ := rx
    cases y with
    | non => cases ry; exact PySem.EqNone.ne_str_none (z0O I q (by simp))
    | bl j => cases ry; exact PySem.EqMixed.ne_str_bool (z0O I q (by simp))
    | int j => obtain ⟨t', rfl⟩ := ry; exact PySem.EqMixed.ne_str_int (z0O I q (by simp))
    | str j => obtain ⟨t', rfl⟩ := ry; exact ne_str (z0O I q (congrArg not z4T))
    | _ => exact absurd (show false = true from hs) Bool.false_ne_true
  | byt i =>
    obtain ⟨t, rfl⟩ := rx
    cases y with
    | byt j => obtain ⟨t', rfl⟩ := ry; exact PySem.W.ne_bytes (z0O I q (congrArg not z4U))
    | _ => exact absurd (show false = true from hs) Bool.false_ne_true
  | _ => cases y <;> exact absurd (show false = true from hs) Bool.false_ne_true
theorem z6d : OpR X (compareOp .Lt) (rI0 fun i j => .bl (decide (i < j))) := z8K fun _ _ _ _ _ _ _ q => lt_int q
theorem z2D : OpR X (compareOp .LtE) (rI0 fun i j => .bl (decide (i <= j))) := z8K fun _ _ _ _ _ _ _ q => le_int q
theorem z7g : OpR X (compareOp .Gt) (rI0 fun i j => .bl (decide (j < i))) := z8K fun _ _ _ _ _ _ _ q => gt_int q
theorem z7h : OpR X (compareOp .GtE) (rI0 fun i j => .bl (decide (j <= i))) := z8K fun _ _ _ _ _ _ _ q => ge_int q
theorem z6M : OpR X (compareOp .Is) (fun x y H Q => y = .non /\ Q (.bl (decide (x = .non))) H) := by
  intro pins s σ H x y v u Q I rx ry h
  obtain ⟨rfl, q⟩ := h
  cases ry
  refine is_none_gen (z0O I q ?_)
  cases x <;> first
    | (cases rx; rfl)
    | (obtain ⟨t, rfl⟩ := rx; rfl)
theorem z1L : OpR X (compareOp .IsNot) (fun x y H Q => y = .non /\ Q (.bl (!decide (x = .non))) H) := by
  intro pins s σ H x y v u Q I rx ry h
  obtain ⟨rfl, q⟩ := h
  cases ry
  refine isnot_none_gen (z0O I q ?_)
  cases x <;> first
    | (cases rx; rfl)
    | (obtain ⟨t, rfl⟩ := rx; rfl)
def isObj : HO -> Bool
  | .lst _ => true
  | .ins _ _ _ => true
  | _ => false
theorem OpR.or {f : Value -> Value -> Sem Value} {r r' : R2} (h : OpR X f r) (h' : OpR X f r') : OpR X f (fun x y H Q => r x y H Q \/ r' x y H Q) := by
  intro pins s σ H x y v u Q I rx ry q
  rcases q with q | q
  . exact h pins s σ H x y v u Q I rx ry q
  . exact h' pins s σ H x y v u Q I rx ry q
theorem z0T (b : Expr) {op : CmpOp} (h : op ≠ .In := by decide) (h2 : op ≠ .NotIn := by decide) : behindInMarks op b = false := by
  have e1 : (op == CmpOp.In) = false := by cases op <;> first | rfl | exact absurd rfl h
  have e2 : (op == CmpOp.NotIn) = false := by cases op <;> first | rfl | exact absurd rfl h2
  cases b <;> simp [behindInMarks, e1, e2]
theorem z4V {op : CmpOp} {r : R2} (ho : OpR X (compareOp op) r) (ha : PE X a ta) (hb : PE X b tb) (hm : behindInMarks op b = false) : PE X (.Compare a [op] [b] pos) (tOp r ta tb) := by
  intro pins s σ H Q I h
  exact wpAny_Compare1 (z8i ha hb I h fun v u s2 x y H2 I2 rx ry q => ho pins s2 σ H2 x y v u Q I2 rx ry q) hm
def z7i (t : TE) : TT := fun σ H Q => t σ H fun x H' => ∃ k, x = .bl k /\ Q k H'
theorem z0Q {op : CmpOp} {r : R2} (ho : OpR X (compareOp op) r) (ha : PE X a ta) (hb : PE X b tb) (hm : behindInMarks op b = false) : PT X (.Compare a [op] [b] pos) (z7i (tOp r ta tb)) := by
  intro pins s σ H Q I h
  refine wpAny_isTrue_Compare1 (thn (ha pins s σ H _ I h) fun v s1 ⟨x, H1, I1, r1, q1⟩ => thn (hb pins s1 σ H1 _ I1 q1) fun u s2 ⟨y, H2, I2, r2, q2⟩ =>
    thn (ho pins s2 σ H2 x y v u _ I2 r1 r2 q2) fun c s3 ⟨z, H3, I3, r3, k, e, q3⟩ => ?_) hm
  subst e
  cases r3
  exact wpAny_truthy_bool ⟨H3, I3, q3⟩
def z7j (r r' : R2) (ta tb tc : TE) : TE := fun σ H Q => ta σ H fun x H1 => tb σ H1 fun y H2 => r x y H2 fun z H3 => ∃ k, z = .bl k /\
  (if k = true then tc σ H3 fun w' H4 => r' y w' H4 Q else Q (.bl false) H3)
theorem z1Q {op op' : CmpOp} {r r' : R2} (ho : OpR X (compareOp op) r) (ho' : OpR X (compareOp op') r') (ha : PE X a ta) (hb : PE X b tb) (hc : PE X c tc)
    (hm : lastMarks [op, op'] [b, c] = false := by with_unfolding_all rfl) : PT X (.Compare a [op, op'] [b, c] pos) (z7i (z7j r r' ta tb tc)) := by
  intro pins s σ H Q I h
  refine isTrue_chain (thn (ha pins s σ H _ I h) fun v s1 ⟨x, H1, I1, r1, q1⟩ => test_link (thn (hb pins s1 σ H1 _ I1 q1) fun u s2 ⟨y, H2, I2, r2, q2⟩ =>
    thn (ho pins s2 σ H2 x y v u _ I2 r1 r2 q2) fun d s3 ⟨z, H3, I3, r3, k, e, q3⟩ => ?_)) hm
  subst e
  cases r3
  refine wpAny_truthy_bool ?_
  cases k with
  | false =>
    obtain ⟨k', e', q'⟩ := q3
    cases e'
    exact ite_ff ⟨H3, I3, q'⟩
  | true =>
    refine ite_tt (test_last (thn (hc pins s3 σ H3 _ I3 q3) fun w' s4 ⟨z', H4, I4, r4, q4⟩ => thn (ho' pins s4 σ H4 y z' u w' _ I4 r2 r4 q4) fun d' s5 ⟨z2, H5, I5, r5, k2, e2, q5⟩ => ?_))
    subst e2
    cases r5
    exact wpAny_truthy_bool ⟨H5, I5, q5⟩
def zB3 (K : PySem.W.Frag) (x : V) (H : Hp) (k : Bool) : Prop :=
  match x with
  | .non => k = false
  | .bl b => k = b
  | .int i => k = (i != 0)
  | .str y => y.length <= sizeLine /\ k = ((y.length : Int) != 0)
  | .byt y => y.size <= sizeLine /\ k = ((y.size : Int) != 0)
  | .ref p => (∃ xs, SqL K H p xs /\ k = !xs.isEmpty) \/ (∃ xs, SqT K H p xs /\ k = !xs.isEmpty) \/ ∃ kvs, H p = some (.dK kvs) /\ k = !kvs.isEmpty
  | _ => False
theorem z4W : (sizeLine : Nat) < 2 ^ 63 := by rw [sizeLine_eq]; decide
def z8L (b : Expr) : Prop := ∀ o i, subscripted b false o i = operate [o, i] (getItem o i)
theorem vals1 {x : V} {us : List Value} (r : Vals [x] us) : ∃ u, us = [u] /\ RelV x u := by
  cases r with
  | cons r1 r2 => cases r2; exact ⟨_, rfl, r1⟩
theorem vals2 {x y : V} {us : List Value} (r : Vals [x, y] us) : ∃ u w', us = [u, w'] /\ RelV x u /\ RelV y w' := by
  cases r with
  | cons r1 r2 =>
    cases r2 with
    | cons r3 r4 => cases r4; exact ⟨_, _, rfl, r1, r3⟩
def zB4 (K : PySem.W.Frag) (x : V) (H : Hp) (n : Nat) : Prop :=
  match x with
  | .str y => y.length <= sizeLine /\ n = y.length
  | .byt y => y.size <= sizeLine /\ n = y.size
  | .ref p => (∃ xs, SqL K H p xs /\ n = xs.length) \/ ∃ xs, SqT K H p xs /\ n = xs.length
  | _ => False
end
structure ObjM (h : Heap) (x dx C : Addr) (mA : Str -> Option Value) : Prop where
  obj : h.get? x = some (PySem.W.instObj C dx)
  ns : h.Ns1 dx mA
  ne : dx ≠ x
theorem z4X {h : Heap} {dx : Addr} {mA : Str -> Option Value} (n : h.Ns1 dx mA) : ∃ od, h.get? dx = some od /\ ∀ name, PySem.W.lookIn name od = some (mA name) := by
  obtain ⟨o, es, ep, ho, hd, hk, _, hm⟩ := n
  refine ⟨o, ho, fun name => ?_⟩
  have e := hm name
  unfold nsFind findBy at e
  rw [<- Array.find?_toList] at e
  unfold PySem.W.lookIn
  rw [hd]
  dsimp only
  split
  . rename_i y q
    rw [q] at e
    exact congrArg some e
  . rename_i q
    rw [q] at e
    have a : es.toList.any (·.refKey) = false := by
      rw [List.any_eq_false]
      intro y hy
      obtain ⟨z, t, hkey⟩ := hk y (Array.mem_toList_iff.mp hy)
      simp [DictEntry.refKey, hkey]
    have a' : ¬ es.toList.any (·.refKey) = true := by rw [a]; exact Bool.false_ne_true
    rw [if_neg a']
    exact congrArg some e
theorem ObjM.look {h : Heap} {x dx C : Addr} {mA : Str -> Option Value} (I : ObjM h x dx C mA) : ∃ od, PySem.W.InstAt h x (PySem.W.instObj C dx) C (some od) /\ ∀ name, PySem.W.lookIn name od = some (mA name) :=
  let ⟨od, ho, hl⟩ := z4X I.ns
  ⟨od, ⟨I.obj, rfl, rfl, ho⟩, hl⟩
section
variable {prog : Program} {w : World} {A : Around} {E : Value -> Shared -> Prop} {s : Shared} {K : PySem.W.Frag} {x dx C f : Addr} {mA : Str -> Option Value} {name : Str} {v : Value}
end
def z8k (f : Str) (v : V) : List (Str × V) -> List (Str × V)
  | [] => [(f, v)]
  | (g, x) :: r => if g = f then (g, v) :: r else (g, x) :: z8k f v r
theorem RelO.some_of {v : V} {o : Option Value} (r : RelO (some v) o) : ∃ u, o = some u /\ RelV v u := by
  cases o with
  | none => exact (show False from r).elim
  | some u => exact ⟨u, rfl, r⟩
section
variable {P : Program} {w : World} {H H' : Hp} {h h' : Heap} {a C dx : Addr} {fs fs' : List (Str × V)}
theorem z6e (hok : HOk P w H h) (e : H a = some (.ins C dx fs)) : ∃ mA, ObjM h a dx C mA /\ (∀ f, RelO (fs.lookup f) (mA f)) /\ PySem.Within mA (fs.map (·.1)) /\ fs.length <= 1000 /\ H dx = some (.own a) := by
  obtain ⟨d, z, ne, ob, mA, n, r, q⟩ := (show ObjOk P w H h a (.ins C dx fs) from hok a _ e)
  exact ⟨mA, ⟨ob, n, ne⟩, r, q, z, d⟩
end
structure Cls (K : PySem.W.Frag) (C : Addr) : Prop where
  pg : PySem.W.plainGet K C Str.empty = true
  hd : PySem.W.hasDictIn K C = true
  po : PySem.W.plainOver K C = true
  sa : PySem.W.findIn K (.ref C) "__setattr__" = some (some (.builtin "object.__setattr__"))
theorem Cls.get {K : PySem.W.Frag} {C : Addr} (c : Cls K C) (f : Str) : PySem.W.plainGet K C f = true := c.pg
def z4Y (K : PySem.W.Frag) (C : Addr) (f : Str) : Prop := PySem.W.findIn K (.ref C) f = some none
structure Con (K : PySem.W.Frag) (C : Addr) (f : Str) (v : V) (u : Value) : Prop where
  at_ : PySem.W.findIn K (.ref C) f = some (some u)
  rel : RelV v u
  get : PySem.W.specialIn K u "__get__" = some none
  cp : PySem.W.copiedNames.contains f = false
structure Meth (K : PySem.W.Frag) (C : Addr) (m : Str) (f : Addr) : Prop where
  at_ : PySem.W.findIn K (.ref C) m = some (some (.ref f))
  fn : PySem.W.isFn K (.ref f) = true
  kp : PySem.W.keepIn K (.ref f) = true
section
variable {X : Cx} {pins : List (Addr × Obj)} {σ : St} {H : Hp} {s : Shared} {a C dx : Addr} {fs : List (Str × V)} {f : Str} {v : V} {A : Around} {E : Value -> Shared -> Prop}
theorem Inv.made (I : Inv X pins σ H s) : Inv X pins σ (upd (upd H s.heap.objs.size (.own (s.heap.objs.size + 1))) (s.heap.objs.size + 1) (.ins C s.heap.objs.size []))
    { s with heap := (s.heap.push PySem.W.emptyDict).push (PySem.W.instObj C s.heap.objs.size) } := by
  have e1 : (s.heap.push PySem.W.emptyDict).get? s.heap.objs.size = some PySem.W.emptyDict := Heap.get?_push_size s.heap rfl
  have e2 : ((s.heap.push PySem.W.emptyDict).push (PySem.W.instObj C s.heap.objs.size)).get? (s.heap.objs.size + 1) = some (PySem.W.instObj C s.heap.objs.size) := by
    have := Heap.get?_push_size (s.heap.push PySem.W.emptyDict) (o := PySem.W.instObj C s.heap.objs.size) rfl
    rwa [Heap.size_push] at this
  have e3 : (s.heap.push PySem.W.emptyDict).Ns s.heap.objs.size (fun _ => none) := ⟨PySem.W.emptyDict, #[], _, e1, rfl, (fun e he => absurd he (by simp)), fun _ => rfl⟩
  have I1 := I.laid (a := s.heap.objs.size) (o := .own (s.heap.objs.size + 1)) (h' := s.heap.push PySem.W.emptyDict) (t' := s.toks) (fun b u q => Heap.get?_push_of_some _ q) (Nat.le_refl _) ⟨_, e1⟩
  refine I1.laid (a := s.heap.objs.size + 1) (o := .ins C s.heap.objs.size []) (t' := s.toks) (fun b u q => Heap.get?_push_of_some _ q) (Nat.le_of_eq (Heap.size_push _ _)) ?_
  have ne : s.heap.objs.size ≠ s.heap.objs.size + 1 := Nat.ne_of_lt (Nat.lt_succ_self _)
  refine ⟨by rw [z0A ne, upd_same], Nat.zero_le _, ne, e2, fun _ => none, (Heap.Ns1.of_empty e3).at fun o q => Heap.get?_push_of_some _ q, fun _ => True.intro, fun y hy => absurd rfl hy⟩
end
def zB5 (K : PySem.W.Frag) (ta : TE) (f : Str) : TE := fun σ H Q => ta σ H fun x H1 => ∃ a C dx fs v, x = .ref a /\ H1 a = some (.ins C dx fs) /\ Cls K C /\ z4Y K C f /\ fs.lookup f = some v /\ Q v H1
def zB6 (K : PySem.W.Frag) (ta : TE) (f : Str) : TE := fun σ H Q => ta σ H fun x H1 => ∃ a C dx fs v u, x = .ref a /\ H1 a = some (.ins C dx fs) /\ Cls K C /\ Con K C f v u /\ fs.lookup f = none /\ Q v H1
def zB7 (K : PySem.W.Frag) (ta tv : TE) (f : Str) : TS := fun D σ H => tv σ H fun y H1 => ta σ H1 fun x H2 => ∃ a C dx fs, x = .ref a /\ H2 a = some (.ins C dx fs) /\ Cls K C /\ z4Y K C f /\ fs.length < 1000 /\
  D.nx σ (upd H2 a (.ins C dx (z8k f y fs)))
def zB8 (X : Cx) (op : Operator) (rd : V -> V -> Hp -> VK -> Prop) : Prop :=
  ∀ (pins : List (Addr × Obj)) (s : Shared) (σ : St) (H : Hp) (x y : V) (u v : Value) (Q : VK), Inv X pins σ H s -> RelV x u -> RelV y v -> rd x y H Q -> wpAny (model X.prog X.w) X.A (inplaceOp op u v) (EP X pins σ Q) X.xe s
def z8l (K : PySem.W.Frag) (ta tv : TE) (rd : V -> V -> Hp -> VK -> Prop) (f : Str) : TS := fun D σ H => ta σ H fun x H1 => ∃ a C dx fs v, x = .ref a /\ H1 a = some (.ins C dx fs) /\ Cls K C /\ z4Y K C f /\ fs.lookup f = some v /\
  tv σ H1 fun y H2 => rd v y H2 fun z H3 => ∃ dx' fs', H3 a = some (.ins C dx' fs') /\ fs'.length < 1000 /\ D.nx σ (upd H3 a (.ins C dx' (z8k f z fs')))
section
variable {X : Cx} {o e value : Expr} {f : Str} {pos pos' tpos : Pos} {ta tv : TE}
def zB9 : V -> V -> Hp -> VK -> Prop := fun x y H Q => ∃ i j, x = .int i /\ y = .int j /\ Q (.int (i + j)) H
def zBA : V -> V -> Hp -> VK -> Prop := fun x y H Q => ∃ i j, x = .int i /\ y = .int j /\ Q (.int (i - j)) H
end
section
variable {X : Cx} {pins : List (Addr × Obj)} {σ : St} {H : Hp} {s : Shared} {A : Around} {E : Value -> Shared -> Prop} {Q : Value -> Shared -> Prop} {c : Value} {b : Bool}
inductive TyOf (K : PySem.W.Frag) (H : Hp) : V -> Value -> Prop where
  | non : TyOf K H .non (.type "NoneType")
  | bl (x : Bool) : TyOf K H (.bl x) (.type "bool")
  | int (i : Int) : TyOf K H (.int i) (.type "int")
  | str (x : Str) : TyOf K H (.str x) (.type "str")
  | flt (x : UInt64) : TyOf K H (.flt x) (.type "float")
  | lst {a : Addr} {xs : List V} (e : H a = some (.lst xs)) : TyOf K H (.ref a) (.type "list")
  | frz {a : Addr} {o : Obj} {xs : List V} (e : H a = some (.frz o (.lst xs))) : TyOf K H (.ref a) (.type "list")
  | tup {a : Addr} {xs : List V} (e : H a = some (.tup xs)) : TyOf K H (.ref a) (.type "tuple")
  | dK {a : Addr} {kvs : List (Key × V)} (e : H a = some (.dK kvs)) : TyOf K H (.ref a) (.type "dict")
  | dT {a : Addr} {kvs : List (List Key × V)} (e : H a = some (.dT kvs)) : TyOf K H (.ref a) (.type "dict")
  | ins {a C dx : Addr} {fs : List (Str × V)} (e : H a = some (.ins C dx fs)) (cl : Cls K C) (ha : PySem.W.findIn K (.ref C) "__class__" = some (some (.builtin "object.__class__")))
      (hn : PySem.W.specialIn K (.builtin "object.__class__") "__get__" = some (some (.builtin "getset_descriptor.__get__"))) (htk : PySem.W.takesIn K (.builtin "object.__class__") = some true)
      (hm : PySem.W.mroIn K C (.type "object") = some true) : TyOf K H (.ref a) (.ref C)
theorem z4Z {x : V} {u t : Value} (I : Inv X pins σ H s) (rx : RelV x u) (ty : TyOf X.K H x t) (e : PySem.W.kitOne X.K t c = some b) (h : ∀ tk, Q (.bool b) { s with toks := tk }) :
    wpAny (model X.prog X.w) A (call (.builtin "isinstance") [u, c]) Q E s := by
  cases ty with
  | non => cases (show u = Value.none from rx); exact PySem.W.kia_one PySem.W.kitx_none I.kIn True.intro e (fun z => nomatch z) h
  | bl y => cases (show u = Value.bool y from rx); exact PySem.W.kia_one PySem.W.kitx_bool I.kIn True.intro e (fun z => nomatch z) h
  | int i => obtain ⟨t, q⟩ := (show ∃ t, u = Value.int i t from rx); cases q; exact PySem.W.kia_one PySem.W.kitx_int I.kIn True.intro e (fun z => nomatch z) h
  | str y => obtain ⟨t, q⟩ := (show ∃ t, u = Value.str y t from rx); cases q; exact PySem.W.kia_one PySem.W.kitx_str I.kIn True.intro e (fun z => nomatch z) h
  | flt y => obtain ⟨t, q⟩ := (show ∃ t, u = Value.float y t from rx); cases q; exact PySem.W.kia_one PySem.W.kitx_float I.kIn True.intro e (fun z => nomatch z) h
  | @lst a xs ea =>
    cases (show u = Value.ref a from rx)
    obtain ⟨_, _, n, _, h1⟩ := (show ObjOk X.prog X.w H s.heap a (.lst xs) from I.hok a _ ea)
    exact PySem.W.kia_one PySem.W.kitx_list I.kIn ⟨_, h1, rfl⟩ e (fun z => nomatch z) h
  | @frz a ob xs ea =>
    cases (show u = Value.ref a from rx)
    obtain ⟨_, _, _, n, _, h1⟩ := (show ObjOk X.prog X.w H s.heap a (.frz ob (.lst xs)) from I.hok a _ ea)
    exact PySem.W.kia_one PySem.W.kitx_list I.kIn ⟨_, h1, rfl⟩ e (fun z => nomatch z) h
  | @tup a xs ea =>
    cases (show u = Value.ref a from rx)
    obtain ⟨_, _, _, p⟩ := (show ObjOk X.prog X.w H s.heap a (.tup xs) from I.hok a _ ea)
    obtain ⟨o, h1, h2, _⟩ := p
    exact PySem.W.kia_one PySem.W.kitx_tuple I.kIn ⟨o, h1, h2⟩ e (fun z => nomatch z) h
  | @dK a kvs ea =>
    cases (show u = Value.ref a from rx)
    obtain ⟨_, _, vs, _, p⟩ := (show ObjOk X.prog X.w H s.heap a (.dK kvs) from I.hok a _ ea)
    obtain ⟨o, es, ep, h1, h2, _⟩ := p
    exact PySem.W.kia_one PySem.W.kitx_dict I.kIn ⟨o, h1, h2.1⟩ e (fun z => nomatch z) h
  | @dT a kvs ea =>
    cases (show u = Value.ref a from rx)
    obtain ⟨_, _, xs, _, o, es, ep, h1, h2, _⟩ := (show ObjOk X.prog X.w H s.heap a (.dT kvs) from I.hok a _ ea)
    exact PySem.W.kia_one PySem.W.kitx_dict I.kIn ⟨o, h1, h2.1⟩ e (fun z => nomatch z) h
  | @ins a C dx fs ea cl ha hn htk hm =>
    cases (show u = Value.ref a from rx)
    obtain ⟨mA, O, _⟩ := z6e I.hok ea
    obtain ⟨od, J, _⟩ := O.look
    exact PySem.W.kia_one (PySem.W.kitx_own (cl.get _) cl.hd ha hn htk hm) I.kIn J e (fun z => nomatch z) h
end
structure Room (k : Nat) (A : Around) : Prop where
  hd : A.handled = none
  dp : A.depth + 3 * k + 5 < recursionLimit
  un : A.units + 16 * k + 200 < cLine
theorem Room.mono {j k : Nat} {A : Around} (r : Room k A) (h : j <= k) : Room j A := ⟨r.hd, by have := r.dp; omega, by have := r.un; omega⟩
theorem Room.deeper {k : Nat} {A : Around} (r : Room (k + 1) A) (env : Env) : Room k (A.deeper env) :=
  ⟨r.hd, by have := r.dp; show A.depth + 1 + 3 * k + 5 < _; omega, by have := r.un; show A.units + 3 + 16 * k + 200 < _; omega⟩
theorem Room.in1 {k : Nat} {A : Around} (r : Room (k + 1) A) : Room k A.in1 :=
  ⟨r.hd, by have := r.dp; show A.depth + 3 * k + 5 < _; omega, by have := r.un; show A.units + 1 + 16 * k + 200 < _; omega⟩
theorem Room.depth {k : Nat} {A : Around} (r : Room k A) : A.depth < recursionLimit := by have := r.dp; omega
theorem Room.units {k : Nat} {A : Around} (r : Room k A) : A.units + 64 < cLine := by have := r.un; omega
def z8m : TA := fun _ H Q => Q [] H
def z5l (ta : TE) (tr : TA) : TA := fun σ H Q => ta σ H fun x H1 => tr σ H1 fun xs H2 => Q (x :: xs) H2
section
variable {X : Cx} {e : Expr} {es : List Expr} {te : TE} {t : TA} {pos : Pos}
theorem z04 : PA X [] z8m := fun _ _ _ _ H Q I h => Calls.spliced_nil ⟨[], H, I, .nil, h⟩
theorem z00 (ha : PE X e te) (hr : PA X es t) (hs : starEach (e :: es) X.env = (false, eval e X.env) :: starEach es X.env := by rfl) : PA X (e :: es) (z5l te t) := by
  intro pos pins s σ H Q I h
  rw [hs]
  show wpAny _ _ (spliced ((false, eval e X.env) :: backTo pos (starEach es X.env))) _ _ s
  refine Calls.spliced_cons (thn (ha pins s σ H _ I h) fun u s1 ⟨x, H1, I1, r1, q1⟩ => ?_)
  exact thn (hr pos pins s1 σ H1 _ I1 q1) fun us s2 ⟨xs, H2, I2, r2, q2⟩ => ⟨x :: xs, H2, I2, .cons r1 r2, q2⟩
def zAN (t : TA) : TE := fun σ H Q => t σ H fun xs H1 => xs.length <= sizeLine /\ ∀ p, H1 p = none -> Q (.ref p) (upd H1 p (.tup xs))
def zAO (t : TA) : TE := fun σ H Q => t σ H fun xs H1 => xs.length <= sizeLine /\ ∀ p, H1 p = none -> Q (.ref p) (upd H1 p (.lst xs))
theorem z0p {x1} (h : PA X es t) : PE X (.Tuple es x1 pos) (zAN t) := by
  intro pins s σ H Q I hq
  refine wpAny_Tuple_spliced (thn (h pos pins s σ H _ I hq) fun us s1 ⟨xs, H1, I1, r, z, q⟩ => ⟨by rw [<- r.length]; exact z, ?_⟩)
  have hf : H1 s1.heap.objs.size = none := I1.hok.fresh (Nat.le_refl _)
  refine ⟨.ref s1.heap.objs.size, upd H1 s1.heap.objs.size (.tup xs), I1.laid (t' := s1.toks) (fun b u e => Heap.get?_push_of_some _ e) (Nat.le_refl _) ?_, rfl, q _ hf⟩
  exact ⟨z, us, r, ⟨_, Heap.get?_push_size _ rfl, rfl, _, rfl⟩⟩
theorem z20 (h : PA X es t) : PE X (.List es pos) (zAO t) := by
  intro pins s σ H Q I hq
  refine wpAny_List_spliced (thn (h pos pins s σ H _ I hq) fun us s1 ⟨xs, H1, I1, r, z, q⟩ => ⟨by rw [<- r.length]; exact z, ?_⟩)
  have hf : H1 s1.heap.objs.size = none := I1.hok.fresh (Nat.le_refl _)
  refine ⟨.ref s1.heap.objs.size, upd H1 s1.heap.objs.size (.lst xs), I1.laid (t' := s1.toks) (fun b u e => Heap.get?_push_of_some _ e) (Nat.le_refl _) ?_, rfl, q _ hf⟩
  exact ⟨z, us, 0, r, Heap.get?_push_size _ rfl⟩
end
abbrev Sp := List V -> Hp -> VK -> XK -> Prop
abbrev CXT := List Env -> Hp -> Shared -> XK -> Value -> Shared -> Prop
structure Env0 (P : Program) (w : World) (K : PySem.W.Frag) (mg : Str -> Option Value) (base : Heap) (A : Around) (outer : List Env) (s : Shared) (H : Hp) : Prop where
  frames : A.frames = some outer
  mod : Mod K mg base
  bs : ∀ b o, base.get? b = some o -> s.heap.get? b = some o /\ H b = none
  bsz : base.objs.size <= s.heap.objs.size
  funs : s.heap.FunFrames base outer
  frf : ∀ b ∈ frs outer, H b = none
  hok : HOk P w H s.heap
  bare : AllBare s.gens
def CE (outer : List Env) (P : Program) (w : World) (H : Hp) (s : Shared) (Q : VK) (u : Value) (s' : Shared) : Prop :=
  ∃ v H', s'.os = s.os /\ AllBare s'.gens /\ Un (frs outer) [] H H' s.heap s'.heap /\ HOk P w H' s'.heap /\ RelV v u /\ Q v H'
def CR (CX : CXT) (outer : List Env) (P : Program) (w : World) (H : Hp) (s : Shared) (Q : VK) (E : XK) (r : Result) (s' : Shared) : Prop :=
  match r with
  | .ok (.ret u) => CE outer P w H s Q u s'
  | .ok _ => False
  | .error e => CX outer H s E e s'
structure FnOk (P : Program) (w : World) (K : PySem.W.Frag) (mg : Str -> Option Value) (base : Heap) (CX : CXT) (k : Nat) (f : Addr) (fd : FuncData) (ps : List Str) (sp : Sp) : Prop where
  len : ∀ vs H Q E, sp vs H Q E -> vs.length = ps.length
  run : ∀ (A : Around) (outer : List Env) (s : Shared) (H : Hp) (args : Args) (us : List Value) (vs : List V) (Q : VK) (E : XK), Room k A -> Env0 P w K mg base A outer s H -> BindsTo s fd args (ps.zip us) -> Vals vs us -> sp vs H Q E ->
    codeAny (model P w) A (.call (.ref f) args) (CR CX outer P w H s Q E) s
theorem FnOk.mono {P : Program} {w : World} {K : PySem.W.Frag} {mg : Str -> Option Value} {base : Heap} {CX : CXT} {j k : Nat} {f : Addr} {fd : FuncData} {ps : List Str} {sp : Sp} (F : FnOk P w K mg base CX j f fd ps sp) (h : j <= k) :
    FnOk P w K mg base CX k f fd ps sp := ⟨F.len, fun A outer s H args us vs Q E hr => F.run A outer s H args us vs Q E (hr.mono h)⟩
theorem FnOk.imp {P : Program} {w : World} {K : PySem.W.Frag} {mg : Str -> Option Value} {base : Heap} {CX : CXT} {k : Nat} {f : Addr} {fd : FuncData} {ps : List Str} {sp sp' : Sp} (F : FnOk P w K mg base CX k f fd ps sp)
    (h : ∀ vs H Q E, sp' vs H Q E -> sp vs H Q E) : FnOk P w K mg base CX k f fd ps sp' :=
  ⟨fun vs H Q E q => F.len vs H Q E (h _ _ _ _ q), fun A outer s H args us vs Q E hr he hb hv hs => F.run A outer s H args us vs Q E hr he hb hv (h _ _ _ _ hs)⟩
theorem Env0.in1 {P : Program} {w : World} {K : PySem.W.Frag} {mg : Str -> Option Value} {base : Heap} {A : Around} {outer : List Env} {s : Shared} {H : Hp} (e : Env0 P w K mg base A outer s H) :
    Env0 P w K mg base A.in1 outer s H := ⟨e.frames, e.mod, e.bs, e.bsz, e.funs, e.frf, e.hok, e.bare⟩
section
variable {X : Cx} {pins : List (Addr × Obj)} {σ : St} {H : Hp} {s s' : Shared}
theorem Inv.env0 (I : Inv X pins σ H s) : Env0 X.prog X.w X.K X.mg X.base X.A X.stack s H :=
  ⟨I.ok.frames, I.ok.mod, I.bs, Nat.le_trans I.ok.bsz I.sz, I.stack, I.stkFree, I.hok, I.bare⟩
theorem Inv.after {Q : VK} {u : Value} (I : Inv X pins σ H s) (h : CE X.stack X.prog X.w H s Q u s') : EP X pins σ Q u s' := by
  obtain ⟨v, H', os, bare, un, hok, r, q⟩ := h
  obtain ⟨hh, g, d, t, os'⟩ := s'
  obtain rfl : os' = s.os := os
  exact ⟨v, H', I.call (h' := hh) (g' := g) (d' := d) (t' := t) (ch := []) un hok bare (fun b z => absurd z (by simp)), r, q⟩
end
def z3w (sp : Sp) (dvs : List V) (E : XK) (t : TA) : TE := fun σ H Q => t σ H fun vs H1 => sp (vs ++ dvs) H1 Q E
def zAP (C : Addr) (m : Str) (sp : Sp) (dvs : List V) (E : XK) (ta : TE) (t : TA) : TE := fun σ H Q => ta σ H fun x H1 => ∃ a dx fs, x = .ref a /\ H1 a = some (.ins C dx fs) /\ fs.lookup m = none /\
  t σ H1 fun vs H2 => sp (x :: (vs ++ dvs)) H2 Q E
def zAQ (C : Addr) (sp : Sp) (dvs : List V) (E : XK) (t : TA) : TE := fun σ H Q => t σ H fun vs H1 => ∀ x dx, H1 x = none -> H1 dx = none -> dx ≠ x ->
  sp (.ref x :: (vs ++ dvs)) (upd (upd H1 dx (.own x)) x (.ins C dx [])) (fun v H2 => v = .non /\ Q (.ref x) H2) E
def Binds (K : PySem.W.Frag) (fd : FuncData) (ps : List Str) (ds : List Value) : Prop :=
  ∀ (s : Shared) (us : List Value), K.In s.heap -> (us ++ ds).length = ps.length -> BindsTo s fd ⟨us, []⟩ (ps.zip (us ++ ds))
theorem Binds.all {K : PySem.W.Frag} {fd : FuncData} {ps : List Str} (h : ∀ us : List Value, us.length = ps.length -> bindArgs fd ⟨us, []⟩ = pure (ps.zip us)) : Binds K fd ps [] := fun s us _ hl => by
  rw [List.append_nil] at hl ⊢
  exact .of_eq (h us hl)
def z21 (CX : CXT) (X : Cx) (E : XK) : Prop := ∀ (pins : List (Addr × Obj)) (σ : St) (H : Hp) (s : Shared) (e : Value) (s' : Shared), Inv X pins σ H s -> CX X.stack H s E e s' -> X.xe e s'
section
variable {X : Cx} {CX : CXT} {k : Nat} {f C : Addr} {fd : FuncData} {ps : List Str} {sp : Sp} {dvs : List V} {ds : List Value} {E : XK} {x m : Str} {p pos apos : Pos} {e o : Expr} {es : List Expr} {ta : TE} {t : TA}
theorem z7k {pins : List (Addr × Obj)} {σ : St} {H : Hp} {s : Shared} {Q : VK} {us : List Value} {vs : List V} (F : FnOk X.prog X.w X.K X.mg X.base CX k f fd ps sp) (hr : Room k X.A) (hb : Binds X.K fd ps ds) (hd : Vals dvs ds) (hx : z21 CX X E)
    (I : Inv X pins σ H s) (r : Vals vs us) (h : sp (vs ++ dvs) H Q E) : wpAny (model X.prog X.w) X.A (call (.ref f) us) (EP X pins σ Q) X.xe s := by
  have r2 : Vals (vs ++ dvs) (us ++ ds) := r.append hd
  have hl : (us ++ ds).length = ps.length := by rw [<- r2.length]; exact F.len _ _ _ _ h
  refine wpAny_call (codeAny_mono (F.run X.A X.stack s H ⟨us, []⟩ (us ++ ds) (vs ++ dvs) Q E hr I.env0 (hb s us I.kIn hl) r2 h) fun r s' hq => ?_)
  cases r with
  | error e => exact hx pins σ H s e s' I hq
  | ok fl =>
    cases fl with
    | ret u => exact I.after hq
    | next => exact False.elim hq
    | brk => exact False.elim hq
    | cont => exact False.elim hq
theorem z2E (F : FnOk X.prog X.w X.K X.mg X.base CX k f fd ps sp) (hr : Room k X.A) (hg : Gl X x) (hm : X.mg x = some (.ref f)) (hk : PySem.W.keepIn X.K (.ref f) = true) (hb : Binds X.K fd ps ds) (hd : Vals dvs ds) (hx : z21 CX X E)
    (ha : PA X (e :: es) t) (hdb : (x == ("__debug__" : Str)) = false := by decide) (he : starEach (e :: es) X.env = (false, eval e X.env) :: starEach es X.env := by rfl) (hpl : (backTo pos (starEach es X.env)).any (·.1) = false := by rfl) :
    PE X (.Call (.Name x p) (e :: es) [] pos) (z3w sp dvs E t) := by
  intro pins s σ H Q I h
  refine wpAny_Call_Name_kw (z1K I hg hm ?_ hdb)
  refine PySem.W.callWith_K (h₀ := X.base) I.ok.mod.kin hk (thn (ha pos pins s σ H _ I h) fun us s1 ⟨vs, H1, I1, r, q⟩ => ⟨I1.kIn, ?_⟩) he hpl
  exact z7k F hr hb hd hx I1 r q
structure Mk (K : PySem.W.Frag) (C f : Addr) : Prop where
  makes : PySem.W.makesIn K C = true
  init : PySem.W.findIn K (.ref C) "__init__" = some (some (.ref f))
  fn : PySem.W.isFn K (.ref f) = true
  kp : PySem.W.keepIn K (.ref C) = true
end
def PK (X : Cx) (kws : List Keyword) (t : TA) : Prop :=
  ∀ (pos : Pos) (pins : List (Addr × Obj)) (s : Shared) (σ : St) (H : Hp) (Q : List V -> Hp -> Prop), Inv X pins σ H s -> t σ H Q -> wpAny (model X.prog X.w) X.A (evalAll ((backToKw pos (keywordEach kws X.env)).map (·.2))) (AP X pins σ Q) X.xe s
section
variable {X : Cx} {CX : CXT} {k : Nat} {f C : Addr} {fd : FuncData} {ps ks : List Str} {sp : Sp} {E : XK} {x m : Str} {p pos apos kpos : Pos} {e o : Expr} {es : List Expr} {kws : List Keyword} {te ta : TE} {t tk : TA} {nm : Option Str}
structure KBinds (K : PySem.W.Frag) (fd : FuncData) (ps ks : List Str) (g : List Value -> List Value -> List Value) (gV : List V -> List V -> List V) : Prop where
  to : ∀ (s : Shared) (us ws : List Value), K.In s.heap -> (g us ws).length = ps.length -> BindsTo s fd ⟨us, ks.zip ws⟩ (ps.zip (g us ws))
  rel : ∀ {vs : List V} {us : List Value} {zs : List V} {ws : List Value}, Vals vs us -> Vals zs ws -> Vals (gV vs zs) (g us ws)
def z9T (sp : Sp) (gV : List V -> List V -> List V) (E : XK) (t tk : TA) : TE := fun σ H Q => t σ H fun vs H1 => tk σ H1 fun zs H2 => sp (gV vs zs) H2 Q E
variable {g : List Value -> List Value -> List Value} {gV : List V -> List V -> List V}
end
structure FnScope (N P : List Str) (sc : Scope) : Prop where
  kind : sc.kind = .function
  co : sc.isCoroutine = false
  gen : sc.isGenerator = false
  nd : N.Nodup
  pre : N.take P.length = P
  par : ∀ x ∈ P, sc.names.lookup x = some .local \/ sc.names.lookup x = some .cell
  nofree : ∀ y ∈ sc.names, y.2 ≠ .free
theorem z2b {kindOf : Str -> Option NameKind} {x : Str} : ∀ {binds : List (Str × Value)} {m : Str -> Option Value}, (∀ v, (x, v) ∉ binds) -> bindL kindOf binds m x = m x
  | [], _, _ => rfl
  | (n, v) :: r, m, h => by
    unfold bindL
    rw [z2b fun w hw => h w (List.mem_cons_of_mem _ hw)]
    split
    . have : x ≠ n := by rintro rfl; exact h v List.mem_cons_self
      simp [this]
    . rfl
theorem z2c {kindOf : Str -> Option NameKind} {x : Str} : ∀ {binds : List (Str × Value)} {m : Str -> Option Value}, (∀ v, (x, v) ∉ binds) -> bindC kindOf binds m x = m x
  | [], _, _ => rfl
  | (n, v) :: r, m, h => by
    unfold bindC
    rw [z2c fun w hw => h w (List.mem_cons_of_mem _ hw)]
    split
    . rfl
    . have : x ≠ n := by rintro rfl; exact h v List.mem_cons_self
      simp [this]
theorem z2d {kindOf : Str -> Option NameKind} {x : Str} {v : Value} : ∀ {P : List Str} {vs : List Value} {i : Nat} {m : Str -> Option Value}, P.Nodup -> P[i]? = some x -> vs[i]? = some v -> kindOf x = some .local ->
    bindL kindOf (P.zip vs) m x = some v
  | [], _, _, _, _, h, _, _ => by simp at h
  | _ :: _, [], _, _, _, _, h, _ => by simp at h
  | p :: P, w :: vs, 0, m, nd, h1, h2, hk => by
    simp at h1 h2; subst h1; subst h2
    show bindL kindOf ((p, w) :: P.zip vs) m p = _
    unfold bindL
    rw [z2b fun v hv => (List.nodup_cons.mp nd).1 (List.of_mem_zip hv).1, if_pos hk]
    simp
  | p :: P, w :: vs, i + 1, m, nd, h1, h2, hk => by
    show bindL kindOf ((p, w) :: P.zip vs) m x = _
    unfold bindL
    exact z2d (i := i) (List.nodup_cons.mp nd).2 (by simpa using h1) (by simpa using h2) hk
theorem z2e {kindOf : Str -> Option NameKind} {x : Str} {v : Value} : ∀ {P : List Str} {vs : List Value} {i : Nat} {m : Str -> Option Value}, P.Nodup -> P[i]? = some x -> vs[i]? = some v -> kindOf x ≠ some .local ->
    bindC kindOf (P.zip vs) m x = some v
  | [], _, _, _, _, h, _, _ => by simp at h
  | _ :: _, [], _, _, _, _, h, _ => by simp at h
  | p :: P, w :: vs, 0, m, nd, h1, h2, hk => by
    simp at h1 h2; subst h1; subst h2
    show bindC kindOf ((p, w) :: P.zip vs) m p = _
    unfold bindC
    rw [z2c fun v hv => (List.nodup_cons.mp nd).1 (List.of_mem_zip hv).1, if_neg hk]
    simp
  | p :: P, w :: vs, i + 1, m, nd, h1, h2, hk => by
    show bindC kindOf ((p, w) :: P.zip vs) m x = _
    unfold bindC
    exact z2e (i := i) (List.nodup_cons.mp nd).2 (by simpa using h1) (by simpa using h2) hk
def start (N : List Str) (vs : List V) : St := vs.map some ++ List.replicate (N.length - vs.length) none
def z4a (CX : CXT) (P : Program) (w : World) (K : PySem.W.Frag) (mg : Str -> Option Value) (base : Heap) (N : List Str) (qual : Str) (scope : Scope) (f : Addr) (cd : Value) (A : Around) (outer : List Env) (s : Shared) (H : Hp) (E : XK) : Cx where
  prog := P
  w := w
  K := K
  mg := mg
  base := base
  A := A.deeper (envOfC qual scope s.heap.objs.size f cd)
  N := N
  s₀ := s
  H₀ := H
  env := envOfC qual scope s.heap.objs.size f cd
  outer := outer
  stack := envOfC qual scope s.heap.objs.size f cd :: outer
  ex := []
  calm := true
  fn := fun _ => true
  pn := []
  xe := fun e s' => wpAny (model P w) (A.deeper (envOfC qual scope s.heap.objs.size f cd)) (leaving (envOfC qual scope s.heap.objs.size f cd) e) (fun _ s'' => CX outer H s E e s'') (fun e' s'' => CX outer H s E e' s'') s'
theorem z3Y {sc : Scope} {n : Nat} {x : Str} (h : sc.names.lookup x = some .cell) : ∃ c, (cellsFrom n sc.names []).lookup x = some c := by
  have q := PySem.W.cellsFrom_some sc.names n [] (.inl h)
  exact Option.isSome_iff_exists.mp q
theorem z4b {CX : CXT} {P : Program} {w : World} {K : PySem.W.Frag} {mg : Str -> Option Value} {base : Heap} {N ps : List Str} {qual : Str} {scope : Scope} {f : Addr} {cd : Value} {A : Around} {outer : List Env} {s s1 : Shared} {H : Hp} {E : XK} {us : List Value} {vs : List V}
    (S : FnScope N ps scope) (hd : A.handled = none) (e0 : Env0 P w K mg base A outer s H) (hl : vs.length = ps.length) (r : Vals vs us)
    (x : InCallC s s.heap.objs.size (bindL (envOfC qual scope s.heap.objs.size f cd).kindOf (ps.zip us) fun _ => none) (cellsFrom (s.heap.objs.size + 1) scope.names []) (bindC (envOfC qual scope s.heap.objs.size f cd).kindOf (ps.zip us) fun _ => none) s1) :
    Inv (z4a CX P w K mg base N qual scope f cd A outer s H E) [] (start N vs) H s1 := by
  have hpl : ps.length <= N.length := by have := congrArg List.length S.pre; rw [List.length_take] at this; omega
  obtain ⟨h1, tk, rfl, hk⟩ := x.done
  have noA : ∀ b : Addr, b ∉ (z4a CX P w K mg base N qual scope f cd A outer s H E).ex := fun b z => absurd (show b ∈ ([] : List Addr) from z) (by simp)
  refine ⟨⟨e0.mod, S.kind, rfl, rfl, Nat.le_refl _, fun y z c h1 h2 => ?_, fun y hy => ?_, fun y c _ h => ?_, fun _ => hd, Around.frames_deeper e0.frames, .inr ⟨rfl, rfl⟩, fun b z => absurd z (noA b), e0.bs, e0.bsz, fun b _ _ => noA b, fun b z => absurd z (noA b), e0.funs, e0.frf⟩,
    rfl, e0.bare, Un.kept hk, ⟨_, x.toInCall.ns, fun i y v h1 h2 h3 => ?_⟩, fun y c h => ⟨_, x.cell y c h⟩, e0.hok.fresh (Nat.le_refl _), fun y c h => ?_, fun p hp => absurd (show p ∈ ([] : List (Addr × Obj)) from hp) (by simp), e0.hok.kept hk, ?_⟩
  . exact name_of_addr x.apart (PySem.mem_of_lookup h1) (PySem.mem_of_lookup h2)
  . have hy : scope.names.lookup y = some .cell \/ scope.names.lookup y = some .free := hy
    rcases hy with hy | hy
    . exact z3Y hy
    . exact absurd rfl (S.nofree _ (PySem.mem_of_lookup hy))
  . exact Nat.le_of_lt (x.above y c (PySem.mem_of_lookup h))
  . have hi : i < vs.length := by
      unfold start at h2
      by_cases hi : i < vs.length
      . exact hi
      . rw [List.getElem?_append_right (by simpa using hi)] at h2
        rw [List.getElem?_replicate] at h2
        split at h2 <;> cases h2
    have ha : vs[i]? = some v := by
      unfold start at h2
      rw [List.getElem?_append_left (by simpa using hi), List.getElem?_map] at h2
      cases e : vs[i]? with
      | none => rw [e] at h2; cases h2
      | some a => rw [e] at h2; cases h2; rfl
    obtain ⟨u, hu, rv⟩ := r.get ha
    have hp : ps[i]? = some y := by
      rw [<- S.pre, List.getElem?_take_of_lt (by omega)]; exact h1
    have ndP : ps.Nodup := by rw [<- S.pre]; exact S.nd.sublist (List.take_sublist _ _)
    refine ⟨u, rv, ?_⟩
    rcases S.par y (List.mem_of_getElem? hp) with k | k
    . exact .inl ⟨k, z2d ndP hp hu k⟩
    . obtain ⟨c, e⟩ := z3Y (n := s.heap.objs.size + 1) k
      refine .inr ⟨.inl k, c, e, ?_⟩
      have q := x.cell y c e
      rw [z2e ndP hp hu (by show scope.names.lookup y ≠ _; rw [k]; decide)] at q
      exact q
  . exact e0.hok.fresh (Nat.le_of_lt (x.above y c (PySem.mem_of_lookup h)))
  . unfold start
    show _ = N.length
    rw [List.length_append, List.length_map, List.length_replicate]
    omega
theorem z5m {CX : CXT} {P : Program} {w : World} {K : PySem.W.Frag} {mg : Str -> Option Value} {base : Heap} {k : Nat} {f : Addr} {name qual : Str} {params : Arguments} {body : List Stmt} {scope : Scope} {dV kV doc pm cdv ct oc : Value} {an od : Option Addr}
    {osl : Array (Option Value)} {N ps : List Str} {sp : Sp} (lk : K.lookup f = some ⟨oc, od, .func (PySem.W.fnOf name qual params body scope dV kV doc pm an cdv ct), osl⟩) (hcd : PySem.W.codeIn K cdv qual = true) (S : FnScope N ps scope)
    (len : ∀ vs H Q E, sp vs H Q E -> vs.length = ps.length)
    (hbody : ∀ (A : Around) (outer : List Env) (s : Shared) (H : Hp) (vs : List V) (Q : VK) (E : XK), Room k (A.deeper (envOfC qual scope s.heap.objs.size f cdv)) -> sp vs H Q E ->
      ∃ t, PSs (z4a CX P w K mg base N qual scope f cdv A outer s H E) body t /\ t { nx := fun _ H' => Q .non H', rt := Q } (start N vs) H) :
    FnOk P w K mg base CX (k + 1) f (PySem.W.fnOf name qual params body scope dV kV doc pm an cdv ct) ps sp := by
  refine ⟨len, fun A outer s H args us vs Q E hr e0 hb r hsp => ?_⟩
  have hl := len _ _ _ _ hsp
  have KX : K.In s.heap := e0.mod.kin.keeps fun b o e => (e0.bs b o e).1
  have lim : s.heap.NoLimit := e0.mod.nolimit.keeps fun b o e => (e0.bs b o e).1
  have hkind : ∀ y ∈ ps.zip us, scope.names.lookup y.1 = some .local \/ (scope.names.lookup y.1 = some .cell /\ ((cellsFrom (s.heap.objs.size + 1) scope.names []).lookup y.1).isSome = true) := fun ⟨n, v⟩ hy => by
    rcases S.par n (List.of_mem_zip hy).1 with q | q
    . exact .inl q
    . exact .inr ⟨q, PySem.W.cellsFrom_some _ _ _ (.inl q)⟩
  refine codeAny_call_function hr.depth (KX _ _ lk) rfl S.co S.gen rfl (PySem.W.codeRec_of KX hcd) (hb _ _ _ _ ?_)
  refine wpAny_newFunctionEnv_cells S.kind hkind fun env he s1 x => ?_
  subst he
  refine ⟨lim.keeps x.toInCall.keep, codeAny_func ?_⟩
  obtain ⟨t, ht, hq⟩ := hbody A outer s H vs Q E (hr.deeper _) hsp
  have I : Inv (z4a CX P w K mg base N qual scope f cdv A outer s H E) [] (start N vs) H s1 := z4b S hr.hd e0 hl r x
  refine wpAny_mono (ht [] s1 (start N vs) H _ I hq) (fun fl s' hs => ?_) fun e s' hs => hs
  have fin : ∀ {σ' : St} {H' : Hp} {v : V} {u : Value}, Inv (z4a CX P w K mg base N qual scope f cdv A outer s H E) [] σ' H' s' -> RelV v u -> Q v H' -> CE outer P w H s Q u s' :=
    fun {σ' H' v u} J rv q => ⟨v, H', J.os, J.bare, J.base, J.hok, rv, q⟩
  cases fl with
  | ret u =>
    obtain ⟨v, σ', H', J, rv, q⟩ := hs
    exact fin J rv q
  | next =>
    obtain ⟨σ', H', J, q⟩ := hs
    exact fin (v := V.non) (u := Value.none) J rfl q
  | brk =>
    obtain ⟨_, _, _, q⟩ := hs
    exact False.elim q
  | cont =>
    obtain ⟨_, _, _, q⟩ := hs
    exact False.elim q
section
variable {X : Cx} {x : Str} {p pos : Pos} {e : Expr} {es : List Expr} {t : TA} {id T : String} {r : List V -> Hp -> VK -> Prop}
def tCB (r : List V -> Hp -> VK -> Prop) (t : TA) : TE := fun σ H Q => t σ H fun vs H1 => r vs H1 Q
theorem z0L (hc : CallR X (.builtin id) r) (hg : Gl X x) (hm : X.mg x = none) (hv : bootBuiltins x = some (.builtin id)) (ha : PA X (e :: es) t) (hn : x ≠ "__name__" := by decide) (hdb : (x == ("__debug__" : Str)) = false := by decide)
    (he : starEach (e :: es) X.env = (false, eval e X.env) :: starEach es X.env := by rfl) (hpl : (backTo pos (starEach es X.env)).any (·.1) = false := by rfl) : PE X (.Call (.Name x p) (e :: es) [] pos) (tCB r t) := by
  intro pins s σ H Q I h
  refine wpAny_Call_Name_kw (z1z I hg hm hv ?_ hn hdb)
  exact PyProof.Rows.callWith_builtin1 (thn (ha pos pins s σ H _ I h) fun us s1 ⟨vs, H1, I1, r1, q1⟩ => hc pins s1 σ H1 vs us Q I1 r1 q1) he hpl
theorem z1R (hc : CallR X (.type T) r) (hg : Gl X x) (hm : X.mg x = none) (hv : bootBuiltins x = some (.type T)) (ha : PA X (e :: es) t) (hn : x ≠ "__name__" := by decide) (hdb : (x == ("__debug__" : Str)) = false := by decide)
    (he : starEach (e :: es) X.env = (false, eval e X.env) :: starEach es X.env := by rfl) (hpl : (backTo pos (starEach es X.env)).any (·.1) = false := by rfl) : PE X (.Call (.Name x p) (e :: es) [] pos) (tCB r t) := by
  intro pins s σ H Q I h
  refine wpAny_Call_Name_kw (z1z I hg hm hv ?_ hn hdb)
  exact PyProof.Rows.callWith_type1 (thn (ha pos pins s σ H _ I h) fun us s1 ⟨vs, H1, I1, r1, q1⟩ => hc pins s1 σ H1 vs us Q I1 r1 q1) he hpl
end
end L2
namespace HT
open PySem PyProof.Rows
def lexLt : List Int -> List Int -> Bool
  | [], [] => false
  | [], _ :: _ => true
  | _ :: _, [] => false
  | x :: xs, y :: ys => if x = y then lexLt xs ys else decide (x < y)
section
open PySem.SeqAt
open PySem.AutoSeq1 (wpAny_loadPart')
open PySem.MeetsSeq PySem.MeetsSeq2 PySem.MeetsSeq3
end
section
variable {prog : Program} {w : World} {A : Around} {E : Value -> Shared -> Prop} {s : Shared}
def sIx (n d : Nat) : Option Int -> Nat
  | none => d
  | some v => if v < 0 then (v + (n : Int)).toNat else min v.toNat n
end
end HT
namespace L2
open PySem PySem.Spec PyProof.Rows
abbrev TO := St -> Hp -> (Option Int -> Hp -> Prop) -> Prop
def PO (X : Cx) (e : Option Expr) (t : TO) : Prop :=
  ∀ (pins : List (Addr × Obj)) (s : Shared) (σ : St) (H : Hp) (Q : Option Int -> Hp -> Prop), Inv X pins σ H s -> t σ H Q ->
    wpAny (model X.prog X.w) X.A (evalPart e X.env) (fun u s' => ∃ o H', Inv X pins σ H' s' /\ IsPart u o /\ Q o H') X.xe s
def z8n : TO := fun _ H Q => Q none H
def zAR (t : TE) : TO := fun σ H Q => t σ H fun x H1 => ∃ i, x = .int i /\ Q (some i) H1
section
variable {X : Cx} {e : Expr} {te : TE} {lo hi : Option Expr} {tl th : TO} {pos p2 : Pos}
def SlR (X : Cx) (r : V -> Option Int -> Option Int -> Hp -> VK -> Prop) : Prop :=
  ∀ (pins : List (Addr × Obj)) (s : Shared) (σ : St) (H : Hp) (x : V) (v vl vu : Value) (lo hi : Option Int) (sl : Addr) (Q : VK), Inv X pins σ H s -> RelV x v -> s.heap.IsSliceOf sl vl vu .none -> IsPart vl lo -> IsPart vu hi -> r x lo hi H Q ->
    ∃ T id, typeLookup (.type T) "__getitem__" = pure (some (.builtin id)) /\ s.TypeIs v T /\ wpAny (model X.prog X.w) X.A (getItem v (.ref sl)) (EP X pins σ Q) X.xe s
theorem SlR.or {r r' : V -> Option Int -> Option Int -> Hp -> VK -> Prop} (h : SlR X r) (h' : SlR X r') : SlR X (fun x lo hi H Q => r x lo hi H Q \/ r' x lo hi H Q) := by
  intro pins s σ H x v vl vu lo hi sl Q I rx hs pl pu q
  rcases q with q | q
  . exact h pins s σ H x v vl vu lo hi sl Q I rx hs pl pu q
  . exact h' pins s σ H x v vl vu lo hi sl Q I rx hs pl pu q
def tSl (r : V -> Option Int -> Option Int -> Hp -> VK -> Prop) (te : TE) (tl th : TO) : TE := fun σ H Q => te σ H fun x H1 => tl σ H1 fun l H2 => th σ H2 fun u H3 => r x l u H3 Q
def z9U (xs : List V) (lo hi : Option Int) : List V := (xs.drop (HT.sIx xs.length 0 lo)).take (HT.sIx xs.length xs.length hi - HT.sIx xs.length 0 lo)
def zBB (K : PySem.W.Frag) : V -> Option Int -> Option Int -> Hp -> VK -> Prop := fun x lo hi H Q => ∃ a xs, x = .ref a /\ SqT K H a xs /\
  ¬ (HT.sIx xs.length 0 lo = 0 /\ HT.sIx xs.length xs.length hi = xs.length) /\ ∀ p, H p = none -> Q (.ref p) (upd H p (.tup (z9U xs lo hi)))
def zBC (K : PySem.W.Frag) : R2 := fun x y H Q => ∃ a b ns ms, x = .ref a /\ y = .ref b /\ SqT K H a (ns.map V.int) /\ SqT K H b (ms.map V.int) /\ Q (.bl (HT.lexLt ns ms)) H
def zAS (K : PySem.W.Frag) : R2 := fun x y H Q => ∃ a b xs ys, x = .ref a /\ y = .ref b /\ SqT K H a xs /\ SqT K H b ys /\ xs ≠ [] /\ xs.length + ys.length <= sizeLine /\
  (ys = [] -> Q (.ref a) H) /\ (ys ≠ [] -> ∀ p, H p = none -> Q (.ref p) (upd H p (.tup (xs ++ ys))))
end
def ixN (n : Nat) (i : Int) : Option Nat := if 0 <= i then (if i < n then some i.toNat else none) else if -(n : Int) <= i then some (i + n).toNat else none
def atI {α : Type} (xs : List α) (i : Int) : Option α := (ixN xs.length i).bind fun j => xs[j]?
theorem z6f {n : Nat} {i : Int} {j : Nat} (h : ixN n i = some j) : seqIndex? i n = some j /\ j < n /\ -(n : Int) <= i /\ i < n := by
  unfold ixN at h
  by_cases h0 : 0 <= i
  . rw [if_pos h0] at h
    by_cases h1 : i < n
    . rw [if_pos h1] at h
      have e : i.toNat = j := Option.some.inj h
      exact ⟨by rw [seqIndex_of h0 h1, e], by omega, by omega, h1⟩
    . rw [if_neg h1] at h; cases h
  . rw [if_neg h0] at h
    by_cases h1 : -(n : Int) <= i
    . rw [if_pos h1] at h
      have e : (i + n).toNat = j := Option.some.inj h
      exact ⟨by rw [seqIndex_neg (by omega) h1, e], by omega, h1, by omega⟩
    . rw [if_neg h1] at h; cases h
theorem z4c {α : Type} {xs : List α} {i : Int} {v : α} (h : atI xs i = some v) : ∃ j, seqIndex? i xs.length = some j /\ xs[j]? = some v /\ j < xs.length /\ -(xs.length : Int) <= i /\ i < xs.length := by
  unfold atI at h
  cases e : ixN xs.length i with
  | none => rw [e] at h; cases h
  | some j =>
    rw [e] at h
    obtain ⟨h1, h2, h3, h4⟩ := z6f e
    exact ⟨j, h1, h, h2, h3, h4⟩
theorem z0d {α : Type} {xs : List α} {j : Nat} {v : α} (h : xs[j]? = some v) : atI xs (j : Int) = some v := by
  have hj : j < xs.length := (List.getElem?_eq_some_iff.mp h).1
  have e : ixN xs.length (j : Int) = some j := by
    unfold ixN
    rw [if_pos (by omega), if_pos (by omega)]; simp
  unfold atI; rw [e]; exact h
def z6g (b : Expr) : Prop := ∀ o i, subscripted b false o i = operate [o, i] (getItem o i)
def IxR (X : Cx) (r : R2) : Prop :=
  ∀ (value slice : Expr) (pins : List (Addr × Obj)) (s : Shared) (σ : St) (H : Hp) (x y : V) (v u : Value) (Q : VK), Inv X pins σ H s -> RelV x v -> RelV y u -> r x y H Q ->
    subscripted slice false v u = operate [v, u] (getItem v u) -> wpAny (model X.prog X.w) X.A (subscriptTail value slice v u) (EP X pins σ Q) X.xe s
def MtR (X : Cx) (id : String) (r : V -> List V -> Hp -> VK -> Prop) : Prop :=
  ∀ (pins : List (Addr × Obj)) (s : Shared) (σ : St) (H : Hp) (x : V) (xs : List V) (v : Value) (us : List Value) (Q : VK), Inv X pins σ H s -> RelV x v -> Vals xs us -> r x xs H Q ->
    wpAny (model X.prog X.w) X.A (call (.builtin id) (v :: us)) (EP X pins σ Q) X.xe s
section
variable {X : Cx} {a b : Expr} {ta tb : TE} {pos : Pos}
theorem IxR.or {r r' : R2} (h : IxR X r) (h' : IxR X r') : IxR X (fun x y H Q => r x y H Q \/ r' x y H Q) := by
  intro value slice pins s σ H x y v u Q I rx ry q hs
  rcases q with q | q
  . exact h value slice pins s σ H x y v u Q I rx ry q hs
  . exact h' value slice pins s σ H x y v u Q I rx ry q hs
theorem MtR.or {id : String} {r r' : V -> List V -> Hp -> VK -> Prop} (h : MtR X id r) (h' : MtR X id r') : MtR X id (fun x xs H Q => r x xs H Q \/ r' x xs H Q) := by
  intro pins s σ H x xs v us Q I rx rs q
  rcases q with q | q
  . exact h pins s σ H x xs v us Q I rx rs q
  . exact h' pins s σ H x xs v us Q I rx rs q
theorem z0C {r : R2} (hr : IxR X r) (ha : PE X a ta) (hb : PE X b tb) (hs : z6g b) : PE X (.Subscript a b pos) (tOp r ta tb) := by
  intro pins s σ H Q I h
  exact Subscript_ (z8i ha hb I h fun v u s2 x y H2 I2 rx ry q => hr a b pins s2 σ H2 x y v u Q I2 rx ry q (hs _ _))
def z9V (K : PySem.W.Frag) : R2 := fun x y H Q => ∃ p xs i v, x = .ref p /\ y = .int i /\ SqL K H p xs /\ atI xs i = some v /\ Q v H
def z8o (K : PySem.W.Frag) : R2 := fun x y H Q => ∃ p xs i v, x = .ref p /\ y = .int i /\ SqT K H p xs /\ atI xs i = some v /\ Q v H
def zAT : R2 := fun x y H Q => ∃ z i c, x = .str z /\ y = .int i /\ z.length <= sizeLine /\ atI z.cps.toList i = some c /\ Q (.str ⟨#[c]⟩) H
theorem z0o : IxR X (z9V X.K) := by
  intro value slice pins s σ H x y v u Q I rx ry h hs
  obtain ⟨p, xs, i, z, rfl, rfl, hq, he, q⟩ := h
  cases rx
  obtain ⟨t, rfl⟩ := ry
  obtain ⟨its, r, pl, hz⟩ := I.list hq
  obtain ⟨j, h1, h2, h3, h4, h5⟩ := z4c he
  obtain ⟨w, ew, rw'⟩ := r.get h2
  have hl := r.length
  have hn := z4W
  have fin : EP X pins σ Q w s := ⟨z, H, I, rw', q⟩
  by_cases h0 : 0 <= i
  . have hj : i.toNat = j := by
      rw [seqIndex_of h0 h5] at h1
      exact Option.some.inj h1
    exact item_listR pl.isList h0 (by omega) (by rw [hj]; simpa using ew) fin hs
  . have hj : (i + (its.toArray.size : Int)).toNat = j := by
      rw [seqIndex_neg (by omega) h4] at h1
      rw [List.size_toArray, <- hl]
      exact Option.some.inj h1
    exact subscriptTail_builtinR (x := w) pl.isList.typeIs slot_list_getitem.lookup
      (wpAny_getItem_list_neg (Q := fun r s' => r = w /\ EP X pins σ Q r s') pl.isList (by omega) (by rw [List.size_toArray] <;> omega) (by omega) (by rw [hj]; simpa using ew) ⟨rfl, fin⟩) hs
theorem z06 : IxR X (z8o X.K) := by
  intro value slice pins s σ H x y v u Q I rx ry h hs
  obtain ⟨p, xs, i, z, rfl, rfl, hq, he, q⟩ := h
  cases rx
  obtain ⟨t, rfl⟩ := ry
  obtain ⟨its, r, pl, hz⟩ := I.tuple hq
  obtain ⟨j, h1, h2, h3, h4, h5⟩ := z4c he
  obtain ⟨w, ew, rw'⟩ := r.get h2
  have hl := r.length
  have hn := z4W
  have fin : EP X pins σ Q w s := ⟨z, H, I, rw', q⟩
  exact subscriptTail_builtinR (x := w) pl.typeIs slot_tuple_getitem.lookup
    (getItem_tuple (j := j) (Q := fun r s' => r = w /\ EP X pins σ Q r s') pl (by omega) (by omega) (by rw [List.size_toArray, <- hl]; exact h1) (by simpa using ew) ⟨rfl, fin⟩) hs
def rIx (K : PySem.W.Frag) : R2 := fun x y H Q => z9V K x y H Q \/ z8o K x y H Q \/ zAT x y H Q
theorem Inv.lst {pins : List (Addr × Obj)} {σ : St} {H : Hp} {s : Shared} {p : Addr} {xs : List V} (I : Inv X pins σ H s) (h : H p = some (.lst xs)) :
    ∃ (its : List Value) (n : Nat), Vals xs its /\ s.heap.get? p = some { cls := .type "list", data := .seq its.toArray n } /\ xs.length <= sizeLine := by
  obtain ⟨z, its, n, r, e⟩ := I.hok p _ h
  exact ⟨its, n, r, e, z⟩
def zAU : V -> V -> V -> Hp -> (Hp -> Prop) -> Prop := fun o i v H Q => ∃ p xs k j, o = .ref p /\ i = .int k /\ H p = some (.lst xs) /\ ixN xs.length k = some j /\ Q (upd H p (.lst (xs.set j v)))
def zBD (K : PySem.W.Frag) : V -> Option Int -> Option Int -> Hp -> VK -> Prop := fun x lo hi H Q => ∃ a xs, x = .ref a /\ SqL K H a xs /\ ∀ p, H p = none -> Q (.ref p) (upd H p (.lst (z9U xs lo hi)))
def z7l : V -> Bool
  | .non => true
  | .bl _ => true
  | .int _ => true
  | .str _ => true
  | _ => false
def eqV : V -> V -> Bool
  | .non, .non => true
  | .bl a, .bl b => a == b
  | .bl a, .int b => (if a then 1 else 0) == b
  | .int a, .bl b => a == (if b then 1 else 0)
  | .int a, .int b => a == b
  | .str a, .str b => a == b
  | _, _ => false
def eqU (x : V) (u : Value) : Bool := match u with
  | .none => eqV .non x
  | .bool b => eqV (.bl b) x
  | .int i _ => eqV (.int i) x
  | .str z _ => eqV (.str z) x
  | _ => false
def inV (x : V) (xs : List V) : Bool := xs.any fun y => eqV y x
def rIn (K : PySem.W.Frag) (neg : Bool) : R2 := fun x y H Q => ∃ p xs, y = .ref p /\ (SqL K H p xs \/ SqT K H p xs) /\ z7l x = true /\ xs.all z7l = true /\ Q (.bl (if neg then !inV x xs else inV x xs)) H
theorem z0H : CallR X (.builtin "len") (fun xs H Q => ∃ p ys, xs = [.ref p] /\ (SqL X.K H p ys \/ SqT X.K H p ys) /\ Q (.int ys.length) H) := by
  intro pins s σ H xs us Q I r h
  obtain ⟨p, ys, rfl, hq, q⟩ := h
  obtain ⟨u, rfl, rx⟩ := vals1 r
  cases rx
  have hn := z4W
  rcases hq with hq | hq
  . obtain ⟨its, r', pl, hz⟩ := I.list hq
    have hlen := r'.length
    exact Calls.call_len_list pl.isList (by simp only [List.size_toArray] <;> omega) ⟨.int ys.length, H, I.tok _, ⟨s.toks + 1, by rw [List.size_toArray, hlen]⟩, q⟩
  . obtain ⟨its, r', pl, hz⟩ := I.tuple hq
    have hlen := r'.length
    exact len_tuple pl (by simp only [List.size_toArray] <;> omega) ⟨.int ys.length, H, I.tok _, ⟨s.toks + 1, by rw [List.size_toArray, hlen]⟩, q⟩
theorem CallR.or {f : Value} {r r' : List V -> Hp -> VK -> Prop} (h : CallR X f r) (h' : CallR X f r') : CallR X f (fun xs H Q => r xs H Q \/ r' xs H Q) := by
  intro pins s σ H xs us Q I rs q
  rcases q with q | q
  . exact h pins s σ H xs us Q I rs q
  . exact h' pins s σ H xs us Q I rs q
theorem z0r : CallR X (.type "tuple") (fun xs H Q => ∃ p ys, xs = [.ref p] /\ ((SqL X.K H p ys /\ ∀ l, H l = none -> Q (.ref l) (upd H l (.tup ys))) \/ (SqT X.K H p ys /\ Q (.ref p) H))) := by
  intro pins s σ H xs us Q I r h
  obtain ⟨p, ys, rfl, h⟩ := h
  obtain ⟨u, rfl, rx⟩ := vals1 r
  cases rx
  rcases h with ⟨hq, q⟩ | ⟨hq, q⟩
  . obtain ⟨its, r', pl, hz⟩ := I.list hq
    have hlen := r'.length
    refine call_tuple_list pl.isList (fun h' kp => ?_) (by simp only [List.size_toArray] <;> omega)
    have I1 : Inv X pins σ H { s with heap := h' } := I.kept (t' := s.toks) kp
    have I2 : Inv X pins σ (upd H h'.objs.size (.tup ys)) { s with heap := h'.push { cls := .type "tuple", data := .seq its.toArray } } :=
      I1.laid (t' := s.toks) (fun b o e => Heap.get?_push_of_some _ e) (Nat.le_refl _) (show ObjOk X.prog X.w _ _ _ (.tup ys) from ⟨hz, its, r', IsTup.new _ _⟩)
    exact ⟨.ref h'.objs.size, _, I2, rfl, q _ (I1.hok.fresh (Nat.le_refl _))⟩
  . obtain ⟨its, r', pl, hz⟩ := I.tuple hq
    exact call_tuple_same pl ⟨.ref p, H, I, rfl, q⟩
def tyV (K : PySem.W.Frag) (T : String) (x : V) (H : Hp) : Prop := match x with
  | .str _ => T = "str"
  | .int _ => T = "int"
  | .ref p => (T = "list" /\ ∃ xs, SqL K H p xs) \/ (T = "tuple" /\ ∃ o, K.lookup p = some o /\ o.cls = .type "tuple" /\ o.dict = none) \/
      (T = "dict" /\ ((∃ kvs, H p = some (.dK kvs)) \/ ∃ kvs, H p = some (.dT kvs))) \/ (T = "set" /\ ∃ S n, H p = some (.set S n))
  | _ => False
theorem z6N {pins : List (Addr × Obj)} {σ : St} {H : Hp} {s : Shared} {T : String} {x : V} {v : Value} (I : Inv X pins σ H s) (r : RelV x v) (ty : tyV X.K T x H) :
    s.TypeIs v T /\ ∀ a, v = .ref a -> ∃ ob, s.heap.get? a = some ob /\ ob.dict = none := by
  cases x with
  | str z =>
    obtain ⟨t, rfl⟩ := r
    cases (show T = "str" from ty)
    exact ⟨typeIs_str s z t, fun _ e => nomatch e⟩
  | int i =>
    obtain ⟨t, rfl⟩ := r
    cases (show T = "int" from ty)
    exact ⟨typeIs_int s i t, fun _ e => nomatch e⟩
  | ref p =>
    cases r
    rcases ty with ⟨rfl, xs, hq⟩ | ⟨rfl, o, hk, hc, hd⟩ | ⟨rfl, hk⟩ | ⟨rfl, S, n, hk⟩
    . obtain ⟨its, _, pl, _⟩ := I.list hq
      refine ⟨pl.isList.typeIs, fun a e => ?_⟩
      cases e
      obtain ⟨o, n, e, c, hd, _⟩ := pl
      exact ⟨o, e, hd⟩
    . refine ⟨⟨o, I.kIn p o hk, hc⟩, fun a e => ?_⟩
      cases e
      exact ⟨o, I.kIn _ o hk, hd⟩
    . have z : ∃ o, s.heap.get? p = some o /\ o.ExactDict := by
        rcases hk with ⟨kvs, hk⟩ | ⟨kvs, hk⟩
        . obtain ⟨_, _, _, _, o, _, _, e, ex, _⟩ := I.hok p _ hk
          exact ⟨o, e, ex⟩
        . obtain ⟨_, _, _, _, o, _, _, e, ex, _⟩ := I.hok p _ hk
          exact ⟨o, e, ex⟩
      obtain ⟨o, e, ex⟩ := z
      refine ⟨⟨o, e, ex.1⟩, fun a e2 => ?_⟩
      cases e2
      exact ⟨o, e, ex.2.1⟩
    . obtain ⟨o, _, _, _, e, ex, _⟩ := I.hok p _ hk
      refine ⟨⟨o, e, ex.1⟩, fun a e2 => ?_⟩
      cases e2
      exact ⟨o, e, ex.2.1⟩
  | _ => exact False.elim ty
def zAV (K : PySem.W.Frag) (T : String) (r : V -> List V -> Hp -> VK -> Prop) (to : TE) : TE := fun σ H Q => to σ H fun x H1 => tyV K T x H1 /\ r x [] H1 Q
def tBM (K : PySem.W.Frag) (T : String) (r : V -> List V -> Hp -> VK -> Prop) (to : TE) (t : TA) : TE := fun σ H Q => to σ H fun x H1 => tyV K T x H1 /\ t σ H1 fun xs H2 => r x xs H2 Q
variable {o e : Expr} {es : List Expr} {to : TE} {t : TA} {name : Str} {apos cpos : Pos} {T id : String} {r : V -> List V -> Hp -> VK -> Prop}
theorem z7m (pa : PlainAttrs T) (slot : Slot T name id) (hty : typeOf (.builtin id) = pure (.type "method_descriptor")) (hm : MtR X id r) (ho : PE X o to)
    (hbase : attributeBase o name X.env (eval o X.env) = eval o X.env := by rfl) (hline : (apos.endLine == cpos.line) = true := by rfl) : PE X (.Call (.Attribute o name apos) [] [] cpos) (zAV X.K T r to) := by
  intro pins s σ H Q I h
  refine wpAny_Call_method0_late hbase hline (thn (ho pins s σ H _ I h) fun v s1 ⟨x, H1, I1, r1, ty, q1⟩ => ?_)
  obtain ⟨h1, h2⟩ := z6N I1 r1 ty
  exact ⟨T, id, pa, slot, hty, h1, h2, Calls.callWith_builtin rfl (PySem.evalArgs_none (hm pins s1 σ H1 x [] v [] Q I1 r1 .nil q1))⟩
theorem z6h (pa : PlainAttrs T) (slot : Slot T name id) (hty : typeOf (.builtin id) = pure (.type "method_descriptor")) (hm : MtR X id r) (ho : PE X o to) (ha : PA X (e :: es) t)
    (hbase : attributeBase o name X.env (eval o X.env) = eval o X.env := by rfl)
    (hfew : ((backTo cpos (starEach (e :: es) X.env)).all (fun x => !x.1) && (backToKw cpos (keywordEach [] X.env)).all (fun x => x.1.isSome)
      && decide ((e :: es).length + ([] : List Keyword).length + (if ([] : List Keyword).isEmpty then 0 else 1) < 30)) = true := by rfl)
    (hline : (apos.endLine == cpos.line) = true := by rfl) (hs : starEach (e :: es) X.env = (false, eval e X.env) :: starEach es X.env := by rfl) (hplain : (backTo cpos (starEach es X.env)).any (·.1) = false := by rfl) :
    PE X (.Call (.Attribute o name apos) (e :: es) [] cpos) (tBM X.K T r to t) := by
  intro pins s σ H Q I h
  refine wpAny_Call_method_late hbase hfew hline rfl (thn (ho pins s σ H _ I h) fun v s1 ⟨x, H1, I1, r1, ty, q1⟩ => ?_)
  obtain ⟨h1, h2⟩ := z6N I1 r1 ty
  refine ⟨T, id, pa, slot, hty, h1, h2, ?_⟩
  have hA := ha cpos pins s1 σ H1 _ I1 q1
  rw [hs] at hA ⊢
  refine Calls.callWith_builtin (by show (false || (backTo cpos (starEach es X.env)).any (·.1)) = false; rw [hplain] <;> rfl) (Calls.evalArgs_plain ?_)
  exact thn hA fun us s2 ⟨vs, H2, I2, r2, q2⟩ => hm pins s2 σ H2 x vs v us Q I2 r1 r2 q2
/- xs.append(e), list.index on a module's tuple .. are MtR facts of 06m -/
end
def MtM (X : Cx) (id : String) (r : V -> List V -> Hp -> VK -> Prop) : Prop :=
  ∀ (pins : List (Addr × Obj)) (s : Shared) (σ : St) (H : Hp) (x : V) (xs : List V) (v : Value) (us : List Value) (Q : VK), Inv X pins σ H s -> RelV x v -> Vals xs us -> r x xs H Q ->
    wpAny (model X.prog X.w) X.A (call (.builtin id) (v :: us)) (EP X pins σ Q) X.xe s
theorem Vals.one : ∀ {x : V} {us : List Value}, Vals [x] us -> ∃ u, us = [u] /\ RelV x u
  | _, _, .cons r .nil => ⟨_, rfl, r⟩
theorem Vals.two : ∀ {x y : V} {us : List Value}, Vals [x, y] us -> ∃ u v, us = [u, v] /\ RelV x u /\ RelV y v
  | _, _, _, .cons r (.cons q .nil) => ⟨_, _, rfl, r, q⟩
theorem Vals.zero : ∀ {us : List Value}, Vals [] us -> us = []
  | _, .nil => rfl
theorem Vals.dropLast {xs : List V} {us : List Value} (h : Vals xs us) : Vals xs.dropLast us.dropLast := by
  induction h with
  | nil => exact .nil
  | cons r t ih =>
    cases t with
    | nil => exact .nil
    | cons q t' => exact .cons r ih
theorem Vals.eraseIdx : ∀ {xs : List V} {us : List Value} (i : Nat), Vals xs us -> Vals (xs.eraseIdx i) (us.eraseIdx i)
  | _, _, _, .nil => .nil
  | _, _, 0, .cons _ t => t
  | _, _, i + 1, .cons r t => .cons r (Vals.eraseIdx i t)
theorem Vals.reverse {xs : List V} {us : List Value} (h : Vals xs us) : Vals xs.reverse us.reverse := by
  induction h with
  | nil => exact .nil
  | cons r t ih => rw [List.reverse_cons, List.reverse_cons]; exact Vals.append ih (.cons r .nil)
theorem Vals.rep {xs : List V} {us : List Value} (h : Vals xs us) : ∀ k : Nat, Vals (List.replicate k xs).flatten (List.replicate k us).flatten
  | 0 => .nil
  | k + 1 => by
    rw [List.replicate_succ, List.replicate_succ, List.flatten_cons, List.flatten_cons]
    exact Vals.append h (Vals.rep h k)
theorem foldl_rep (its : List Value) : ∀ (k : Nat) (acc : List Value),
    List.foldl (fun x1 x2 => x1 ++ x2) acc.toArray (List.replicate k its.toArray) = (acc ++ (List.replicate k its).flatten).toArray
  | 0, acc => by simp
  | k + 1, acc => by
    have e : acc.toArray ++ its.toArray = (acc ++ its).toArray := by simp
    have e2 : (acc ++ its) ++ (List.replicate k its).flatten = acc ++ (List.replicate (k + 1) its).flatten := by
      rw [List.replicate_succ, List.flatten_cons, List.append_assoc]
    rw [<- e2, <- foldl_rep its k (acc ++ its), <- e, List.replicate_succ, List.foldl_cons]
section
variable {X : Cx} {pins : List (Addr × Obj)} {σ : St} {H : Hp} {s : Shared} {l b : Addr} {xs ys zs : List V}
theorem Inv.lset {its its' : List Value} {n : Nat} {f : Array Value -> Array Value} {t' : Nat} (I : Inv X pins σ H s) (hH : H l = some (.lst xs))
    (e : s.heap.get? l = some { cls := .type "list", data := .seq its.toArray n }) (hf : f its.toArray = its'.toArray) (hv : Vals ys its') (hz : ys.length <= sizeLine) :
    Inv X pins σ (upd H l (.lst ys)) { s with heap := s.heap.update l (Obj.mapSeq f), toks := t' } := by
  have q := PySem.IsL.update e f
  rw [hf] at q
  refine I.write (x := l) (e := l) (by rw [hH]; exact trivial) (.inl rfl) (fun b' u hb hu => (Heap.get?_update_other s.heap (Obj.mapSeq f) (Ne.symm hb)).trans hu) ⟨_, q⟩ ?_
  exact ⟨hz, its', _, hv, q⟩
theorem Inv.lnew {its : List Value} {t' : Nat} (I : Inv X pins σ H s) (hv : Vals ys its) (hz : ys.length <= sizeLine) :
    Inv X pins σ (upd H s.heap.objs.size (.lst ys)) { s with heap := s.heap.push { cls := .type "list", data := .seq its.toArray }, toks := t' } :=
  I.laid (fun _ _ q => Heap.get?_push_of_some _ q) (Nat.le_refl _) ⟨hz, its, 0, hv, Heap.get?_push_size _ rfl⟩
theorem Inv.fresh (I : Inv X pins σ H s) : H s.heap.objs.size = none := I.hok.fresh (Nat.le_refl _)
theorem Inv.lstM (I : Inv X pins σ H s) (hH : H l = some (.lst xs)) : xs.length <= sizeLine /\ ∃ (its : List Value) (n : Nat), Vals xs its /\ xs.length = its.length /\ s.heap.get? l = some { cls := .type "list", data := .seq its.toArray n } := by
  obtain ⟨z, its, n, r, e⟩ := I.hok l _ hH
  exact ⟨z, its, n, r, r.length, e⟩
theorem z5n {n : Nat} (h : n <= sizeLine) : Builtin.List.listTooLong n = false := by
  unfold Builtin.List.listTooLong
  exact decide_eq_false (by omega)
end
section
variable {X : Cx}
def z6i : V -> List V -> Hp -> VK -> Prop := fun x vs H Q => ∃ l xs y, x = .ref l /\ vs = [y] /\ H l = some (.lst xs) /\ xs.length < sizeLine /\ Q .non (upd H l (.lst (xs ++ [y])))
theorem z1h : MtM X "list.append" z6i := by
  intro pins s σ H x vs v us Q I rx rv h
  obtain ⟨l, xs, y, rfl, rfl, hH, hz, q⟩ := h
  cases rx
  obtain ⟨u, rfl, ru⟩ := rv.one
  obtain ⟨z, its, n, r, hl, e⟩ := I.lstM hH
  refine call_meets F.slot_list_append ⟨_, e, rfl⟩ F.entry_list_append (F.args_list_append_2 _ _) (PySem.list_append l its.toArray n u (by rw [List.size_toArray]; omega)) ⟨e, ?_⟩
  refine ⟨.non, _, I.lset (its' := its ++ [u]) hH e (by simp) (r.append (.cons ru .nil)) ?_, rfl, q⟩
  rw [List.length_append, List.length_singleton]
  omega
def z8p : V -> List V -> Hp -> VK -> Prop := fun x vs H Q => ∃ l b xs zs, x = .ref l /\ vs = [.ref b] /\ H l = some (.lst xs) /\ H b = some (.lst zs) /\ xs.length + zs.length <= sizeLine /\ Q .non (upd H l (.lst (xs ++ zs)))
def zBE : V -> List V -> Hp -> VK -> Prop := fun x vs H Q => ∃ l xs y, x = .ref l /\ vs = [] /\ H l = some (.lst xs) /\ xs[xs.length - 1]? = some y /\ Q y (upd H l (.lst xs.dropLast))
def z9W : V -> List V -> Hp -> VK -> Prop := fun x vs H Q => ∃ l xs i k y, x = .ref l /\ vs = [.int i] /\ H l = some (.lst xs) /\ -(2 ^ 63) <= i /\ i < 2 ^ 63 /\ seqIndex? i xs.length = some k /\ xs[k]? = some y /\ Q y (upd H l (.lst (xs.eraseIdx k)))
def z8M : V -> List V -> Hp -> VK -> Prop := fun x vs H Q => ∃ l xs, x = .ref l /\ vs = [] /\ H l = some (.lst xs) /\ Q .non (upd H l (.lst xs.reverse))
def z9X : V -> List V -> Hp -> VK -> Prop := fun x vs H Q => ∃ l xs, x = .ref l /\ vs = [] /\ H l = some (.lst xs) /\ Q .non (upd H l (.lst []))
def zBF : R2 := fun x y H Q => ∃ l b xs zs, x = .ref l /\ y = .ref b /\ H l = some (.lst xs) /\ H b = some (.lst zs) /\ xs.length + zs.length <= sizeLine /\ ∀ p, H p = none -> Q (.ref p) (upd H p (.lst (xs ++ zs)))
def zAW : R2 := fun x y H Q => ∃ l k xs, x = .ref l /\ y = .int k /\ H l = some (.lst xs) /\ -(2 ^ 63) <= k /\ k < 2 ^ 63 /\ xs.length * k.toNat <= sizeLine /\
  ∀ p, H p = none -> Q (.ref p) (upd H p (.lst (List.replicate k.toNat xs).flatten))
theorem len_rep {α : Type} (xs : List α) (k : Nat) : (List.replicate k xs).flatten.length = k * xs.length := by
  induction k with
  | zero => simp
  | succ k ih => rw [List.replicate_succ, List.flatten_cons, List.length_append, ih, Nat.succ_mul, Nat.add_comm]
theorem z7n : OpR X (binaryOp .Mult) zAW := by
  intro pins s σ H x y v u Q I rx ry h
  obtain ⟨l, k, xs, rfl, rfl, hH, h1, h2, hz, q⟩ := h
  cases rx
  obtain ⟨t, rfl⟩ := ry
  obtain ⟨z, its, n, r, hl, e⟩ := I.lstM hH
  have hlen : its.toArray.size * k.toNat <= sizeLine := by rw [List.size_toArray, <- hl]; exact hz
  have hcap : ¬ its.toArray.size * k.toNat > (2 ^ 63 - 1) / 8 := by
    have : (sizeLine : Nat) <= (2 ^ 63 - 1) / 8 := by decide
    omega
  have hfit : ¬ (!Builtin.List.listFitsIndex k) = true := by
    rw [fitsIndex_both h1 h2]
    exact Bool.false_ne_true
  have hlong : ¬ Builtin.List.listTooLong (its.toArray.size * k.toNat) = true := by
    rw [z5n hlen]
    exact Bool.false_ne_true
  have hnew : List.foldl (fun x1 x2 => x1 ++ x2) #[] (List.replicate (if its.toArray.isEmpty = true then 0 else k.toNat) its.toArray) = (List.replicate k.toNat its).flatten.toArray := by
    have f0 : ∀ m : Nat, List.foldl (fun x1 x2 => x1 ++ x2) #[] (List.replicate m its.toArray) = (List.replicate m its).flatten.toArray := fun m => by
      have := foldl_rep its m []
      rw [List.nil_append] at this
      exact this
    rw [f0]
    cases its with
    | nil => simp
    | cons a r' => rw [if_neg (by simp)]
  refine wpAny_binaryOp_repeat_ref (T := "list") (U := "int") (by decide) ⟨_, e, rfl⟩ (fun s' => typeIs_int s' k t) noFill_list_mul F.fills_int_mul F.slot_int_rmul repeat_list F.slot_int_index.lookup
    (call_meets F.slot_int_rmul (typeIs_int s k t) F.entry_int_rmul (F.args_int_rmul_2 _ _) (int___rmul___int_list k t l its.toArray n)
      ⟨e, rfl, ⟨_, e, rfl⟩, call_meets F.slot_list_mul ⟨_, e, rfl⟩ F.entry_list_mul (F.args_list_mul_2 _ _) (AutoListH.list___mul___list_int_3 l its.toArray n k t hfit hcap hlong) ⟨e, ?_⟩⟩)
  rw [hnew]
  exact ⟨.ref _, _, I.lnew (t' := s.toks) (r.rep k.toNat) (by rw [len_rep, Nat.mul_comm]; exact hz), rfl, q _ I.fresh⟩
end
section
variable {prog : Program} {w : World} {A : Around} {E : Value -> Shared -> Prop} {s : Shared}
end
section
variable {X : Cx}
end
section
variable {κ : Type} [DecidableEq κ]
def z36 (kvs : List (κ × V)) (k : κ) : Option V := (kvs.find? fun kv => decide (kv.1 = k)).map (·.2)
def putK (kvs : List (κ × V)) (k : κ) (v : V) : List (κ × V) :=
  if (kvs.any fun kv => decide (kv.1 = k)) = true then kvs.map (fun kv => if kv.1 = k then (kv.1, v) else kv) else kvs ++ [(k, v)]
def z4d (kvs : List (κ × V)) (k : κ) : List (κ × V) := kvs.filter fun kv => decide (kv.1 ≠ k)
theorem z2F {p : κ × V} {r : List (κ × V)} {k : κ} (e : p.1 = k) : z36 (p :: r) k = some p.2 := by simp [z36, List.find?_cons, e]
theorem z2G {p : κ × V} {r : List (κ × V)} {k : κ} (e : ¬ p.1 = k) : z36 (p :: r) k = z36 r k := by simp [z36, List.find?_cons, e]
theorem z3Z (k : κ) : ∀ kvs : List (κ × V), (kvs.any fun kv => decide (kv.1 = k)) = (z36 kvs k).isSome
  | [] => rfl
  | p :: r => by
    rw [List.any_cons]
    by_cases e : p.1 = k
    . simp only [z2F e, decide_eq_true e, Bool.true_or, Option.isSome_some]
    . rw [z2G e, decide_eq_false e, Bool.false_or]; exact z3Z k r
theorem RelO.isSome_eq {o : Option V} {u : Option Value} (r : RelO o u) : o.isSome = u.isSome := by
  cases o with
  | none => cases u with
    | none => rfl
    | some _ => exact (show False from r).elim
  | some _ => cases u with
    | none => exact (show False from r).elim
    | some _ => rfl
theorem RelO.getD {o : Option V} {u : Option Value} {d : V} {d' : Value} (r : RelO o u) (rd : RelV d d') : RelV (o.getD d) (u.getD d') := by
  cases o with
  | none => cases u with
    | none => exact rd
    | some _ => exact (show False from r).elim
  | some _ => cases u with
    | none => exact (show False from r).elim
    | some _ => exact r
theorem KV.val {kvs : List (κ × V)} {vs : List (κ × Value)} (r : KV kvs vs) (k : κ) : RelO (z36 kvs k) (valueAt vs k) := by
  unfold KV at r
  induction r with
  | nil => exact True.intro
  | @cons p q ps qs h t ih =>
    obtain ⟨h1, h2⟩ := h
    by_cases e : p.1 = k
    . have e' : q.1 = k := h1.symm.trans e
      have b : valueAt (q :: qs) k = some q.2 := by simp [valueAt, List.find?_cons, e']
      rw [z2F e, b]; exact h2
    . have e' : ¬ q.1 = k := fun z => e (h1.trans z)
      have b : valueAt (q :: qs) k = valueAt qs k := by simp [valueAt, List.find?_cons, e']
      rw [z2G e, b]; exact ih
theorem KV.any {kvs : List (κ × V)} {vs : List (κ × Value)} (r : KV kvs vs) (k : κ) : (kvs.any fun kv => decide (kv.1 = k)) = vs.any fun kv => decide (kv.1 = k) := by
  unfold KV at r
  induction r with
  | nil => rfl
  | cons h t ih => rw [List.any_cons, List.any_cons, ih, h.1]
theorem KV.repl {kvs : List (κ × V)} {vs : List (κ × Value)} (r : KV kvs vs) (k : κ) {y : V} {u : Value} (ry : RelV y u) :
    KV (kvs.map fun kv => if kv.1 = k then (kv.1, y) else kv) (vs.map fun kv => if kv.1 = k then (kv.1, u) else kv) := by
  unfold KV at r ⊢
  induction r with
  | nil => exact .nil
  | @cons p q ps qs h t ih =>
    rw [List.map_cons, List.map_cons]
    refine .cons ?_ ih
    obtain ⟨h1, h2⟩ := h
    by_cases e : p.1 = k
    . rw [if_pos e, if_pos (h1.symm.trans e)]; exact ⟨h1, ry⟩
    . rw [if_neg e, if_neg (fun z => e (h1.trans z))]; exact ⟨h1, h2⟩
theorem KV.put {kvs : List (κ × V)} {vs : List (κ × Value)} (r : KV kvs vs) (k : κ) {y : V} {u : Value} (ry : RelV y u) : KV (putK kvs k y) (stored vs k u) := by
  unfold putK stored
  rw [r.any k]
  by_cases e : (vs.any fun kv => decide (kv.1 = k)) = true
  . rw [if_pos e, if_pos e]; exact r.repl k ry
  . rw [if_neg e, if_neg e]; exact Paired.snoc r ⟨rfl, ry⟩
theorem KV.drop {kvs : List (κ × V)} {vs : List (κ × Value)} (r : KV kvs vs) (k : κ) : KV (z4d kvs k) (without vs k) := by
  unfold KV at r ⊢
  unfold z4d without
  induction r with
  | nil => exact .nil
  | @cons p q ps qs h t ih =>
    obtain ⟨h1, h2⟩ := h
    rw [List.filter_cons, List.filter_cons]
    by_cases e : p.1 = k
    . have a : ¬ decide (p.1 ≠ k) = true := by simp [e]
      have b : ¬ decide (q.1 ≠ k) = true := by simp [h1.symm.trans e]
      rw [if_neg a, if_neg b]; exact ih
    . have e' : ¬ q.1 = k := fun z => e (h1.trans z)
      have a : decide (p.1 ≠ k) = true := by simp [e]
      have b : decide (q.1 ≠ k) = true := by simp [e']
      rw [if_pos a, if_pos b]; exact .cons ⟨h1, h2⟩ ih
theorem KV.keys {kvs : List (κ × V)} {vs : List (κ × Value)} (r : KV kvs vs) : kvs.map (·.1) = vs.map (·.1) := by
  unfold KV at r
  induction r with
  | nil => rfl
  | cons h t ih => rw [List.map_cons, List.map_cons, ih, h.1]
theorem KV.length {kvs : List (κ × V)} {vs : List (κ × Value)} (r : KV kvs vs) : kvs.length = vs.length := Paired.length r
end
abbrev KT (H : Hp) : List (List Key × V) -> List (List Key × Addr × Value) -> Prop := Paired fun p q => p.1 = q.1 /\ H q.2.1 = some (.tup (p.1.map kV)) /\ RelV p.2 q.2.2
theorem KT.val {H : Hp} {kvs : List (List Key × V)} {xs : List (List Key × Addr × Value)} (r : KT H kvs xs) (k : List Key) : RelO (z36 kvs k) ((atKey xs k).map (·.2)) := by
  induction r with
  | nil => exact True.intro
  | @cons p q ps qs h t ih =>
    obtain ⟨h1, _, h2⟩ := h
    by_cases e : p.1 = k
    . have e' : q.1 = k := h1.symm.trans e
      have b : atKey (q :: qs) k = some q.2 := by simp [atKey, List.find?_cons, e']
      rw [z2F e, b]; exact h2
    . have e' : ¬ q.1 = k := fun z => e (h1.trans z)
      have b : atKey (q :: qs) k = atKey qs k := by simp [atKey, List.find?_cons, e']
      rw [z2G e, b]; exact ih
theorem KT.repl {H : Hp} {kvs : List (List Key × V)} {xs : List (List Key × Addr × Value)} (r : KT H kvs xs) (k : List Key) {y : V} {u : Value} (ry : RelV y u) :
    KT H (kvs.map fun kv => if kv.1 = k then (kv.1, y) else kv) (xs.map (putAt k u)) := by
  induction r with
  | nil => exact .nil
  | @cons p q ps qs h t ih =>
    rw [List.map_cons, List.map_cons]
    refine .cons ?_ ih
    obtain ⟨h1, h2, h3⟩ := h
    unfold putAt
    by_cases e : p.1 = k
    . rw [if_pos e, if_pos (h1.symm.trans e)]; exact ⟨h1, h2, ry⟩
    . rw [if_neg e, if_neg (fun z => e (h1.trans z))]; exact ⟨h1, h2, h3⟩
theorem KT.put {H : Hp} {kvs : List (List Key × V)} {xs : List (List Key × Addr × Value)} (r : KT H kvs xs) (k : List Key) {b : Addr} {y : V} {u : Value} (hb : H b = some (.tup (k.map kV))) (ry : RelV y u) :
    KT H (putK kvs k y) (storedH xs k b u) := by
  have e : (kvs.any fun kv => decide (kv.1 = k)) = (atKey xs k).isSome := by
    rw [z3Z, (r.val k).isSome_eq, Option.isSome_map]
  unfold putK storedH
  rw [e]
  by_cases q : (atKey xs k).isSome = true
  . rw [if_pos q, if_pos q]; exact r.repl k ry
  . rw [if_neg q, if_neg q]; exact Paired.snoc r ⟨rfl, hb, ry⟩
theorem KT.keeps {H H' : Hp} {kvs : List (List Key × V)} {xs : List (List Key × Addr × Value)} (r : KT H kvs xs) (ht : ∀ b ys, H b = some (.tup ys) -> H' b = some (.tup ys)) : KT H' kvs xs :=
  Paired.mapP r fun _ _ z => ⟨z.1, ht _ _ z.2.1, z.2.2⟩
section
variable {P : Program} {w : World} {H : Hp} {h : Heap} {a : Addr}
end
def DGet (H : Hp) (a : Addr) (y : V) (r : Option V) : Prop :=
  (∃ kvs k, Rd H a (.dK kvs) /\ y = kV k /\ r = z36 kvs k) \/ ∃ kvs k b, Rd H a (.dT kvs) /\ y = .ref b /\ H b = some (.tup (k.map kV)) /\ r = z36 kvs k
def DPut (H : Hp) (a : Addr) (y v : V) (H' : Hp) : Prop :=
  (∃ kvs k, H a = some (.dK kvs) /\ y = kV k /\ kvs.length < sizeLine /\ H' = upd H a (.dK (putK kvs k v))) \/
  ∃ kvs k b, H a = some (.dT kvs) /\ y = .ref b /\ H b = some (.tup (k.map kV)) /\ kvs.length < sizeLine /\ H' = upd H a (.dT (putK kvs k v))
theorem DGet.k {H : Hp} {a : Addr} {kvs : List (Key × V)} {k : Key} (e : H a = some (.dK kvs)) : DGet H a (kV k) (z36 kvs k) := .inl ⟨kvs, k, .inl e, rfl, rfl⟩
theorem DGet.t {H : Hp} {a b : Addr} {kvs : List (List Key × V)} {k : List Key} (e : H a = some (.dT kvs)) (eb : H b = some (.tup (k.map kV))) : DGet H a (.ref b) (z36 kvs k) := .inr ⟨kvs, k, b, .inl e, rfl, eb, rfl⟩
theorem DPut.k {H : Hp} {a : Addr} {kvs : List (Key × V)} {k : Key} {v : V} (e : H a = some (.dK kvs)) (hl : kvs.length < sizeLine) : DPut H a (kV k) v (upd H a (.dK (putK kvs k v))) := .inl ⟨kvs, k, e, rfl, hl, rfl⟩
theorem DPut.t {H : Hp} {a b : Addr} {kvs : List (List Key × V)} {k : List Key} {v : V} (e : H a = some (.dT kvs)) (eb : H b = some (.tup (k.map kV))) (hl : kvs.length < sizeLine) :
    DPut H a (.ref b) v (upd H a (.dT (putK kvs k v))) := .inr ⟨kvs, k, b, e, rfl, eb, hl, rfl⟩
section
variable {X : Cx} {pins : List (Addr × Obj)} {σ : St} {H : Hp} {s : Shared} {a : Addr} {y v : V} {u r : Value} {o : Option V} {A : Around} {E : Value -> Shared -> Prop}
end
section
variable {X : Cx} {pins : List (Addr × Obj)} {σ : St} {H : Hp} {s : Shared} {a : Addr} {kvs : List (Key × V)} {k : Key} {u : Value} {A : Around} {E : Value -> Shared -> Prop}
end
def zBG (i : Expr) : Prop := ∀ ov iv, subscripted i false ov iv = operate [ov, iv] (getItem ov iv)
def zAX (td ty : TE) : TE := fun σ H Q => td σ H fun x H1 => ty σ H1 fun y H2 => ∃ a v, x = .ref a /\ DGet H2 a y (some v) /\ Q v H2
def zBH (ty td : TE) : TE := fun σ H Q => ty σ H fun y H1 => td σ H1 fun x H2 => ∃ a o, x = .ref a /\ DGet H2 a y o /\ Q (.bl o.isSome) H2
def z8q (ty td : TE) : TE := fun σ H Q => ty σ H fun y H1 => td σ H1 fun x H2 => ∃ a o, x = .ref a /\ DGet H2 a y o /\ Q (.bl (!o.isSome)) H2
def zAY (td ty tv : TE) : TS := fun D σ H => tv σ H fun v H1 => td σ H1 fun x H2 => ty σ H2 fun y H3 => ∃ a H4, x = .ref a /\ DPut H3 a y v H4 /\ D.nx σ H4
def zAZ (td ty tv : TE) (rd : V -> V -> Hp -> VK -> Prop) : TS := fun D σ H => td σ H fun x H1 => ty σ H1 fun y H2 => ∃ a v, x = .ref a /\ DGet H2 a y (some v) /\
  tv σ H2 fun y2 H3 => rd v y2 H3 fun z H4 => ∃ H5, DPut H4 a y z H5 /\ D.nx σ H5
def zAa (td ty : TE) : TS := fun D σ H => td σ H fun x H1 => ty σ H1 fun y H2 => ∃ a kvs k, x = .ref a /\ H2 a = some (.dK kvs) /\ y = kV k /\ (z36 kvs k).isSome = true /\ D.nx σ (upd H2 a (.dK (z4d kvs k)))
section
variable {X : Cx} {o i e value : Expr} {pos pos' tpos : Pos} {td ty tv : TE}
end
def z9Y : TE := fun _ H Q => ∀ p, H p = none -> Q (.ref p) (upd H p (.dK []))
def z9Z : TE := fun _ H Q => ∀ p, H p = none -> Q (.ref p) (upd H p (.dT []))
section
variable {X : Cx} {pos : Pos}
end
def z4e : List (TE × TE) -> St -> Hp -> (List (V × V) -> Hp -> Prop) -> Prop
  | [], _, H, Q => Q [] H
  | (tk, tv) :: r, σ, H, Q => tk σ H fun x H1 => tv σ H1 fun y H2 => z4e r σ H2 fun ps H3 => Q ((x, y) :: ps) H3
abbrev VV : List (V × V) -> List (Value × Value) -> Prop := Paired fun p q => RelV p.1 q.1 /\ RelV p.2 q.2
def PPs (X : Cx) (pos : Pos) (keys : List (Option Expr)) (values : List Expr) (trs : List (TE × TE)) : Prop :=
  ∀ (pins : List (Addr × Obj)) (s : Shared) (σ : St) (H : Hp) (Q : List (V × V) -> Hp -> Prop), Inv X pins σ H s -> z4e trs σ H Q ->
    wpAny (model X.prog X.w) X.A (evalPairs (pairTrees keys values X.env pos)) (fun vs s' => ∃ ps H', Inv X pins σ H' s' /\ VV ps vs /\ Q ps H') X.xe s
def z7o (kvs more : List (Key × V)) : List (Key × V) := more.foldl (fun acc kv => putK acc kv.1 kv.2) kvs
def zAb (trs : List (TE × TE)) : TE := fun σ H Q => ∀ p, H p = none -> z4e trs σ (upd H p (.dK [])) fun ps H2 => H2 p = some (.dK []) /\ ∃ kvs : List (Key × V), ps = kvs.map (fun kv => (kV kv.1, kv.2)) /\ kvs.length <= 15 /\ Q (.ref p) (upd H2 p (.dK (z7o [] kvs)))
structure M1 (X : Cx) (o : Expr) (m : Str) (apos : Pos) (e : Expr) (cpos : Pos) : Prop where
  base : attributeBase o m X.env (eval o X.env) = eval o X.env
  few : ((backTo cpos (starEach [e] X.env)).all (fun x => !x.1) && (backToKw cpos (keywordEach [] X.env)).all (fun x => x.1.isSome)
    && decide (([e] : List Expr).length + ([] : List Keyword).length + (if ([] : List Keyword).isEmpty then 0 else 1) < 30)) = true
  line : (apos.endLine == cpos.line) = true
  trees : backTo cpos (starEach [e] X.env) = [(false, eval e X.env)]
structure M2 (X : Cx) (o : Expr) (m : Str) (apos : Pos) (e f : Expr) (cpos : Pos) : Prop where
  base : attributeBase o m X.env (eval o X.env) = eval o X.env
  few : ((backTo cpos (starEach [e, f] X.env)).all (fun x => !x.1) && (backToKw cpos (keywordEach [] X.env)).all (fun x => x.1.isSome)
    && decide (([e, f] : List Expr).length + ([] : List Keyword).length + (if ([] : List Keyword).isEmpty then 0 else 1) < 30)) = true
  line : (apos.endLine == cpos.line) = true
  trees : backTo cpos (starEach [e, f] X.env) = [(false, eval e X.env), (false, eval f X.env)]
def IsD (H : Hp) (a : Addr) : Prop := (∃ kvs, Rd H a (.dK kvs)) \/ ∃ kvs, Rd H a (.dT kvs)
section
variable {X : Cx} {pins : List (Addr × Obj)} {σ : St} {H : Hp} {s : Shared} {a : Addr} {y d : V} {u r : Value} {o : Option V} {A : Around} {E : Value -> Shared -> Prop}
end
def z9a (td ty : TE) : TE := fun σ H Q => td σ H fun x H1 => ∃ a, x = .ref a /\ IsD H1 a /\ ty σ H1 fun y H2 => ∃ o, DGet H2 a y o /\ Q (o.getD .non) H2
def z9b (td ty tx : TE) : TE := fun σ H Q => td σ H fun x H1 => ∃ a, x = .ref a /\ IsD H1 a /\ ty σ H1 fun y H2 => tx σ H2 fun z H3 => ∃ o, DGet H3 a y o /\ Q (o.getD z) H3
def z9c (td ty : TE) : TE := fun σ H Q => td σ H fun x H1 => ∃ a, x = .ref a /\ IsD H1 a /\ ty σ H1 fun y H2 => ∃ kvs k v, H2 a = some (.dK kvs) /\ y = kV k /\ z36 kvs k = some v /\ Q v (upd H2 a (.dK (z4d kvs k)))
def z9d (td ty tx : TE) : TE := fun σ H Q => td σ H fun x H1 => ∃ a, x = .ref a /\ IsD H1 a /\ ty σ H1 fun y H2 => tx σ H2 fun z H3 => ∃ kvs k, H3 a = some (.dK kvs) /\ y = kV k /\
  (∀ v, z36 kvs k = some v -> Q v (upd H3 a (.dK (z4d kvs k)))) /\ (z36 kvs k = none -> Q z H3)
section
variable {X : Cx} {o e f : Expr} {apos cpos : Pos} {td ty tx : TE}
end
section
variable {X : Cx} {pins : List (Addr × Obj)} {σ : St} {H : Hp} {s : Shared} {a : Addr} {kvs : List (Key × V)} {A : Around} {E : Value -> Shared -> Prop}
end
section
variable {X : Cx} {pins : List (Addr × Obj)} {σ : St} {H : Hp} {s : Shared} {a : Addr} {y : V} {u : Value} {A : Around} {E : Value -> Shared -> Prop}
end
end L2
namespace Att
open PySem PySem.W PySem.Calls PyProof.Rows
theorem z1i {P : Params} {h : Heap} : ∀ (ns : List Int) (vs : List Value), WellAll P h vs (ns.map WData.int) -> IntsAre vs ns := by
  intro ns
  induction ns with
  | nil =>
    intro vs w
    rw [List.map_nil] at w
    cases w
    exact .nil
  | cons n ns ih =>
    intro vs w
    rw [List.map_cons] at w
    cases w with
    | cons a b =>
      cases a
      exact .cons _ _ (ih _ b)
theorem z4f {l : OpenLaw} {n : Nat} (hn : l.most = some n) {P : Params} {h : Heap} {args : List WData} {vals : List Value}
    (hpre : l.row.toRowW.claim.pre args = true) (hwl : WellAll P h vals args) :
    ∃ a vs ns, vals = [Value.ref a] /\ args = [WData.list (ns.map WData.int)] /\ h.get? a = some { cls := .type "list", data := .seq vs.toArray } /\ IntsAre vs ns /\ ns.length <= n := by
  have hsh : WShape.hasAll [] args [.list .int] = true := (pre_splitW hpre).1
  have hc : l.pre.holds [] { args := args } = true := (pre_splitW hpre).2
  obtain ⟨d, r, rfl, h1, h2⟩ := hasAllW_cons hsh
  obtain rfl := hasAllW_nil h2
  obtain ⟨xs, rfl, h3⟩ := hasW_list h1
  obtain ⟨ns, rfl⟩ := items_int h3
  have hlen : ns.length <= n := by
    unfold OpenLaw.pre at hc
    have h4 : (WTm.not (.lt (.lit (.int (n : Int))) (.len (.arg 0)))).holds [] { args := [.list (ns.map .int)] } = true := by
      have h4 := (holds_andW hc).1
      rw [hn] at h4
      exact h4
    have h5 := condW_of h4 (w_not (w_lt w_lit (w_len_list (w_arg rfl))))
    rw [List.length_map] at h5
    refine Nat.le_of_not_lt fun q => ?_
    have q' : (n : Int) < ((ns.length : Nat) : Int) := by omega
    first
      | (rw [decide_eq_true q'] at h5; exact absurd h5 (by decide))
      | (simp at h5; omega)
  cases hwl with
  | cons w1 w2 =>
    cases w2
    cases w1 with
    | list ho hall => exact ⟨_, _, ns, rfl, rfl, ho, z1i ns _ hall, hlen⟩
theorem z4g (l : OpenLaw) (args : List WData) : l.row.toRowW.claim.post args (.bool true) args = true :=
  postW_of (r := l.row.toRowW) (X := (true == true))
    (show WShape.has [] (.bool true) .bool = true by first | rfl | decide | simp [WShape.has, WShape.arms, WShape.armsAll])
    (show (WTm.eq .res (.lit (.bool true))).value [] { args := args, res := some (.bool true), after := args } = some (.bool (true == true)) from w_eq_bool (w_res rfl) w_lit) rfl
theorem attach_call {l : OpenLaw} {n : Nat} {q : Program} {loose : List Str} {XP : (Str -> Option Value) -> Heap -> Prop} {YP : World -> Heap -> Prop} {d : DefRec}
    (hn : l.most = some n) (hdf : d.params.defaults = [])
    (call : ∀ (w : World) (s₀ s₁ : Shared) (mg mb : Str -> Option Value) (fa : Addr) (o : Obj) (pm cd doc : Value) (a : Addr) (vs : List Value) (ns : List Int),
      Ground q loose [] XP w s₀ mg mb s₁.heap -> YP w s₁.heap ->
      s₁.heap.get? fa = some o -> o.data = .func (docDef d.name d.params d.body d.scope pm cd doc) -> s₁.heap.CodeRec cd d.name -> mg d.name = some (.ref fa) ->
      s₁.heap.get? a = some { cls := .type "list", data := .seq vs.toArray } -> IntsAre vs ns -> ns.length <= n -> s₁.gens = #[] ->
      codeAny (model l.prog w) callerA (.call (.ref fa) ⟨[.ref a], []⟩) (fun r s' => r = .ok (.ret (.bool true)) /\ OldK s₁.heap s'.heap /\ s'.os = s₁.os /\ AllBare s'.gens) s₁) :
    WalkO q loose XP YP l.row.toRowW d [] (fun f vs => PySem.call f vs) := by
  intro w s₀ s₁ mg mb G Y fa o pm cd doc dV kV ho hd hcd hD hmg hg args vals as hpre hlay hrd hwl hlo
  obtain rfl : dV = .none := Dflts.none hD hdf
  obtain rfl : kV = .none := Dflts.noKw hD
  obtain ⟨a, vs, ns, rfl, rfl, hobj, hints, hlen⟩ := z4f hn hpre hwl
  refine enter_call (codeAny_mono (call w s₀ s₁ mg mb fa o pm cd doc a vs ns G Y ho (fd_plain hd) hcd hmg hobj hints hlen hg) fun r s' hq => ?_)
  obtain ⟨rfl, h2, h3, h4⟩ := hq
  exact ⟨.inl ⟨.bool true, .bool true, [], rfl, fun _ => rfl, .bool true, z4g l _, fun _ => ⟨List.Pairwise.nil, fun _ hm => (nomatch hm)⟩⟩, h2, h3, h4⟩
section
variable {prog : Program} {w : World} {A : Around} {E : Value -> Shared -> Prop} {s : Shared} {K : Frag}
def z9e (h : Heap) : Heap := { h with objs := #[] }
def ledger (h : Heap) (L d : Addr) : List (Addr × Obj) := (List.range h.objs.size).filterMap fun a => if a = L \/ a = d then none else (h.get? a).map fun o => (a, o)
end
end Att
namespace L2
open PySem PySem.Spec PyProof.Rows
theorem z2f : ∀ {vs : List Value} {ns : List Int}, IntsAre vs ns -> Vals (ns.map V.int) vs
  | _, _, .nil => .nil
  | _, _, .cons n t h => .cons ⟨t, rfl⟩ (z2f h)
def z8r (H : Hp) : Prop := ∀ b, H b = none \/ ∃ o xs, H b = some (.frz o (.lst xs))
theorem z5o {P : Program} {w : World} {K : PySem.W.Frag} {mg mb : Str -> Option Value} {CX : CXT} {k : Nat} {fa a : Addr} {fd : FuncData} {x : Str} {sp : Sp} {s₁ : Shared} {vs : List Value} {ns : List Int}
    (KX : K.In s₁.heap) (hns : s₁.heap.Ns mainGlobals mg) (hb : s₁.heap.Ns builtinsNs mb) (hbb : ∀ x : Str, x ≠ "__name__" -> mb x = bootBuiltins x) (hlim : s₁.heap.NoLimit) (hg : s₁.gens = #[])
    (ha : s₁.heap.get? a = some { cls := .type "list", data := .seq vs.toArray }) (hi : IntsAre vs ns) (hl : ns.length <= sizeLine) (hr : Room k callerA)
    (F : ∀ base : Heap, K.In base -> base.Ns mainGlobals mg -> FnOk P w K mg base CX k fa fd [x] sp) (hbind : ∀ (s : Shared) (u : Value), BindsTo s fd ⟨[u], []⟩ [(x, u)])
    (hsp : ∀ H : Hp, z8r H -> SqL K H a (ns.map V.int) -> sp [.ref a] H (fun v _ => v = .bl true) fun _ _ _ => False)
    (hCX : ∀ H e s', CX [] H s₁ (fun _ _ _ => False) e s' -> False) :
    codeAny (model P w) callerA (.call (.ref fa) ⟨[.ref a], []⟩) (fun r s' => r = .ok (.ret (.bool true)) /\ OldK s₁.heap s'.heap /\ s'.os = s₁.os /\ AllBare s'.gens) s₁ := by
  have rv := z2f hi
  have lenV := hi.length
  have core : ∀ H : Hp, z8r H -> SqL K H a (ns.map V.int) -> HOk P w H s₁.heap -> (∀ b, H b ≠ none -> b = a) -> (H a ≠ none -> K.lookup a = none) ->
      codeAny (model P w) callerA (.call (.ref fa) ⟨[.ref a], []⟩) (fun r s' => r = .ok (.ret (.bool true)) /\ OldK s₁.heap s'.heap /\ s'.os = s₁.os /\ AllBare s'.gens) s₁ := by
    intro H hO hS hok hA hK
    have base_of : ∀ {b : Addr} {o : Obj}, s₁.heap.get? b = some o -> H b = none -> (z5f s₁.heap H).get? b = some o := fun e n => z5g e n
    have noA : ∀ {b : Addr} {o : Obj} {es : Array DictEntry} {ep : Nat}, s₁.heap.get? b = some o -> o.data = .dict es ep -> H b = none := fun {b o es ep} e d => by
      cases q : H b with
      | none => rfl
      | some u =>
        have e' : b = a := hA b (by rw [q]; simp)
        subst e'
        rw [ha] at e; cases e
        have d' : Data.seq vs.toArray _ = Data.dict es ep := d
        cases d'
    have nsK : ∀ {b : Addr} {m : Str -> Option Value}, s₁.heap.Ns b m -> (z5f s₁.heap H).Ns b m := fun {b m} ⟨o, es, ep, e, d, r⟩ => ⟨o, es, ep, base_of e (noA e d), d, r⟩
    have hKb : K.In (z5f s₁.heap H) := fun b o e => base_of (KX b o e) (by
      cases q : H b with
      | none => rfl
      | some u =>
        have e' : b = a := hA b (by rw [q]; simp)
        subst e'
        rw [hK (by rw [q]; simp)] at e; cases e)
    have hM : Mod K mg (z5f s₁.heap H) := ⟨hKb, nsK hns, ⟨mb, nsK hb, hbb⟩, let ⟨mc, h1, h2⟩ := hlim; ⟨mc, nsK h1, h2⟩⟩
    have e0 : Env0 P w K mg (z5f s₁.heap H) callerA [] s₁ H := ⟨rfl, hM, fun b o e => z6Z e, Nat.le_of_eq (z4I _ _), trivial, fun b hb => absurd (show b ∈ ([] : List Addr) from hb) (by simp), hok, .of_eq hg⟩
    refine codeAny_mono ((F _ hKb (nsK hns)).run callerA [] s₁ H ⟨[.ref a], []⟩ [.ref a] [.ref a] _ _ hr e0 (hbind s₁ (.ref a)) (.cons rfl .nil) (hsp H hO hS)) fun r s' h => ?_
    cases r with
    | error e => exact (hCX H e s' h).elim
    | ok fl =>
      cases fl with
      | next => exact False.elim h
      | brk => exact False.elim h
      | cont => exact False.elim h
      | ret u =>
        obtain ⟨v, H', os, bare, un, hok', r', q⟩ := h
        have q' : v = .bl true := q
        subst q'
        obtain rfl : u = Value.bool true := r'
        refine ⟨rfl, OldK.of_keep fun b o e => ?_, os, bare⟩
        cases q : H b with
        | none => exact un.keep b o e q (by intro z; exact absurd (show b ∈ ([] : List Addr) from z) (by simp)) (by simp)
        | some u =>
          rcases hO b with z | ⟨ob, xs, z⟩
          . rw [q] at z; cases z
          . have z2 := un.frzs b ob _ z
            obtain ⟨e1, _⟩ := hok b _ z
            obtain ⟨e2, _⟩ := hok' b _ z2
            rw [e] at e1; cases e1
            exact e2
  cases hk : K.lookup a with
  | some o =>
    have e := KX a o hk
    rw [ha] at e
    cases e
    refine core (fun _ => none) (fun _ => .inl rfl) (.inr ⟨_, vs.toArray, _, hk, rfl, rfl, rfl, by rw [List.size_toArray, lenV]; exact hl, by simpa using rv⟩) (fun b u z => by have z' : (none : Option HO) = some u := z; cases z') (fun b z => absurd rfl z) fun z => absurd rfl z
  | none =>
    refine core (fun b => if b = a then some (.frz { cls := .type "list", data := .seq vs.toArray } (.lst (ns.map V.int))) else none) (fun b => ?_) (.inl (.inr ⟨{ cls := .type "list", data := .seq vs.toArray }, if_pos rfl⟩)) (fun b u z => ?_) (fun b z => ?_) fun _ => hk
    . by_cases hb : b = a
      . exact .inr ⟨_, _, if_pos hb⟩
      . exact .inl (if_neg hb)
    . by_cases hb : b = a
      . have z' := (if_pos hb).symm.trans z
        cases z'
        subst hb
        exact ⟨ha, by rw [List.length_map]; exact hl, vs, _, rv, ha⟩
      . have z' := (if_neg hb).symm.trans z
        cases z'
    . by_cases hb : b = a
      . exact hb
      . exact absurd (if_neg hb) z
abbrev KOf {K : PySem.W.Frag} {h : Heap} (_ : K.In h) : PySem.W.Frag := K
theorem walk_of {l : PySem.W.OpenLaw} {n k : Nat} {q : Program} {loose : List Str} {XP : (Str -> Option Value) -> Heap -> Prop} {YP : World -> Heap -> Prop} {d : DefRec} {K : Params -> PySem.W.Frag} {CX : World -> CXT} {sp : World -> Sp} {x : Str}
    (hn : l.most = some n) (hn2 : n <= sizeLine) (hdf : d.params.defaults = []) (hr : Room k callerA)
    (hY : ∀ (w : World) (h : Heap), YP w h -> (K w.params).In h)
    (F : ∀ (w : World) (mg : Str -> Option Value) (fa : Addr) (h : Heap), (K w.params).In h -> h.Ns mainGlobals mg -> mg d.name = some (.ref fa) ->
      ∃ fd : FuncData, (∀ (s : Shared) (u : Value), BindsTo s fd ⟨[u], []⟩ [(x, u)]) /\
        ∀ base : Heap, (K w.params).In base -> base.Ns mainGlobals mg -> FnOk l.prog w (K w.params) mg base (CX w) k fa fd [x] (sp w))
    (hsp : ∀ (w : World) (H : Hp) (a : Addr) (ns : List Int), ns.length <= n -> z8r H -> SqL (K w.params) H a (ns.map V.int) -> sp w [.ref a] H (fun v _ => v = .bl true) fun _ _ _ => False)
    (hCX : ∀ (w : World) (H : Hp) (s : Shared) (e : Value) (s' : Shared), CX w [] H s (fun _ _ _ => False) e s' -> False) :
    PySem.W.WalkO q loose XP YP l.row.toRowW d [] (fun f vs => PySem.call f vs) := by
  refine Att.attach_call hn hdf fun w s₀ s₁ mg mb fa o pm cd doc a vs ns G Y ho hd hcd hmg hobj hints hlen hg => ?_
  have KX := hY w _ Y
  obtain ⟨fd, hb, hF⟩ := F w mg fa _ KX G.T.g hmg
  exact z5o KX G.T.g G.T.b G.T.builtins G.T.nolimit hg hobj hints (Nat.le_trans hlen hn2) hr hF hb (fun H hO hS => hsp w H a ns hlen hO hS) fun H e s' => hCX w H s₁ e s'
end L2
/- THE LAST THEOREM (shape; LID, My.* are yours):
   My.Adr: a structure of the addresses that your layer names (classes, functions); My.Txt K t: a structure (Prop) of the equations over K;
   My.txt_mk : {K} {implicit addresses ..} (e1 : nsIn K mainGlobals "law" = some (some (.ref f))) (e2 : K.lookup f = some ⟨oc, od, .func (fnOf "law" "law" params body scope dV kV doc pm an cdv ct), sl⟩) (e3 : codeIn K cdv "law" = true) .. : ∃ t, My.Txt K t
set_option maxRecDepth 100000 in
set_option maxHeartbeats 0 in
theorem PySem.Challenge.cw_LID_holds : PySem.Challenge.rw_LID.Holds := by
  w_on; o_law; k_head; (case hw => w_witness2)
  k_fill
  refine L2.walk_of (l := PySem.Challenge.rw_LID) (n := 63) (k := 40) (x := "script") (CX := fun w => ..) (sp := fun _ => My.sp_law) rfl (by decide) rfl ⟨rfl, by decide, by decide⟩ (fun w h Y => PySem.W.kIn_of Y) ?F ?S ?C
  case F =>
    intro w mg fa h KX G hmg
    have T : ∃ t, My.Txt (L2.KOf KX) t := by
      dsimp only [L2.KOf]
      refine' My.txt_mk ?e1 ?e2 ?e3 ..
      (case e1 => PySem.W.k_is)
      (case e2 => PySem.W.k_is)
      ..
    obtain ⟨t, T⟩ := T
    have e0 := hmg.symm.trans (PySem.W.mg_of KX G T.law)
    cases e0
    exact ⟨_, fun s u => .of_eq rfl, fun base kb nb => My.law_fn T kb nb⟩
  case S => exact fun w H a ns hl hO hS => ..
  case C => exact ..
(the tactic k_is has no namespace: write k_is) -/
namespace L2
open PySem PySem.Spec PyProof.Rows
def inClass (s : Stmt) (j : Nat) : Stmt := match s with
  | .ClassDef _ _ _ body _ _ _ _ _ _ _ => body.getD j (.Pass ⟨0, 0, 0, 0⟩)
  | _ => .Pass ⟨0, 0, 0, 0⟩
def z0D (s : Stmt) : Arguments := match s with
  | .FunctionDef _ a _ _ _ _ _ _ _ _ => a
  | _ => { posonlyargs := [], args := [], vararg := none, kwonlyargs := [], kw_defaults := [], kwarg := none, defaults := [] }
def z0B (s : Stmt) : List Stmt := match s with
  | .FunctionDef _ _ b _ _ _ _ _ _ _ => b
  | _ => []
def z02 (s : Stmt) : Scope := match s with
  | .FunctionDef _ _ _ _ _ _ sc _ _ _ => sc
  | _ => { kind := .function, names := [], isGenerator := false, isCoroutine := false }
abbrev CX0 : CXT := fun _ _ _ _ _ _ => False
abbrev E0 : XK := fun _ _ _ => False
theorem z7p {X : Cx} : z21 CX0 X E0 := fun _ _ _ _ _ _ _ h => h.elim
structure Fun (K : PySem.W.Frag) (x qual : Str) (st : Stmt) (f : Addr) (fd : FuncData) : Prop where
  ex : ∃ (oc : Value) (od : Option Addr) (kV doc pm : Value) (an : Option Addr) (cdv ct : Value) (osl : Array (Option Value)),
    fd = PySem.W.fnOf x qual (z0D st) (z0B st) (z02 st) .none kV doc pm an cdv ct /\ K.lookup f = some ⟨oc, od, .func fd, osl⟩ /\ PySem.W.codeIn K cdv qual = true
  kp : PySem.W.keepIn K (.ref f) = true
section
variable {P : Program} {w : World} {K : PySem.W.Frag} {mg : Str -> Option Value} {base : Heap}
theorem Fun.ok {x qual : Str} {st : Stmt} {f : Addr} {fd : FuncData} {N ps : List Str} {k : Nat} {sp : Sp} (F : Fun K x qual st f fd) (S : FnScope N ps (z02 st)) (len : ∀ vs H Q E, sp vs H Q E -> vs.length = ps.length)
    (hbody : ∀ (cdv : Value) (A : Around) (outer : List Env) (s : Shared) (H : Hp) (vs : List V) (Q : VK) (E : XK), Room k (A.deeper (envOfC qual (z02 st) s.heap.objs.size f cdv)) -> sp vs H Q E ->
      ∃ t, PSs (z4a CX0 P w K mg base N qual (z02 st) f cdv A outer s H E).nox (z0B st) t /\ t { nx := fun _ H' => Q .non H', rt := Q } (start N vs) H) : FnOk P w K mg base CX0 (k + 1) f fd ps sp := by
  obtain ⟨oc, od, kV, doc, pm, an, cdv, ct, osl, rfl, lk, hcd⟩ := F.ex
  refine z5m lk hcd S len fun A outer s H vs Q E hr hsp => ?_
  obtain ⟨t, h, q⟩ := hbody cdv A outer s H vs Q E hr hsp
  exact ⟨t, h.nox, q⟩
theorem Fun.binds {x qual : Str} {st : Stmt} {f : Addr} {fd : FuncData} {ps : List Str} (F : Fun K x qual st f fd)
    (h : ∀ (kV doc pm : Value) (an : Option Addr) (cdv ct : Value) (us : List Value), us.length = ps.length -> bindArgs (PySem.W.fnOf x qual (z0D st) (z0B st) (z02 st) .none kV doc pm an cdv ct) ⟨us, []⟩ = pure (ps.zip us)) : Binds K fd ps [] := by
  obtain ⟨oc, od, kV, doc, pm, an, cdv, ct, osl, rfl, lk, hcd⟩ := F.ex
  exact .all (h kV doc pm an cdv ct)
theorem z0R {x qual : Str} {st : Stmt} {f : Addr} {oc : Value} {od an : Option Addr} {osl : Array (Option Value)} {kV doc pm cdv ct : Value} (l : K.lookup f = some ⟨oc, od, .func (PySem.W.fnOf x qual (z0D st) (z0B st) (z02 st) .none kV doc pm an cdv ct), osl⟩)
    (c : PySem.W.codeIn K cdv qual = true) (k : PySem.W.keepIn K (.ref f) = true) : Fun K x qual st f (PySem.W.fnOf x qual (z0D st) (z0B st) (z02 st) .none kV doc pm an cdv ct) := ⟨⟨oc, od, kV, doc, pm, an, cdv, ct, osl, rfl, l, c⟩, k⟩
end
theorem z0k {n : Nat} (h : n <= 1000) : n < sizeLine := Nat.lt_of_le_of_lt h (by decide)
section
variable {X : Cx}
theorem pv (i : Nat) {x : Str} {pos : Pos} (hN : X.N[i]? = some x := by rfl) (hv : Vis X.env.scope x := by first | exact Or.inl rfl | exact Or.inr (Or.inl rfl) | exact Or.inr (Or.inr rfl)) (hd : (x == ("__debug__" : Str)) = false := by decide)
    (hcd : (x == ("__classdict__" : Str)) = false := by decide) : PE X (.Name x pos) (z8I i) := z7Y hN hv hd hcd
end
theorem z6O {A B : Prop} (h : B) : if false = true then A else B := by
  rw [if_neg Bool.false_ne_true]
  exact h
theorem z6j {A B : Prop} (h : A) : if true = true then A else B := by
  rw [if_pos rfl]
  exact h
def Same (H H' : Hp) : Prop := ∀ b o, H b = some o -> H' b = some o
theorem Same.refl (H : Hp) : Same H H := fun _ _ h => h
theorem Same.trans {H H1 H2 : Hp} (a : Same H H1) (b : Same H1 H2) : Same H H2 := fun c o h => b c o (a c o h)
theorem Same.free {H H' : Hp} (e : Same H H') {l : Addr} (h : H' l = Option.none) : H l = Option.none := by
  cases q : H l with
  | none => rfl
  | some o =>
    rw [e l o q] at h
    cases h
theorem Same.seq {K : PySem.W.Frag} {H H' : Hp} {a : Addr} {xs : List V} (e : Same H H') (h : SqL K H a xs) : SqL K H' a xs := by
  rcases h with (h | ⟨o, h⟩) | h
  . exact .inl (.inl (e _ _ h))
  . exact .inl (.inr ⟨o, e _ _ h⟩)
  . exact .inr h
section
variable {κ : Type} [DecidableEq κ]
end
end L2
set_option maxHeartbeats 4000000
namespace L2
open PySem PySem.Spec PyProof.Rows
structure Df (K : PySem.W.Frag) (mg : Str -> Option Value) (x : Str) (st : Stmt) (ps : List Str) (f : Addr) (fd : FuncData) : Prop where
  F : Fun K x x st f fd
  b : Binds K fd ps []
  m : mg x = some (.ref f)
def z5p (K : PySem.W.Frag) : Sp := fun vs H Q _ => ∃ (a : Addr) (ns : List Int), vs = [.ref a] /\ SqL K H a (ns.map V.int) /\ ns.length <= 63 /\ ∀ H', Q (.bl true) H'
theorem Same.new {H : Hp} {l : Addr} {o : HO} (h : H l = none) : Same H (upd H l o) := fun b u e => by
  rw [z0A (z0J e h)]
  exact e
theorem Same.tup {K : PySem.W.Frag} {H H' : Hp} {a : Addr} {xs : List V} (e : Same H H') (h : SqT K H a xs) : SqT K H' a xs := by
  rcases h with (h | ⟨o, h⟩) | h
  . exact .inl (.inl (e _ _ h))
  . exact .inl (.inr ⟨o, e _ _ h⟩)
  . exact .inr h
theorem z1b {ns : List Int} {x : V} (h : x ∈ ns.map V.int) : ∃ z, x = .int z := by
  obtain ⟨z, _, e⟩ := List.mem_map.mp h
  exact ⟨z, e.symm⟩
theorem z6k {b : Bool} {A B : Prop} (hb : b = false) (h : B) : if b = true then A else B := by
  subst hb
  exact z6O h
theorem z8s {b : Bool} {A B : Prop} (hb : b = true) (h : A) : if b = true then A else B := by
  subst hb
  exact z6j h
section
variable {X : Cx}
def zBI : R2 := fun x y H Q => ∃ b c, x = V.bl b /\ y = V.bl c /\ Q (.bl (b == c)) H
def z8t : R2 := fun x y H Q => ∃ b c, x = V.bl b /\ y = V.bl c /\ Q (.bl (b != c)) H
def tyS (H : Hp) : V -> Option String
  | .non => some "NoneType"
  | .bl _ => some "bool"
  | .int _ => some "int"
  | .str _ => some "str"
  | .ref a => match H a with
    | some (.lst _) => some "list"
    | some (.frz _ (.lst _)) => some "list"
    | some (.tup _) => some "tuple"
    | some (.dK _) => some "dict"
    | some (.dT _) => some "dict"
    | _ => none
  | _ => none
theorem z7q {K : PySem.W.Frag} {H : Hp} {x : V} {T : String} (h : tyS H x = some T) : TyOf K H x (.type T) := by
  cases x with
  | non => cases h; exact .non
  | bl b => cases h; exact .bl b
  | int i => cases h; exact .int i
  | str z => cases h; exact .str z
  | byt b => cases h
  | flt b => cases h
  | ty n => cases h
  | ref a =>
    simp only [tyS] at h
    split at h
    . rename_i e; cases h; exact .lst e
    . rename_i e; cases h; exact .frz e
    . rename_i e; cases h; exact .tup e
    . rename_i e; cases h; exact .dK e
    . rename_i e; cases h; exact .dT e
    . cases h
def z6l (T c : String) : Bool := T == c || (T == "bool" && c == "int")
def z6m : List String := ["NoneType", "bool", "int", "str", "list", "tuple", "dict"]
theorem z4h : ∀ T ∈ z6m, ∀ c ∈ z6m, (if (Value.type T == Value.type c) = true then some true else if PySem.W.kitMeta c = true then (PySem.fastBuiltinMro T).map (·.contains (.type c)) else none) = some (z6l T c) := by decide +kernel
theorem z6n {K : PySem.W.Frag} {T c : String} (hT : T ∈ z6m) (hc : c ∈ z6m) : PySem.W.kitOne K (.type T) (.type c) = some (z6l T c) := z4h T hT c hc
theorem z4i {H : Hp} {x : V} {T : String} (h : tyS H x = some T) : T ∈ z6m := by
  cases x with
  | non => cases h; decide
  | bl b => cases h; decide
  | int i => cases h; decide
  | str z => cases h; decide
  | byt b => cases h
  | flt b => cases h
  | ty n => cases h
  | ref a =>
    simp only [tyS] at h
    split at h <;> first | (cases h; decide) | cases h
theorem z2H : CallR X (.builtin "isinstance") (fun xs H Q => ∃ x c T, xs = [x, .ty c] /\ c ∈ z6m /\ tyS H x = some T /\ Q (.bl (z6l T c)) H) := by
  intro pins s σ H xs us Q I r h
  obtain ⟨x, c, T, rfl, hc, ht, q⟩ := h
  obtain ⟨v, w', rfl, rx, ry⟩ := vals2 r
  cases (show w' = Value.type c from ry)
  exact z4Z I rx (z7q ht) (z6n (z4i ht) hc) fun tk => ⟨.bl (z6l T c), H, I.tok tk, rfl, q⟩
end
theorem z1j {cells : List (Str × Addr)} {f : Str × NameKind -> List (Str × Addr) -> Sem (ForInStep (List (Str × Addr)))}
    (hf : ∀ n k r c, k = NameKind.free -> cells.lookup n = some c -> f (n, k) r = pure (.yield ((n, c) :: r))) (hg : ∀ n k r, k ≠ NameKind.free -> f (n, k) r = pure (.yield r)) :
    ∀ (names : List (Str × NameKind)) (acc : List (Str × Addr)), (∀ y ∈ names, y.2 = .free -> ∃ c, cells.lookup y.1 = some c) -> (∀ x c, acc.lookup x = some c -> cells.lookup x = some c) ->
      ∃ cl, forIn names acc f = (pure cl : Sem _) /\ (∀ x c, cl.lookup x = some c -> cells.lookup x = some c) /\ (∀ x c, acc.lookup x = some c -> ∃ d, cl.lookup x = some d) /\ ∀ y ∈ names, y.2 = .free -> ∃ d, cl.lookup y.1 = some d
  | [], acc, _, ha => ⟨acc, by rw [List.forIn_nil], ha, fun x c e => ⟨c, e⟩, fun _ hy => nomatch hy⟩
  | (n, k) :: r, acc, hn, ha => by
    have hr : ∀ y ∈ r, y.2 = .free -> ∃ c, cells.lookup y.1 = some c := fun y hy => hn y (List.mem_cons_of_mem _ hy)
    by_cases hk : k = .free
    . obtain ⟨c, hc⟩ := hn (n, k) List.mem_cons_self hk
      have ha' : ∀ x d, ((n, c) :: acc).lookup x = some d -> cells.lookup x = some d := fun x d e => by
        rw [List.lookup_cons] at e
        cases hx : x == n with
        | true =>
          rw [hx] at e
          cases e
          rw [beq_iff_eq.mp hx]
          exact hc
        | false =>
          rw [hx] at e
          exact ha x d e
      obtain ⟨cl, e, h1, h2, h3⟩ := z1j hf hg r ((n, c) :: acc) hr ha'
      have hh : ∀ x d, acc.lookup x = some d -> ∃ d', cl.lookup x = some d' := fun x d q => by
        cases hx : x == n with
        | true => exact h2 x c (by rw [List.lookup_cons, hx])
        | false => exact h2 x d (by rw [List.lookup_cons, hx]; exact q)
      refine ⟨cl, ?_, h1, hh, fun y hy e' => ?_⟩
      . rw [List.forIn_cons, hf n k acc c hk hc, pure_bind]
        exact e
      . rcases List.mem_cons.mp hy with rfl | hy
        . exact h2 n c (by rw [List.lookup_cons, beq_self_eq_true])
        . exact h3 y hy e'
    . obtain ⟨cl, e, h1, h2, h3⟩ := z1j hf hg r acc hr ha
      refine ⟨cl, ?_, h1, h2, fun y hy e' => ?_⟩
      . rw [List.forIn_cons, hg n k acc hk, pure_bind]
        exact e
      . rcases List.mem_cons.mp hy with rfl | hy
        . exact absurd e' hk
        . exact h3 y hy e'
theorem z4j {sc : Scope} {env : Env} (hfree : ∀ y ∈ sc.names, y.2 = .free -> ∃ c, env.cells.lookup y.1 = some c) :
    ∃ cl : List (Str × Addr), closureFor sc env = pure cl /\ (∀ x c, cl.lookup x = some c -> env.cells.lookup x = some c) /\ ∀ y ∈ sc.names, y.2 = .free -> ∃ c, cl.lookup y.1 = some c := by
  obtain ⟨cl, e, h1, _, h3⟩ := z1j (cells := env.cells) (f := fun (y : Str × NameKind) r => if (y.2 == NameKind.free) = true then (do let a <- cellOf env y.1; pure (ForInStep.yield ((y.1, a) :: r))) else pure (ForInStep.yield r))
    (fun n k r c hk hc => by
      subst hk
      show (if (NameKind.free == NameKind.free) = true then (cellOf env n >>= fun a => pure (ForInStep.yield ((n, a) :: r))) else pure (ForInStep.yield r)) = _
      rw [if_pos (show (NameKind.free == NameKind.free) = true by decide)]
      have e : cellOf env n = pure c := by unfold cellOf; rw [hc]
      rw [e, pure_bind])
    (fun n k r hk => by
      show (if (k == NameKind.free) = true then (cellOf env n >>= fun a => pure (ForInStep.yield ((n, a) :: r))) else pure (ForInStep.yield r)) = _
      rw [if_neg (by simpa using hk)])
    sc.names [] hfree (fun x c q => nomatch q)
  refine ⟨cl, ?_, h1, h3⟩
  unfold closureFor
  first
    | (rw [e]; rfl)
    | (refine Eq.trans (congrArg (fun t => t >>= fun cs => pure cs) e) ?_; rw [pure_bind])
    | (simp only [bind_pure]; exact e)
theorem z0s {env : Env} : ∀ {names : List (Str × NameKind)} {x : Str}, names.lookup x = some .free ->
    ((names.map fun (n, k) => if (k == NameKind.free && env.scope.kind == .function && env.kindOf n == some .cell) then (n, NameKind.cell) else (n, k)).lookup x = some .cell) \/
    ((names.map fun (n, k) => if (k == NameKind.free && env.scope.kind == .function && env.kindOf n == some .cell) then (n, NameKind.cell) else (n, k)).lookup x = some .free)
  | [], _, h => by cases h
  | (n, k) :: r, x, h => by
    have ih := @z0s env r x
    rw [List.map_cons]
    cases hx : x == n with
    | true =>
      rw [List.lookup_cons, hx] at h
      cases h
      by_cases hc : (NameKind.free == NameKind.free && env.scope.kind == .function && env.kindOf n == some .cell) = true
      . left
        show List.lookup x ((if (NameKind.free == NameKind.free && env.scope.kind == .function && env.kindOf n == some .cell) = true then (n, NameKind.cell) else (n, NameKind.free)) :: _) = _
        rw [if_pos hc, List.lookup_cons, hx]
      . right
        show List.lookup x ((if (NameKind.free == NameKind.free && env.scope.kind == .function && env.kindOf n == some .cell) = true then (n, NameKind.cell) else (n, NameKind.free)) :: _) = _
        rw [if_neg hc, List.lookup_cons, hx]
    | false =>
      rw [List.lookup_cons, hx] at h
      have z : ∀ (y : Str × NameKind) (t : List (Str × NameKind)), y.1 = n -> List.lookup x (y :: t) = List.lookup x t := fun y t e => by
        obtain ⟨y1, y2⟩ := y
        cases (show y1 = n from e)
        rw [List.lookup_cons, hx]
      rw [z _ _ (by
        show (if (k == NameKind.free && env.scope.kind == .function && env.kindOf n == some .cell) = true then (n, NameKind.cell) else (n, k)).1 = n
        split <;> rfl)]
      exact ih h
theorem z1A {env : Env} : ∀ {names : List (Str × NameKind)} {x : Str}, (∀ y ∈ names, y.2 ≠ .cell) ->
    (((names.map fun (n, k) => if (k == NameKind.free && env.scope.kind == .function && env.kindOf n == some .cell) then (n, NameKind.cell) else (n, k)).lookup x = some .cell) \/
    ((names.map fun (n, k) => if (k == NameKind.free && env.scope.kind == .function && env.kindOf n == some .cell) then (n, NameKind.cell) else (n, k)).lookup x = some .free)) -> ∃ y ∈ names, y.1 = x /\ y.2 = .free
  | [], _, _, h => by rcases h with h | h <;> cases h
  | (n, k) :: r, x, hc, h => by
    have ih := @z1A env r x fun y hy => hc y (List.mem_cons_of_mem _ hy)
    rw [List.map_cons] at h
    cases hx : x == n with
    | true =>
      have e : x = n := beq_iff_eq.mp hx
      by_cases hk : k = .free
      . exact ⟨(n, k), List.mem_cons_self, e.symm, hk⟩
      . exfalso
        have q : (if (k == NameKind.free && env.scope.kind == .function && env.kindOf n == some .cell) = true then (n, NameKind.cell) else (n, k)) = (n, k) := by
          rw [if_neg]
          intro z
          rw [Bool.and_eq_true, Bool.and_eq_true] at z
          exact hk (by simpa using z.1.1)
        have h' : List.lookup x ((n, k) :: (r.map fun (n, k) => if (k == NameKind.free && env.scope.kind == .function && env.kindOf n == some .cell) then (n, NameKind.cell) else (n, k))) = some .cell \/
            List.lookup x ((n, k) :: (r.map fun (n, k) => if (k == NameKind.free && env.scope.kind == .function && env.kindOf n == some .cell) then (n, NameKind.cell) else (n, k))) = some .free := by
          rw [<- q]
          exact h
        rw [List.lookup_cons, hx] at h'
        rcases h' with z | z
        . exact hc (n, k) List.mem_cons_self (Option.some.inj z)
        . exact hk (Option.some.inj z)
    | false =>
      have z : ∀ (y : Str × NameKind) (t : List (Str × NameKind)), y.1 = n -> List.lookup x (y :: t) = List.lookup x t := fun y t e => by
        obtain ⟨y1, y2⟩ := y
        cases (show y1 = n from e)
        rw [List.lookup_cons, hx]
      rw [z _ _ (by
        show (if (k == NameKind.free && env.scope.kind == .function && env.kindOf n == some .cell) = true then (n, NameKind.cell) else (n, k)).1 = n
        split <;> rfl)] at h
      obtain ⟨y, hy, e⟩ := ih h
      exact ⟨y, List.mem_cons_of_mem _ hy, e⟩
def z1s (X : Cx) (locs : List Str) (ix : List Nat) : List Str := locs ++ ix.map fun i => X.N.getD i Str.empty
def z6P (k : Nat) (ix : List Nat) (σ : St) : St := List.replicate k none ++ ix.map fun i => (σ[i]?).join
abbrev cxC (X : Cx) (sc : Scope) (cl : List (Str × Addr)) (C : Addr) (N : List Str) (fp : List Addr) (s2 : Shared) (H2 : Hp) (pn : List (Addr × Obj)) : Cx :=
  { X with N := N, s₀ := s2, H₀ := H2, env := compEnvC sc cl C X.env, outer := X.stack, ex := fp, fn := fun _ => false, pn := pn, xe := fun _ _ => False }
structure BlkSc (X : Cx) (sc : Scope) (locs : List Str) (ix : List Nat) : Prop where
  kind : sc.kind = .function
  cell : ∀ y ∈ sc.names, y.2 ≠ .cell
  free : ∀ y ∈ sc.names, y.2 = .free -> X.env.kindOf y.1 = some .cell \/ X.env.kindOf y.1 = some .free
  names : ∀ y ∈ sc.names, y.2 = .local -> sc.names.lookup y.1 = some .local
  fr : ∀ i ∈ ix, ∃ x, X.N[i]? = some x /\ sc.names.lookup x = some .free
section
variable {X : Cx} {pins : List (Addr × Obj)} {σ : St} {H2 : Hp} {s2 : Shared} {sc : Scope} {cl : List (Str × Addr)} {locs : List Str} {ix : List Nat} {fp : List Addr}
theorem z1I {names : List (Str × NameKind)} {x : Str} {k : NameKind} : names.lookup x = some k -> (x, k) ∈ names := by
  induction names with
  | nil => intro h; cases h
  | cons y r ih =>
    obtain ⟨n, j⟩ := y
    intro h
    rw [List.lookup_cons] at h
    cases hx : x == n with
    | true =>
      rw [hx] at h
      cases h
      rw [beq_iff_eq.mp hx]
      exact List.mem_cons_self
    | false =>
      rw [hx] at h
      exact List.mem_cons_of_mem _ (ih h)
theorem z7r (I : Inv X pins σ H2 s2) (B : BlkSc X sc locs ix) (hcl : ∀ x c, cl.lookup x = some c -> X.env.cells.lookup x = some c) (hcl' : ∀ y ∈ sc.names, y.2 = .free -> ∃ c, cl.lookup y.1 = some c)
    (hf : ∀ b ∈ fp, z4F X pins H2 b) {C : Addr} (hC : s2.heap.objs.size <= C) (hfC : ∀ b ∈ fp, b ≠ C) {N : List Str} {pn : List (Addr × Obj)} : (cxC X sc cl C N fp s2 H2 pn).Ok where
  mod := I.ok.mod
  kind := B.kind
  glob := I.ok.glob
  blt := I.ok.blt
  above := hC
  inj := fun x y c h1 h2 => I.ok.inj x y c (hcl x c h1) (hcl y c h2)
  has := fun x h => by
    obtain ⟨y, hy, e, hk⟩ := z1A (env := X.env) B.cell h
    subst e
    exact hcl' y hy hk
  cab := fun x c h _ => nomatch h
  hd := I.ok.hd
  frames := I.ok.frames
  stk := .inl rfl
  exf := fun b hb => ⟨hfC b hb, fun x c e => (hf b hb).2.2.2.2.1 x c (hcl x c e)⟩
  bs := fun b o e => I.bs b o e
  bsz := Nat.le_trans I.ok.bsz I.sz
  noex := fun b o e hb => by
    obtain ⟨_, _, _, h4, _⟩ := hf b hb
    rcases h4 with h | h
    . exact I.ok.noex b o e h
    . exact absurd (Nat.lt_of_lt_of_le (Nat.lt_of_lt_of_le (Heap.lt_size e) I.ok.bsz) h) (Nat.lt_irrefl _)
  exfs := fun b hb z => by
    obtain ⟨_, h2, h3, _⟩ := hf b hb
    rcases List.mem_cons.mp (I.stkSub b z) with e | e
    . exact h2 e
    . exact h3 e
  funs := I.stack
  frf := I.stkFree
theorem z4k (I : Inv X pins σ H2 s2) (B : BlkSc X sc locs ix) (hcl : ∀ x c, cl.lookup x = some c -> X.env.cells.lookup x = some c) (hcl' : ∀ y ∈ sc.names, y.2 = .free -> ∃ c, cl.lookup y.1 = some c)
    (hf : ∀ b ∈ fp, z4F X pins H2 b) (hfl : ∀ b ∈ fp, b < s2.heap.objs.size) {h1 : Heap} {tk : Nat} {m0 : Str -> Option Value} {D C : Addr} {oD : Obj} (hD : s2.heap.objs.size <= D) (hC : s2.heap.objs.size <= C) (hDC : D ≠ C)
    (old : ∀ b o, s2.heap.get? b = some o -> h1.get? b = some o) (ns : h1.Ns C m0) (gD : h1.get? D = some oD) (dD : ∀ v, oD.data ≠ .cell v) :
    Inv (cxC X sc cl C (z1s X locs ix) fp s2 H2 (X.pn ++ pins)) [(D, oD)] (z6P locs.length ix σ) H2 { s2 with heap := h1, toks := tk } := by
  have low : ∀ b o, s2.heap.get? b = some o -> b < s2.heap.objs.size := fun b o e => Heap.lt_size e
  have nst : ∀ b, s2.heap.objs.size <= b -> b ∉ frs X.stack := fun b hb z => by
    obtain ⟨_, o, ho, _⟩ := I.stack.mem z
    exact absurd (Nat.lt_of_lt_of_le (low b o ho) hb) (Nat.lt_irrefl _)
  refine ⟨z7r I B hcl hcl' hf hC fun b hb => Nat.ne_of_lt (Nat.lt_of_lt_of_le (hfl b hb) hC), rfl, I.bare, Un.kept old, ⟨m0, ns, fun i x v e1 e2 e3 => ?_⟩, fun x c e => ?_, I.hok.fresh hC, fun x c e => I.freeC x c (hcl x c e), fun p hp => ?_, I.hok.kept old, ?_⟩
  . have e2' : (z6P locs.length ix σ)[i]? = some (some v) := e2
    have e1' : (z1s X locs ix)[i]? = some x := e1
    unfold z6P at e2'
    unfold z1s at e1'
    by_cases hi : i < locs.length
    . rw [List.getElem?_append_left (by rw [List.length_replicate]; exact hi), List.getElem?_replicate, if_pos hi] at e2'
      cases e2'
    . rw [List.getElem?_append_right (by rw [List.length_replicate]; omega), List.length_replicate, List.getElem?_map] at e2'
      rw [List.getElem?_append_right (by omega), List.getElem?_map] at e1'
      cases hj : ix[i - locs.length]? with
      | none =>
        rw [hj] at e2'
        cases e2'
      | some j =>
        rw [hj] at e2' e1'
        have e4 : (σ[j]?).join = some v := Option.some.inj e2'
        have e5 : X.N.getD j Str.empty = x := Option.some.inj e1'
        obtain ⟨x', hx', hfree⟩ := B.fr j (List.mem_of_getElem? hj)
        have e6 : x' = x := by
          rw [<- e5, List.getD_eq_getElem?_getD, hx']
          rfl
        subst e6
        have e7 : σ[j]? = some (some v) := by
          cases hs : σ[j]? with
          | none => rw [hs] at e4; cases e4
          | some o =>
            rw [hs] at e4
            cases o with
            | none => cases e4
            | some w => cases e4; rfl
        have hk := B.free (x', .free) (z1I hfree) rfl
        obtain ⟨m, _, hl⟩ := I.loc
        obtain ⟨u, r, l⟩ := hl j x' v hx' e7 (hk.elim (fun z => .inr (.inl z)) fun z => .inr (.inr z))
        refine ⟨u, r, .inr ⟨z0s (env := X.env) hfree, ?_⟩⟩
        obtain ⟨c, hc⟩ := hcl' (x', .free) (z1I hfree) rfl
        rcases l with ⟨k, _⟩ | ⟨_, c', hc', z⟩
        . rcases hk with hk | hk
          . rw [hk] at k; cases k
          . rw [hk] at k; cases k
        . have q := hcl x' c hc
          rw [hc'] at q
          cases q
          obtain ⟨o, ho, hd⟩ := z
          exact ⟨_, hc, o, old _ _ ho, hd⟩
  . obtain ⟨v, o, ho, hd⟩ := I.cell x c (hcl x c e)
    exact ⟨v, o, old _ _ ho, hd⟩
  . rcases List.mem_append.mp hp with hp | hp
    . obtain ⟨e, n, ne, nf, d⟩ := I.pin p hp
      refine ⟨old _ _ e, n, Nat.ne_of_lt (Nat.lt_of_lt_of_le (low _ _ e) hC), fun z => ?_, d⟩
      rcases List.mem_cons.mp (I.stkSub p.1 z) with q | q
      . exact ne q
      . exact nf q
    . have e : p = (D, oD) := by simpa using hp
      subst e
      exact ⟨gD, I.hok.fresh hD, hDC, nst D hD, dD⟩
  . show (z6P locs.length ix σ).length = (z1s X locs ix).length
    unfold z6P z1s
    rw [List.length_append, List.length_append, List.length_replicate, List.length_map, List.length_map]
theorem z5q {N : List Str} {pn : List (Addr × Obj)} {C D : Addr} {s' : Shared} {σ' : St} {H' : Hp} {ys : List V} {its : List Value} {n : Nat} (I : Inv X pins σ H2 s2) (hf : ∀ b ∈ fp, z4F X pins H2 b) (hD : s2.heap.objs.size <= D)
    (I' : Inv (cxC X sc cl C N fp s2 H2 pn) [(D, { cls := .type "list", data := .seq its.toArray n })] σ' H' s') (hv : Vals ys its) (hz : ys.length <= sizeLine) : H' D = none /\ Inv X pins σ (upd H' D (.lst ys)) s' := by
  obtain ⟨gD, nD, _⟩ := I'.pin (D, { cls := .type "list", data := .seq its.toArray n }) (List.mem_append_right _ List.mem_cons_self)
  have low : ∀ b o, s2.heap.get? b = some o -> b ≠ D := fun b o e => Nat.ne_of_lt (Nat.lt_of_lt_of_le (Heap.lt_size e) hD)
  have lowH : ∀ b o, H2 b = some o -> b ≠ D := fun b o e => Nat.ne_of_lt (Nat.lt_of_lt_of_le (I.hok.lt e) hD)
  have U : Un (frs X.stack) fp H2 H' s2.heap s'.heap := I'.base
  refine ⟨nD, I.call' (ch := fp) I'.os ⟨U.keep, U.slot, fun b o e hn hx => ?_, U.there, fun b xs e => ?_, fun b o u e => ?_, fun b ps e => ?_⟩ (fun b u e => ?_) I'.bare fun b hb => ?_⟩
  . rw [z0A (low b o e)]
    exact U.free b o e hn hx
  . rw [z0A (lowH b _ e)]
    exact U.tups b xs e
  . rw [z0A (lowH b _ e)]
    exact U.frzs b o u e
  . rw [z0A (lowH b _ e)]
    exact U.tbls b ps e
  . by_cases hb : b = D
    . subst hb
      rw [upd_same] at e
      cases e
      exact ⟨hz, its, n, hv, gD⟩
    . rw [z0A hb] at e
      exact (I'.hok b u e).stay (fun _ _ _ q => q) (fun c q => by rw [z0A (z0J q nD)]; exact q) fun c xs q => by rw [z0A (z0J q nD)]; exact q
  . obtain ⟨_, f1, _, f3, f4, f5⟩ := hf b hb
    exact ⟨f3, f1, f4, f5⟩
end
section
variable {prog : Program} {w : World} {A : Around} {R : Result -> Shared -> Prop} {s : Shared}
theorem z4l {elt tgt src : Expr} {tests : List Expr} {sc : Scope} {p : Pos} {itv acc : Value} {ev : Env} (J : Nat -> Shared -> Prop)
    (turn : ∀ n s, J n s -> wpAny (model prog w) A (pyNext itv) (fun r s1 => match r with
      | none => R (.ok .next) s1
      | some v => wpAny (model prog w) A (letOwnedTupleGo tgt itv v) (fun _ s2 => wpAny (model prog w) A (assign tgt ev v) (fun _ s3 =>
          wpAny (model prog w) A (forIn tests true fun c r => if r = true then do let ok <- isTrue c ev (eval c ev); pure (ForInStep.yield ok) else pure (ForInStep.yield r)) (fun ok s4 =>
            if ok = true then wpAny (model prog w) A (eval elt ev) (fun x s5 => wpAny (model prog w) A (call (.builtin "list.append") [acc, x]) (fun _ s6 => ∃ m, m < n /\ J m s6) (fun _ _ => False) s5) (fun _ _ => False) s4
            else ∃ m, m < n /\ J m s4) (fun _ _ => False) s3) (fun _ _ => False) s2) (fun _ _ => False) s1) (fun _ _ => False) s)
    (n : Nat) (h : J n s) : codeAny (model prog w) A (.compLoop (.ListComp elt [⟨tgt, src, tests, 0⟩] sc p) 0 itv acc ev) R s := by
  refine codeAny_loop rfl J (fun n s hJ => ?_) n h
  show wpAny _ A ((compTurn (.ListComp elt [⟨tgt, src, tests, 0⟩] sc p) 0 itv acc ev).onRaise (fun x => do noteFrame x ev; theTreesLotGoes x)) _ _ s
  refine wpAny_noted (wpAny_noRaise ?_)
  rw [compTurn_list]
  refine wpAny_bind (wpAny_standAt (wpAny_bind (thn (turn n s hJ) fun r s1 h1 => ?_)))
  cases r with
  | none => exact wpAny_pure h1
  | some v =>
    refine wpAny_bind (thn h1 fun _ s2 h2 => wpAny_bind (thn h2 fun _ s3 h3 => wpAny_bind (thn h3 fun ok s4 h4 => ?_)))
    cases ok with
    | false => exact wpAny_pure ⟨rfl, h4⟩
    | true => exact wpAny_bind (wpAny_bind (thn h4 fun x s5 h5 => wpAny_bind (thn h5 fun _ s6 h6 => wpAny_pure (wpAny_pure ⟨rfl, h6⟩))))
end
def PTs (X : Cx) (tests : List Expr) (t : TT) : Prop :=
  ∀ (pins : List (Addr × Obj)) (s : Shared) (σ : St) (H : Hp) (Q : Bool -> Hp -> Prop), Inv X pins σ H s -> t σ H Q ->
    wpAny (model X.prog X.w) X.A (forIn tests true fun c r => if r = true then do let ok <- isTrue c X.env (eval c X.env); pure (ForInStep.yield ok) else pure (ForInStep.yield r)) (TP X pins σ Q) X.xe s
def z9f : TT := fun _ H Q => Q true H
theorem z2I {X : Cx} : PTs X [] z9f := fun _ _ _ H _ I h => wpAny_tests_nil ⟨H, I, h⟩
def z5r (J : It) (g : TG) (tt : TT) (te : TE) (Fin : List V -> Hp -> Prop) (W : Nat -> Nat -> St -> List V -> Hp -> Prop) : Prop :=
  ∀ i m σ ys H, W i m σ ys H -> (J.stop i H /\ ys.length <= sizeLine /\ Fin ys H) \/
    (J.go i H /\ ys.length < sizeLine /\ ∀ x H', J.yld i H x H' -> g x σ H' fun σ2 H2 => tt σ2 H2 fun b H3 => if b = true then te σ2 H3 fun y H4 => ∃ m', m' < m /\ W (i + 1) m' σ2 (ys ++ [y]) H4 else ∃ m', m' < m /\ W (i + 1) m' σ2 ys H3)
def z8u (wi : TI) (k : Nat) (ix : List Nat) (g : TG) (tt : TT) (te : TE) : TE := fun σ H Q => wi σ H fun J H1 =>
  ∃ W : Nat -> Nat -> St -> List V -> Hp -> Prop, (∃ m, W 0 m (z6P k ix σ) [] H1) /\ z5r J g tt te (fun ys H => ∀ l, H l = none -> Q (.ref l) (upd H l (.lst ys))) W
section
variable {X : Cx} {elt tgt iter : Expr} {tests : List Expr} {sc : Scope} {pos : Pos} {locs : List Str} {ix : List Nat} {wi : TI} {g : TG} {tt : TT} {te : TE}
theorem z22 {pins : List (Addr × Obj)} {σ : St} {H2 : Hp} {s2 : Shared} {cl : List (Str × Addr)} {fp : List Addr} {it : Addr} {tn : Nat -> Heap -> Prop} {J : It} {W : Nat -> Nat -> St -> List V -> Hp -> Prop} {Fin : List V -> Hp -> Prop} {RR : Value -> Addr -> Result -> Shared -> Prop} {m0 : Nat} {E : Value -> Shared -> Prop}
    (hc : X.calm = true) (B : BlkSc X sc locs ix)
    (hg : ∀ cl C fp s2 H2 pn, PG (cxC X sc cl C (z1s X locs ix) fp s2 H2 pn) tgt g) (ht : ∀ cl C fp s2 H2 pn, PTs (cxC X sc cl C (z1s X locs ix) fp s2 H2 pn) tests tt) (he : ∀ cl C fp s2 H2 pn, PE (cxC X sc cl C (z1s X locs ix) fp s2 H2 pn) elt te)
    (I : Inv X pins σ H2 s2) (T : Turn X.prog X.w X.K tgt J fp it tn) (st2 : tn 0 s2.heap) (hf : ∀ b ∈ fp, z4F X pins H2 b)
    (hcl : ∀ x c, cl.lookup x = some c -> X.env.cells.lookup x = some c) (hcl' : ∀ y ∈ sc.names, y.2 = .free -> ∃ c, cl.lookup y.1 = some c)
    (w0 : W 0 m0 (z6P locs.length ix σ) [] H2) (turn : z5r J g tt te Fin W)
    (hR : ∀ D C s' H' ys m, H' D = none -> s2.heap.objs.size <= C -> H' C = none -> C ≠ D -> Inv X pins σ (upd H' D (.lst ys)) s' -> Fin ys H' -> s'.heap.Ns C m -> RR (.ref D) C (.ok .next) s') :
    wpAny (model X.prog X.w) X.A (newList []) (fun acc s₃ => wpAny (model X.prog X.w) X.A (newFunctionEnv sc X.env.globals cl [] X.env.qual none .none (some X.env)) (fun cenv s₄ =>
      codeAny (model X.prog X.w) X.A (.compStart (.ListComp elt [⟨tgt, iter, tests, 0⟩] sc pos) 0 (.ref it) acc { cenv with scope := relabel sc X.env }) (RR acc cenv.locals) s₄) E s₃) E s2 := by
  refine wpAny_newObj_type (wpAny_newFunctionEnv B.cell (by intro y hy; cases hy) (fun h1 ns1 sb1 => ?_) B.kind)
  dsimp only at ns1 sb1 ⊢
  generalize eH : s2.heap.push { cls := .type "list", dict := none, data := .seq ([] : List Value).toArray } = G at ns1 sb1 ⊢
  have zG : G.objs.size = s2.heap.objs.size + 1 := by rw [<- eH, Heap.size_push]
  have hDC : s2.heap.objs.size ≠ G.objs.size := by omega
  have old : ∀ b o, s2.heap.get? b = some o -> h1.get? b = some o := fun b o e => sb1.extBut b o (Nat.ne_of_lt (Nat.lt_of_lt_of_le (Heap.lt_size e) (by omega))) (Heap.get?_push_of_some _ (eH ▸ Heap.get?_push_of_some _ e))
  have gD : h1.get? s2.heap.objs.size = some { cls := .type "list", data := .seq ([] : List Value).toArray 0 } := sb1.extBut _ _ hDC (Heap.get?_push_of_some _ (eH ▸ Heap.get?_push_size _ rfl))
  have hfl : ∀ b ∈ fp, b < s2.heap.objs.size := fun b hb => by
    obtain ⟨o, e, _⟩ := T.obj 0 s2.heap st2 b hb
    exact Heap.lt_size e
  have Y := fun tk => z4k (tk := tk) (locs := locs) I B hcl hcl' hf hfl (Nat.le_refl _) (by omega : s2.heap.objs.size <= G.objs.size) hDC old ns1 gD (fun v z => by cases z)
  have st1 : tn 0 h1 := T.keep 0 _ _ st2 fun b _ o e => old b o e
  have stat : ∀ {oD : Obj} {H' : Hp}, (∀ b ∈ fp, H' b = none) -> ∀ b ∈ fp, z4F (cxC X sc cl G.objs.size (z1s X locs ix) fp s2 H2 (X.pn ++ pins)) [(s2.heap.objs.size, oD)] H' b := fun {oD H'} hn b hb => by
    obtain ⟨_, f1, f2, _, f4, f5⟩ := hf b hb
    refine ⟨hn b hb, Nat.ne_of_lt (Nat.lt_of_lt_of_le (hfl b hb) (by show s2.heap.objs.size <= G.objs.size; omega)), fun z => ?_, .inl hb, fun x c e => f4 x c (hcl x c e), fun p hp => ?_⟩
    . rcases List.mem_cons.mp (I.stkSub b z) with q | q
      . exact f1 q
      . exact f2 q
    . rcases List.mem_append.mp hp with hp | hp
      . exact f5 p hp
      . have e : p = (s2.heap.objs.size, oD) := by simpa using hp
        rw [e]
        exact Nat.ne_of_gt (hfl b hb)
  have loop : ∀ tk, codeAny (model X.prog X.w) X.A (.compLoop (.ListComp elt [⟨tgt, iter, tests, 0⟩] sc pos) 0 (.ref it) (.ref s2.heap.objs.size) (compEnvC sc cl G.objs.size X.env)) (RR (.ref s2.heap.objs.size) G.objs.size) { s2 with heap := h1, toks := tk } := by
    intro tk
    refine z4l (fun n s => ∃ i σ' ys its nn H', Inv (cxC X sc cl G.objs.size (z1s X locs ix) fp s2 H2 (X.pn ++ pins)) [(s2.heap.objs.size, { cls := .type "list", data := .seq (List.toArray its) nn })] σ' H' s /\ tn i s.heap /\ (∀ b ∈ fp, H' b = none) /\ Vals ys its /\ W i n σ' ys H') ?_ m0
      ⟨0, _, [], [], 0, H2, Y tk, st1, fun b hb => (hf b hb).1, .nil, w0⟩
    rintro n s ⟨i, σ', ys, its, nn, H', I1, st, fr, hv, hw⟩
    rcases turn i n σ' ys H' hw with ⟨stop, hz, fin⟩ | ⟨go, hz, step⟩
    . refine thn (T.done (cxC X sc cl G.objs.size (z1s X locs ix) fp s2 H2 (X.pn ++ pins)) rfl rfl rfl hc i _ s σ' H' (fun _ _ => False) I1 (stat fr) st stop) fun r s1 ⟨er, I2⟩ => ?_
      subst er
      obtain ⟨nD, I3⟩ := z5q I hf (Nat.le_refl _) I2 hv hz
      obtain ⟨m, ns, _⟩ := I2.loc
      exact hR _ _ s1 H' ys m nD (by omega) I2.free (Ne.symm hDC) I3 fin ns
    . refine thn (T.item (cxC X sc cl G.objs.size (z1s X locs ix) fp s2 H2 (X.pn ++ pins)) rfl rfl rfl hc i _ s σ' H' (fun _ _ => False) I1 (stat fr) st go) fun r s3 ⟨u, er, h3⟩ => ?_
      subst er
      refine thn h3 fun _ s5 ⟨x, H5, I5, r5, y5, st5, fr5⟩ => ?_
      have I5' := I5.pinned (stat fr5) (T.obj _ _ st5)
      refine thn (hg cl G.objs.size fp s2 H2 (X.pn ++ pins) _ s5 σ' H5 x u _ I5' r5 (step x H5 y5)) fun _ s6 ⟨σ6, H6, I6, q6⟩ => ?_
      refine thn (ht cl G.objs.size fp s2 H2 (X.pn ++ pins) _ s6 σ6 H6 _ I6 q6) fun b s7 ⟨H7, I7, q7⟩ => ?_
      have tn7 : ∀ {s' : Shared} {σ'' : St} {H'' : Hp}, Inv (cxC X sc cl G.objs.size (z1s X locs ix) fp s2 H2 (X.pn ++ pins)) ([(s2.heap.objs.size, { cls := .type "list", data := .seq (List.toArray its) nn })] ++ z2Y fp s5.heap) σ'' H'' s' -> tn (i + 1) s'.heap /\ ∀ b ∈ fp, H'' b = none := fun J => by
        refine ⟨T.keep _ _ _ st5 fun b hb o e => (J.pin (b, o) (List.mem_append_right _ (List.mem_append_right _ (z1D hb e)))).1, fun b hb => ?_⟩
        obtain ⟨o, e, d⟩ := T.obj _ _ st5 b hb
        exact (J.pin (b, o) (List.mem_append_right _ (List.mem_append_right _ (z1D hb e)))).2.1
      cases b with
      | false =>
        obtain ⟨m', hm, w'⟩ := q7
        exact ⟨m', hm, i + 1, σ6, ys, its, nn, H7, I7.unpinned, (tn7 I7).1, (tn7 I7).2, hv, w'⟩
      | true =>
        refine thn (he cl G.objs.size fp s2 H2 (X.pn ++ pins) _ s7 σ6 H7 _ I7 q7) fun y s8 ⟨yv, H8, I8, r8, q8⟩ => ?_
        obtain ⟨m', hm, w'⟩ := q8
        obtain ⟨gD8, nD8, _⟩ := I8.pin (s2.heap.objs.size, { cls := .type "list", data := .seq (List.toArray its) nn }) (List.mem_append_right _ (List.mem_append_left _ List.mem_cons_self))
        have hl := hv.length
        refine append_at (hsz := by rw [List.size_toArray]; omega) gD8 fun h9 sb9 gD9 => ?_
        have Iu : Inv (cxC X sc cl G.objs.size (z1s X locs ix) fp s2 H2 (X.pn ++ pins)) [] σ6 H8 s8 := I8.pins_of fun p hp => nomatch hp
        have It : Inv (cxC X sc cl G.objs.size (z1s X locs ix) fp s2 H2 (X.pn ++ pins)) [] σ6 H8 { s8 with heap := h9, toks := s8.toks } := Iu.turned (fun b o hb e => (sb9.2 b hb).trans e) nD8 hDC (.inr (Nat.le_refl _))
          (fun x c e => by
            obtain ⟨v, o, ho, _⟩ := I.cell x c (hcl x c e)
            exact Nat.ne_of_lt (Heap.lt_size ho))
          (fun p hp => by
            rcases List.mem_append.mp hp with hp | hp
            . exact Nat.ne_of_lt (Heap.lt_size (I.pin p hp).1)
            . cases hp)
        have gD9' : h9.get? s2.heap.objs.size = some { cls := .type "list", data := .seq (its ++ [y]).toArray (nn + 1) } := by
          rw [gD9, List.push_toArray]
        have In : Inv (cxC X sc cl G.objs.size (z1s X locs ix) fp s2 H2 (X.pn ++ pins)) [(s2.heap.objs.size, { cls := .type "list", data := .seq (its ++ [y]).toArray (nn + 1) })] σ6 H8 { s8 with heap := h9, toks := s8.toks } := It.pins_of fun p hp => by
          have e : p = (s2.heap.objs.size, { cls := .type "list", data := .seq (its ++ [y]).toArray (nn + 1) }) := by simpa using hp
          subst e
          refine ⟨gD9', nD8, hDC, fun z => ?_, fun v z => by cases z⟩
          obtain ⟨_, o, ho, _⟩ := I.stack.mem z
          exact absurd (Heap.lt_size ho) (Nat.lt_irrefl _)
        refine ⟨m', hm, i + 1, σ6, ys ++ [yv], its ++ [y], nn + 1, H8, In, ?_, (tn7 I8).2, Vals.append hv (.cons r8 .nil), w'⟩
        exact T.keep _ _ _ (tn7 I8).1 fun b hb o e => (sb9.2 b (Nat.ne_of_lt (hfl b hb))).trans e
  exact codeAny_compStart_list (loop _) (T.self X.A 0 _ _ _ st1 (loop _))
theorem z4m (hc : X.calm = true) (B : BlkSc X sc locs ix) (hi : PI X tgt iter wi)
    (hg : ∀ cl C fp s2 H2 pn, PG (cxC X sc cl C (z1s X locs ix) fp s2 H2 pn) tgt g) (ht : ∀ cl C fp s2 H2 pn, PTs (cxC X sc cl C (z1s X locs ix) fp s2 H2 pn) tests tt) (he : ∀ cl C fp s2 H2 pn, PE (cxC X sc cl C (z1s X locs ix) fp s2 H2 pn) elt te)
    (hs : ∀ x, foldedSetIterable iter X.env x = pure x := by intro _; rfl) : PE X (.ListComp elt [⟨tgt, iter, tests, 0⟩] sc pos) (z8u wi locs.length ix g tt te) := by
  intro pins s σ H Q I h
  obtain ⟨cl, ecl, hcl, hcl'⟩ := z4j (sc := sc) (env := X.env) fun y hy hk => I.ok.has y.1 (B.free y hy hk)
  rw [eval_ListComp]
  refine wpAny_comprehension_free (use := none) rfl hs ecl B.kind B.names ?_
  refine thn (hi pins s σ H _ I h) fun v s1 h1 => thn h1 fun itv s2 h2 => ?_
  obtain ⟨it, fp, tn, J, H2, e, I2, T, st2, f2, W, ⟨m0, w0⟩, turn⟩ := h2
  subst e
  refine z22 (iter := iter) (pos := pos) (RR := fun acc C => compPost (model X.prog X.w) X.A X.xe none (EP X pins σ Q) acc C) hc B hg ht he I2 T st2 f2 hcl hcl' w0 turn ?_
  intro D C s' H' ys m nD hC nC hCD I3 fin ns
  refine ⟨m, ns, fun h' hs' => ⟨.ref D, _, I3.turned (t' := s'.toks) (fun b o hb e => (hs'.2 b hb).trans e) (by rw [z0A hCD]; exact nC) (Nat.ne_of_gt (Nat.lt_of_lt_of_le I2.lt hC)) (.inr (Nat.le_trans I2.sz hC)) (fun x c e => ?_) (fun p hp => Nat.ne_of_lt (Nat.lt_of_lt_of_le (Heap.lt_size (I2.pin p hp).1) hC)), rfl, fin D nD⟩⟩
  obtain ⟨v, o, ho, _⟩ := I2.cell x c e
  exact Nat.ne_of_lt (Nat.lt_of_lt_of_le (Heap.lt_size ho) hC)
def z8v (i : Nat) (wi : TI) (k : Nat) (ix : List Nat) (g : TG) (tt : TT) (te : TE) : TS := fun D σ H => wi σ H fun J H1 =>
  ∃ W : Nat -> Nat -> St -> List V -> Hp -> Prop, (∃ m, W 0 m (z6P k ix σ) [] H1) /\ z5r J g tt te (fun ys H => ∀ l, H l = none -> D.nx (σ.set i (some (.ref l))) (upd H l (.lst ys))) W
theorem z4n {i : Nat} {y : Str} {py spos : Pos} (hc : X.calm = true) (hN : X.N.Nodup) (hiy : X.N[i]? = some y) (hy : X.env.scope.names.lookup y = some .local) (B : BlkSc X sc locs ix) (hi : PI X tgt iter wi)
    (hg : ∀ cl C fp s2 H2 pn, PG (cxC X sc cl C (z1s X locs ix) fp s2 H2 pn) tgt g) (ht : ∀ cl C fp s2 H2 pn, PTs (cxC X sc cl C (z1s X locs ix) fp s2 H2 pn) tests tt) (he : ∀ cl C fp s2 H2 pn, PE (cxC X sc cl C (z1s X locs ix) fp s2 H2 pn) elt te)
    (hsw : swapsWith (.ListComp elt [⟨tgt, iter, tests, 0⟩] sc pos) (some (.Name y py)) spos.line X.env = pure true)
    (hs : ∀ x, foldedSetIterable iter X.env x = pure x := by intro _; rfl) : PS X (.Assign [.Name y py] (.ListComp elt [⟨tgt, iter, tests, 0⟩] sc pos) spos) (z8v i wi locs.length ix g tt te) := by
  intro pins s σ H D I h
  obtain ⟨cl, ecl, hcl, hcl'⟩ := z4j (sc := sc) (env := X.env) fun y hy hk => I.ok.has y.1 (B.free y hy hk)
  rw [exec_Assign_Name_used _ _ _ _ hsw]
  refine wpAny_bind (wpAny_standAt (wpAny_bind ?_))
  show wpAny _ X.A (do let _ <- comprehension (.ListComp elt [⟨tgt, iter, tests, 0⟩] sc pos) sc X.env _ (newList []) false (eval iter X.env) (some (assign (.Name y py) X.env))) _ _ s
  refine wpAny_bind (thn (wpAny_comprehension_free (use := some (assign (.Name y py) X.env)) (Q := fun _ s' => SP X pins D .next s') rfl hs ecl B.kind B.names ?_) fun _ s' hq => wpAny_pure (wpAny_pure hq))
  refine thn (hi pins s σ H _ I h) fun v s1 h1 => thn h1 fun itv s2 h2 => ?_
  obtain ⟨it, fp, tn, J, H2, e, I2, T, st2, f2, W, ⟨m0, w0⟩, turn⟩ := h2
  subst e
  refine z22 (iter := iter) (pos := pos) (RR := fun acc C => compPost (model X.prog X.w) X.A X.xe (some (assign (.Name y py) X.env)) (fun _ s' => SP X pins D .next s') acc C) hc B hg ht he I2 T st2 f2 hcl hcl' w0 turn ?_
  intro L C s' H' ys m nL hC nC hCL I3 fin ns
  have cL : C ≠ X.env.locals := Nat.ne_of_gt (Nat.lt_of_lt_of_le I2.lt hC)
  have cC : ∀ x c, X.env.cells.lookup x = some c -> c ≠ C := fun x c e => by
    obtain ⟨v, o, ho, _⟩ := I2.cell x c e
    exact Nat.ne_of_lt (Nat.lt_of_lt_of_le (Heap.lt_size ho) hC)
  have cP : ∀ p ∈ X.pn ++ pins, p.1 ≠ C := fun p hp => Nat.ne_of_lt (Nat.lt_of_lt_of_le (Heap.lt_size (I2.pin p hp).1) hC)
  show wpAny _ X.A (assign (.Name y py) X.env (.ref L)) _ _ _
  refine wpAny_assign_Name (z2W (v := .ref L) I3 hN hiy (.inl hy) rfl (fun s4 I4 ⟨a, sb, ha⟩ => ?_) (.inr hy))
  have hCa : C ≠ a := by
    rcases ha with z | z
    . rw [z]; exact cL
    . exact (cC y a z).symm
  exact ⟨m, ns.sameBut sb hCa, fun h' hs' => ⟨_, _, I4.turned (t' := s4.toks) (fun b o hb e => (hs'.2 b hb).trans e) (by rw [z0A hCL]; exact nC) cL (.inr (Nat.le_trans I2.sz hC)) cC cP, fin L nL⟩⟩
end
section
variable {X : Cx}
theorem z4o : ∀ {bs : List Bool} {us : List Value}, Vals (bs.map V.bl) us -> us = bs.map Value.bool
  | [], _, .nil => rfl
  | b :: r, _, .cons q t => by
    cases (show _ = Value.bool b from q)
    rw [z4o t]
    rfl
theorem range_all (bs : List Bool) : (List.range bs.length).all (fun i => bs.getD i true) = bs.all id := by
  rw [Bool.eq_iff_iff, List.all_eq_true, List.all_eq_true]
  constructor
  . intro h b hb
    obtain ⟨i, hi, e⟩ := List.mem_iff_getElem.mp hb
    have q := h i (List.mem_range.mpr hi)
    rw [List.getD_eq_getElem?_getD, List.getElem?_eq_getElem hi, e] at q
    exact q
  . intro h i hi
    have hi' := List.mem_range.mp hi
    rw [List.getD_eq_getElem?_getD, List.getElem?_eq_getElem hi']
    exact h _ (List.getElem_mem hi')
theorem z5s (hc : X.calm = true) : CallR X (.builtin "all") (fun xs H Q => ∃ (a : Addr) (bs : List Bool), xs = [.ref a] /\ SqL X.K H a (bs.map V.bl) /\ Q (.bl (bs.all id)) H) := by
  intro pins s σ H xs us Q I r h
  obtain ⟨a, bs, rfl, hq, q⟩ := h
  obtain ⟨u, rfl, ru⟩ := vals1 r
  cases (show u = Value.ref a from ru)
  obtain ⟨its, rv, p, _⟩ := I.list hq
  have e := z4o rv
  subst e
  have hh : X.A.in1.handled = none := I.ok.hd hc
  have hlt : a < s.heap.objs.size := by obtain ⟨_, e, _⟩ := p.isList; exact Heap.lt_size e
  refine call_all_walk (wpAny_pyIter_list p.isList ?_)
  refine ⟨s.heap.objs.size, _, _, _, _, _, fun i => bs.getD i true, rfl, Walks.list hh s.heap.objs.size a (Nat.ne_of_lt hlt) (bs.map Value.bool).toArray, ⟨⟨_, Heap.get?_push_size _ rfl, rfl, rfl⟩, p.isList.push _⟩, ?_, fun h' tk k => ?_⟩
  . intro i v s' Q' E' hv hQ
    have e : v = Value.bool (bs.getD i true) := by
      rw [List.getElem?_toArray, List.getElem?_map] at hv
      cases hb : bs[i]? with
      | none => rw [hb] at hv; cases hv
      | some b =>
        rw [hb] at hv
        rw [List.getD_eq_getElem?_getD, hb]
        exact (Option.some.inj hv).symm
    subst e
    exact wpAny_truthy_bool hQ
  . have I' : Inv X pins σ H { s with heap := h', toks := tk } := I.kept fun b o e => k b o (by
      intro z
      have e' : b = s.heap.objs.size := by simpa using z
      exact absurd e' (Nat.ne_of_lt (Heap.lt_size e))) (Heap.get?_push_of_some _ e)
    refine ⟨.bl _, H, I', rfl, ?_⟩
    have e : ((bs.map Value.bool).toArray).size = bs.length := by rw [List.size_toArray, List.length_map]
    rw [e, range_all]
    exact q
end
def Ite (K : PySem.W.Frag) (a : Addr) : It :=
  ⟨fun i H => ∃ xs x, SqL K H a xs /\ xs[i]? = some x, fun i H x H' => ∃ T v, H T = none /\ x = .ref T /\ H' = upd H T (.tup [.int i, v]) /\ ∀ xs, SqL K H a xs -> xs[i]? = some v, fun i H => ∃ xs, SqL K H a xs /\ xs.length <= i⟩
theorem z4p {P : Program} {w : World} {K : PySem.W.Frag} {es : List Expr} {k : Nat} {pos : Pos} (a e it : Addr) (hei : e ≠ it) :
    Turn P w K (.Tuple es k pos) (Ite K a) [e, it] e (fun i h => (∃ old, IsEnum h e it (i : Nat) old) /\ h.IsListIter it a i) where
  mem := List.mem_cons_self
  obj := fun i h st b hb => by
    obtain ⟨⟨old, he⟩, o, hi, hc, hd⟩ := st
    rcases List.mem_cons.mp hb with rfl | hb
    . exact ⟨_, he, fun v z => by cases z⟩
    . rw [List.mem_singleton.mp hb]
      exact ⟨o, hi, fun v z => by rw [hd] at z; cases z⟩
  keep := fun i h h' st k => ⟨let ⟨old, he⟩ := st.1; ⟨old, k e List.mem_cons_self _ he⟩, st.2.at fun o q => k it (List.mem_cons_of_mem _ List.mem_cons_self) o q⟩
  item := by
    intro X hP hw hK hc i pins s σ H E I hf st hg
    subst hP hw hK
    obtain ⟨xs, x, hq, hx⟩ := hg
    obtain ⟨its, rv, p, hz⟩ := I.list hq
    obtain ⟨u, hu, ru⟩ := rv.get hx
    obtain ⟨⟨old, he⟩, hit⟩ := st
    obtain ⟨f0, f1, f2, f3, f4, f5⟩ := hf e List.mem_cons_self
    obtain ⟨g0, g1, g2, g3, g4, g5⟩ := hf it (List.mem_cons_of_mem _ List.mem_cons_self)
    refine wpAny_pyNext_enum_item he hit p.isList (x := u) (by simpa using hu) hei fun h' ho hit' hT hsz hk => ?_
    refine ⟨.ref s.heap.objs.size, rfl, wpAny_letOwnedTupleGo_enum ho fun h'' he'' sb => ?_⟩
    have nT : H s.heap.objs.size = none := I.hok.fresh (Nat.le_refl _)
    have kk : ∀ b o, b ≠ e -> b ≠ it -> s.heap.get? b = some o -> h''.get? b = some o := fun b o b1 b2 q => (sb.2 b b1).trans (hk b o b1 b2 q)
    have hTe : s.heap.objs.size ≠ e := Nat.ne_of_gt (Heap.lt_size he)
    have nb : ∀ b u, H b = some u -> b ≠ e /\ b ≠ it := fun b u q => ⟨fun z => (by rw [z, f0] at q; cases q), fun z => (by rw [z, g0] at q; cases q)⟩
    have gT : h''.get? s.heap.objs.size = some { cls := .type "tuple", data := .seq #[.int i s.toks, u] } := (sb.2 _ hTe).trans hT
    have I1 : Inv X pins σ (upd H s.heap.objs.size (.tup [.int i, x])) { s with heap := h'', toks := s.toks + 1 } := by
      refine I.step (g' := s.gens) (d' := s.drawn) (ch := [e, it]) (fun b hb => ?_) (fun b o _ _ hb q _ => kk b o (fun z => hb (by simp [z])) (fun z => hb (by simp [z])) q) (fun b o _ _ hb q _ => ⟨o.slots, kk b o (fun z => hb (by simp [z])) (fun z => hb (by simp [z])) q⟩) (fun b o _ q n => ?_)
        (fun b o hb q => ⟨o, kk b o (fun z => hb (by simp [z])) (fun z => hb (by simp [z])) q⟩) (fun b ys q => ?_) (fun b ob y q => ?_) (fun b ps q => ⟨#[], ?_⟩) (fun m hm => ?_) (fun b y q => ?_) I.bare
      . rcases List.mem_cons.mp hb with rfl | hb
        . exact ⟨f3, f1, f4, f5⟩
        . rw [List.mem_singleton.mp hb]
          exact ⟨g3, g1, g4, g5⟩
      . rw [z0A (Nat.ne_of_lt (Heap.lt_size q))]
        exact n
      . rw [z0A (z0J q nT)]
        exact q
      . rw [z0A (z0J q nT)]
        exact q
      . rw [z0A (z0J q nT), q]
        simp
      . obtain ⟨o, es', ep, ho', r⟩ := hm
        exact ⟨o, es', ep, kk _ o (Ne.symm f1) (Ne.symm g1) ho', r⟩
      . by_cases hb : b = s.heap.objs.size
        . subst hb
          rw [upd_same] at q
          cases q
          exact ⟨by show 2 <= sizeLine; decide, [.int i s.toks, u], .cons ⟨_, rfl⟩ (.cons ru .nil), _, gT, rfl, _, rfl⟩
        . rw [z0A hb] at q
          refine (I.hok b y q).stay (fun c v hc' z => ?_) (fun c z => by rw [z0A (z0J z nT)]; exact z) fun c ys z => by rw [z0A (z0J z nT)]; exact z
          rcases hc' with z' | z'
          . subst z'
            exact kk c v (nb c y q).1 (nb c y q).2 z
          . exact kk c v (nb c _ z').1 (nb c _ z').2 z
    refine ⟨.ref s.heap.objs.size, _, I1, rfl, ⟨_, x, nT, rfl, rfl, fun ys hy => by rw [I.list_inj hy hq]; exact hx⟩, ⟨⟨u, by simpa using he''⟩, hit'.at fun o q => (sb.2 it (Ne.symm hei)).trans q⟩, fun b hb => ?_⟩
    have hn := (hf b hb).1
    have lt : b < s.heap.objs.size := by
      rcases List.mem_cons.mp hb with rfl | hb
      . exact Heap.lt_size he
      . rw [List.mem_singleton.mp hb]
        obtain ⟨o, q, _⟩ := hit
        exact Heap.lt_size q
    rw [z0A (Nat.ne_of_lt lt)]
    exact hn
  done := by
    intro X hP hw hK hc i pins s σ H E I hf st hg
    subst hP hw hK
    obtain ⟨xs, hq, hx⟩ := hg
    obtain ⟨its, rv, p, hz⟩ := I.list hq
    obtain ⟨⟨old, he⟩, hit⟩ := st
    obtain ⟨g0, g1, g2, g3, g4, g5⟩ := hf it (List.mem_cons_of_mem _ List.mem_cons_self)
    have hl := rv.length
    exact wpAny_pyNext_enum_end (I.ok.hd hc) he hit p.isList (by simp; omega) fun h' eb => ⟨rfl, I.turned (t' := s.toks) (fun b o hb q => eb b o hb q) g0 g1 g3 g4 g5⟩
  self := fun _ _ _ _ _ st h => let ⟨_, he⟩ := st.1; wpAny_pyIter_enum he h
section
variable {X : Cx}
def z8w (K : PySem.W.Frag) (ta : TA) : TI := fun σ H R => ta σ H fun vs H1 => ∃ a, vs = [.ref a] /\ (∃ xs, SqL K H1 a xs) /\ R (Ite K a) H1
theorem z4q {l : Expr} {ta : TA} {p pos : Pos} {es : List Expr} {k : Nat} {tp : Pos} (hg : Gl X "enumerate") (hm : X.mg "enumerate" = none) (ha : PA X [l] ta) (hs : starEach [l] X.env = [(false, eval l X.env)] := by rfl) :
    PI X (.Tuple es k tp) (.Call (.Name "enumerate" p) [l] [] pos) (z8w X.K ta) := by
  intro pins s σ H R I h
  refine Call_ (z1z I hg hm boot_enumerate (PyProof.Rows.callWith_type1 (thn (ha pos pins s σ H _ I h) fun us s1 ⟨vs, H1, I1, r1, q1⟩ => ?_) hs rfl))
  obtain ⟨a, e, ⟨xs, hq⟩, q⟩ := q1
  subst e
  obtain ⟨u, rfl, ru⟩ := vals1 r1
  cases (show u = Value.ref a from ru)
  obtain ⟨its, rv, pl, hz⟩ := I1.list hq
  refine call_enumerate_list pl.isList fun h' he hit hsz hk => ?_
  refine wpAny_pyIter_enum (s := { s1 with heap := h' }) he ?_
  have n1 : H1 s1.heap.objs.size = none := I1.hok.fresh (Nat.le_refl _)
  have n2 : H1 (s1.heap.objs.size + 1) = none := I1.hok.fresh (Nat.le_succ _)
  refine ⟨s1.heap.objs.size + 1, [s1.heap.objs.size + 1, s1.heap.objs.size], _, _, H1, rfl, I1.kept (t' := s1.toks) hk, z4p a _ _ (Nat.succ_ne_self _), ⟨⟨_, by simpa using he⟩, hit⟩, fun b hb => ?_, q⟩
  rcases List.mem_cons.mp hb with rfl | hb
  . exact I1.fpOk (Nat.le_succ _) n2
  . rw [List.mem_singleton.mp hb]
    exact I1.fpOk (Nat.le_refl _) n1
end
theorem z3a {K : PySem.W.Frag} {a : Addr} {xs : List V} {g : TG} {tb : TS} {D : Ends} {σ : St} {H : Hp} (Pv : Nat -> St -> Hp -> Prop) (h0 : Pv 0 σ H) (hl : ∀ i σ H, i <= xs.length -> Pv i σ H -> SqL K H a xs)
    (hs : ∀ (i : Nat) x σ H T, xs[i]? = some x -> Pv i σ H -> H T = none -> g (.ref T) σ (upd H T (.tup [.int i, x])) fun σ2 H2 => tb { D with nx := Pv (i + 1), ct := Pv (i + 1), bk := D.nx } σ2 H2) (hd : ∀ σ H, Pv xs.length σ H -> D.nx σ H) :
    ∃ W : Nat -> Nat -> St -> Hp -> Prop, (∃ m, W 0 m σ H) /\ ∀ i m σ H, W i m σ H ->
      ((Ite K a).stop i H /\ D.nx σ H) \/ ((Ite K a).go i H /\ ∃ N : St -> Hp -> Prop, (∀ σ' H', N σ' H' -> ∃ m', m' < m /\ W (i + 1) m' σ' H') /\ ∀ x H', (Ite K a).yld i H x H' -> g x σ H' fun σ2 H2 => tb { D with nx := N, ct := N, bk := D.nx } σ2 H2) := by
  refine ⟨fun i m σ H => m = xs.length - i /\ i <= xs.length /\ Pv i σ H, ⟨xs.length, by simp, Nat.zero_le _, h0⟩, ?_⟩
  rintro i m σ H ⟨rfl, hi, p⟩
  have q := hl i σ H hi p
  by_cases hlt : i < xs.length
  . refine .inr ⟨⟨xs, xs[i], q, List.getElem?_eq_getElem hlt⟩, Pv (i + 1), fun σ' H' p' => ⟨xs.length - (i + 1), by omega, rfl, hlt, p'⟩, fun x H' y => ?_⟩
    obtain ⟨T, v, nT, rfl, rfl, hv⟩ := y
    exact hs i v σ H T (hv xs q) p nT
  . have e : i = xs.length := by omega
    subst e
    exact .inl ⟨⟨xs, q, Nat.le_refl _⟩, hd σ H p⟩
def Itv (K : PySem.W.Frag) (a : Addr) (xs : List V) : It :=
  ⟨fun i H => i < xs.length /\ SqL K H a xs, fun i H x H' => H' = H /\ xs[xs.length - 1 - i]? = some x, fun i _ => i = xs.length⟩
theorem z5t {P : Program} {w : World} {K : PySem.W.Frag} {tg : Expr} (a it : Addr) (xs : List V) :
    Turn P w K tg (Itv K a xs) [it] it (fun i h => h.IsRevIter it a ((xs.length : Int) - 1 - (i : Int))) where
  mem := List.mem_cons_self
  obj := fun i h st b hb => by
    rw [List.mem_singleton.mp hb]
    obtain ⟨o, e, c, d⟩ := st
    exact ⟨o, e, fun v z => by rw [d] at z; cases z⟩
  keep := fun i h h' st k => st.at fun o e => k it List.mem_cons_self o e
  item := by
    intro X hP hw hK hc i pins s σ H E I hf st hg
    subst hP hw hK
    obtain ⟨hi, hq⟩ := hg
    obtain ⟨its, rv, p, hz⟩ := I.list hq
    have hl := rv.length
    have hx : xs[xs.length - 1 - i]? = some (xs[xs.length - 1 - i]'(by omega)) := List.getElem?_eq_getElem (by omega)
    obtain ⟨u, hu, ru⟩ := rv.get hx
    obtain ⟨f0, f1, f2, f3, f4, f5⟩ := hf it List.mem_cons_self
    have e : (xs.length : Int) - 1 - (i : Int) = ((xs.length - 1 - i : Nat) : Int) := by omega
    have st' : s.heap.IsRevIter it a ((xs.length - 1 - i : Nat) : Int) := by rw [<- e]; exact st
    refine wpAny_pyNext_rev_item st' p.isList (x := u) (by simpa using hu) fun h' st1 sb => ?_
    have I1 : Inv X pins σ H { s with heap := h' } := I.turned (t' := s.toks) (fun b o hb q => (sb.2 b hb).trans q) f0 f1 f3 f4 f5
    obtain ⟨o, q, c, d⟩ := id st1
    have e2 : ((xs.length - 1 - i : Nat) : Int) - 1 = (xs.length : Int) - 1 - ((i + 1 : Nat) : Int) := by omega
    refine ⟨u, rfl, z5i (s := { s with heap := h' }) q c d (by decide) ⟨_, H, I1, ru, ⟨rfl, hx⟩, ?_, fun b hb => (hf b hb).1⟩⟩
    rw [<- e2]
    exact st1
  done := by
    intro X hP hw hK hc i pins s σ H E I hf st hg
    subst hP hw hK
    cases (show i = xs.length from hg)
    obtain ⟨f0, f1, f2, f3, f4, f5⟩ := hf it List.mem_cons_self
    have e : (xs.length : Int) - 1 - (xs.length : Int) = -1 := by omega
    have st' : s.heap.IsRevIter it a (-1) := by rw [<- e]; exact st
    exact wpAny_pyNext_rev_end (I.ok.hd hc) st' fun h' eb => ⟨rfl, I.turned (t' := s.toks) (fun b o hb q => eb b o hb q) f0 f1 f3 f4 f5⟩
  self := fun _ _ _ _ _ st h => wpAny_pyIter_revIter st h
section
variable {X : Cx} {tg : Expr}
def zAc (K : PySem.W.Frag) (ta : TA) : TI := fun σ H R => ta σ H fun vs H1 => ∃ a xs, vs = [.ref a] /\ SqL K H1 a xs /\ R (Itv K a xs) H1
theorem z7s {l : Expr} {ta : TA} {p pos : Pos} (hg : Gl X "reversed") (hm : X.mg "reversed" = none) (ha : PA X [l] ta) (hs : starEach [l] X.env = [(false, eval l X.env)] := by rfl) :
    PI X tg (.Call (.Name "reversed" p) [l] [] pos) (zAc X.K ta) := by
  intro pins s σ H R I h
  refine Call_ (z1z I hg hm boot_reversed (PyProof.Rows.callWith_type1 (thn (ha pos pins s σ H _ I h) fun us s1 ⟨vs, H1, I1, r1, q1⟩ => ?_) hs rfl))
  obtain ⟨a, xs, e, hq, q⟩ := q1
  subst e
  obtain ⟨u, rfl, ru⟩ := vals1 r1
  cases (show u = Value.ref a from ru)
  obtain ⟨its, rv, pl, hz⟩ := I1.list hq
  have hl := rv.length
  refine call_reversed_list pl.isList ?_
  have st : Heap.IsRevIter (s1.heap.push (revObj a ((its.toArray.size : Int) - 1))) s1.heap.objs.size a ((xs.length : Int) - 1 - ((0 : Nat) : Int)) := by
    have e : (xs.length : Int) - 1 - ((0 : Nat) : Int) = (its.toArray.size : Int) - 1 := by
      rw [List.size_toArray]
      omega
    rw [e]
    exact ⟨_, Heap.get?_push_size _ rfl, rfl, rfl⟩
  refine wpAny_pyIter_revIter (s := { s1 with heap := s1.heap.push (revObj a ((its.toArray.size : Int) - 1)) }) st ?_
  refine ⟨s1.heap.objs.size, [s1.heap.objs.size], _, _, H1, rfl, I1.kept (t' := s1.toks) fun b o e => Heap.get?_push_of_some _ e, z5t a _ xs, st, fun b hb => ?_, q⟩
  rw [List.mem_singleton.mp hb]
  exact I1.fpOk (Nat.le_refl _) (I1.hok.fresh (Nat.le_refl _))
end
theorem z6o {K : PySem.W.Frag} {a : Addr} {xs : List V} {g : TG} {tb : TS} {D : Ends} {σ : St} {H : Hp} (Pv : Nat -> St -> Hp -> Prop) (h0 : Pv 0 σ H) (hl : ∀ i σ H, i <= xs.length -> Pv i σ H -> SqL K H a xs)
    (hs : ∀ (i : Nat) x σ H, i < xs.length -> xs[xs.length - 1 - i]? = some x -> Pv i σ H -> g x σ H fun σ2 H2 => tb { D with nx := Pv (i + 1), ct := Pv (i + 1), bk := D.nx } σ2 H2) (hd : ∀ σ H, Pv xs.length σ H -> D.nx σ H) :
    ∃ W : Nat -> Nat -> St -> Hp -> Prop, (∃ m, W 0 m σ H) /\ ∀ i m σ H, W i m σ H ->
      ((Itv K a xs).stop i H /\ D.nx σ H) \/ ((Itv K a xs).go i H /\ ∃ N : St -> Hp -> Prop, (∀ σ' H', N σ' H' -> ∃ m', m' < m /\ W (i + 1) m' σ' H') /\ ∀ x H', (Itv K a xs).yld i H x H' -> g x σ H' fun σ2 H2 => tb { D with nx := N, ct := N, bk := D.nx } σ2 H2) := by
  refine ⟨fun i m σ H => m = xs.length - i /\ i <= xs.length /\ Pv i σ H, ⟨xs.length, by simp, Nat.zero_le _, h0⟩, ?_⟩
  rintro i m σ H ⟨rfl, hi, p⟩
  have q := hl i σ H hi p
  by_cases hlt : i < xs.length
  . refine .inr ⟨⟨hlt, q⟩, Pv (i + 1), fun σ' H' p' => ⟨xs.length - (i + 1), by omega, rfl, hlt, p'⟩, fun x H' y => ?_⟩
    obtain ⟨e, y⟩ := y
    subst e
    exact hs i x σ _ hlt y p
  . have e : i = xs.length := by omega
    subst e
    exact .inl ⟨rfl, hd σ H p⟩
section
variable {prog : Program} {w : World} {A : Around} {E : Value -> Shared -> Prop} {s : Shared}
abbrev zt1 (h : Heap) (l1 : Addr) : Heap := h.push { cls := .type "tuple_iterator", data := .fields #[.ref l1, .int 0 0] }
abbrev zt2 (h : Heap) (l1 l2 : Addr) : Heap := (zt1 h l1).push { cls := .type "tuple_iterator", data := .fields #[.ref l2, .int 0 0] }
abbrev zt3 (h : Heap) (l1 l2 : Addr) : Heap := (zt2 h l1 l2).push { cls := .type "tuple", data := .seq #[.ref h.objs.size, .ref (zt1 h l1).objs.size] }
abbrev zt4 (h : Heap) (l1 l2 : Addr) : Heap := (zt3 h l1 l2).push { cls := .type "tuple", data := .seq #[.none, .none] }
abbrev zt5 (h : Heap) (l1 l2 : Addr) : Heap := (zt4 h l1 l2).push { cls := .type "zip", data := .fields #[.none, .bool false, .bool false, .ref (zt2 h l1 l2).objs.size, .ref (zt3 h l1 l2).objs.size] }
end
def Itz (K : PySem.W.Frag) (a b : Addr) (xs ys : List V) : It :=
  ⟨fun i H => SqT K H a xs /\ SqT K H b ys /\ i < xs.length /\ i < ys.length, fun i H x H' => ∃ T u v, H T = none /\ x = .ref T /\ H' = upd H T (.tup [u, v]) /\ xs[i]? = some u /\ ys[i]? = some v,
    fun i H => SqT K H a xs /\ SqT K H b ys /\ (xs.length <= i \/ ys.length <= i)⟩
section
variable {X : Cx}
def zBJ (K : PySem.W.Frag) (ta : TA) : TI := fun σ H R => ta σ H fun vs H1 => ∃ a b xs ys, vs = [.ref a, .ref b] /\ SqT K H1 a xs /\ SqT K H1 b ys /\ R (Itz K a b xs ys) H1
end
def z7t (sc dsc : Scope) (N : List Str) (ix : List Nat) : Bool :=
  sc.kind == .function && sc.names.all (fun y => y.2 != .cell) && sc.names.all (fun y => y.2 != .free || dsc.names.lookup y.1 == some .cell || dsc.names.lookup y.1 == some .free) &&
    sc.names.all (fun y => y.2 != .local || sc.names.lookup y.1 == some .local) && ix.all (fun i => match N[i]? with | some x => sc.names.lookup x == some .free | none => false)
theorem BlkSc.look {X : Cx} {sc dsc : Scope} {locs N : List Str} {ix : List Nat} (hs : X.env.scope = dsc) (hN : X.N = N) (c : z7t sc dsc N ix = true) : BlkSc X sc locs ix := by
  unfold z7t at c
  rw [Bool.and_eq_true, Bool.and_eq_true, Bool.and_eq_true, Bool.and_eq_true] at c
  obtain ⟨⟨⟨⟨c1, c2⟩, c3⟩, c4⟩, c5⟩ := c
  refine ⟨by simpa using c1, fun y hy => ?_, fun y hy hk => ?_, fun y hy hk => ?_, fun i hi => ?_⟩
  . simpa using List.all_eq_true.mp c2 y hy
  . have q := List.all_eq_true.mp c3 y hy
    have z : X.env.kindOf y.1 = dsc.names.lookup y.1 := by rw [<- hs]; rfl
    rw [z]
    rw [hk] at q
    simpa using q
  . have q := List.all_eq_true.mp c4 y hy
    rw [hk] at q
    simpa using q
  . have q := List.all_eq_true.mp c5 i hi
    rw [hN]
    cases hx : N[i]? with
    | none => rw [hx] at q; cases q
    | some x =>
      rw [hx] at q
      exact ⟨x, rfl, by simpa using q⟩
section
variable {X : Cx} {sc : Scope} {cl : List (Str × Addr)} {C : Addr} {N : List Str} {fp : List Addr} {s2 : Shared} {H2 : Hp} {pn : List (Addr × Obj)}
theorem z4r : IxR (cxC X sc cl C N fp s2 H2 pn) (z8o X.K) := z06
end
theorem z2J {J : It} {n : Nat} {g : TG} {te : TE} {σ0 : St} {H1 : Hp} {Fin : List V -> Hp -> Prop} (Pv : Nat -> St -> List V -> Hp -> Prop) (h0 : Pv 0 σ0 [] H1) (hn : n <= sizeLine) (len : ∀ i σ ys H, Pv i σ ys H -> ys.length = i)
    (stop : ∀ σ ys H, Pv n σ ys H -> J.stop n H) (go : ∀ i σ ys H, i < n -> Pv i σ ys H -> J.go i H)
    (hs : ∀ i σ ys H x H' (Z : St -> List V -> Hp -> Prop), i < n -> Pv i σ ys H -> J.yld i H x H' -> (∀ σ' ys' H', Pv (i + 1) σ' ys' H' -> Z σ' ys' H') -> g x σ H' fun σ2 H2 => te σ2 H2 fun y H3 => Z σ2 (ys ++ [y]) H3) (hd : ∀ σ ys H, Pv n σ ys H -> Fin ys H) :
    ∃ W : Nat -> Nat -> St -> List V -> Hp -> Prop, (∃ m, W 0 m σ0 [] H1) /\ z5r J g z9f te Fin W := by
  refine ⟨fun i m σ ys H => m = n - i /\ i <= n /\ Pv i σ ys H, ⟨n, rfl, Nat.zero_le _, h0⟩, ?_⟩
  rintro i m σ ys H ⟨rfl, hi, p⟩
  by_cases hlt : i < n
  . refine .inr ⟨go i σ ys H hlt p, by rw [len i σ ys H p]; omega, fun x H' y => ?_⟩
    have q := hs i σ ys H x H' (fun σ2 ys2 H3 => ∃ m', m' < n - i /\ m' = n - (i + 1) /\ i + 1 <= n /\ Pv (i + 1) σ2 ys2 H3) hlt p y fun σ' ys' H'' p' => ⟨n - (i + 1), by omega, rfl, hlt, p'⟩
    exact q
  . have e : i = n := by omega
    subst e
    exact .inl ⟨stop σ ys H p, by rw [len i σ ys H p]; exact hn, hd σ ys H p⟩
def Alk : Nat -> Hp -> V -> V -> Prop
  | 0, _, _, _ => False
  | n + 1, H, x, y => (x = y /\ (x = .non \/ (∃ b, x = .bl b) \/ (∃ i, x = .int i) \/ ∃ z, x = .str z)) \/
      ∃ a b xs ys, x = .ref a /\ y = .ref b /\ ((H a = some (.lst xs) /\ H b = some (.lst ys)) \/ (H a = some (.tup xs) /\ H b = some (.tup ys))) /\ xs.length <= 1000000 /\ xs.length = ys.length /\ ∀ (i : Nat) u v, xs[i]? = some u -> ys[i]? = some v -> Alk n H u v
theorem Alk.mono {H H' : Hp} (s : Same H H') : ∀ {n : Nat} {x y : V}, Alk n H x y -> Alk n H' x y
  | 0, _, _, h => h.elim
  | n + 1, _, _, h => by
    rcases h with h | ⟨a, b, xs, ys, e1, e2, e3, e4, e5, e6⟩
    . exact .inl h
    . refine .inr ⟨a, b, xs, ys, e1, e2, ?_, e4, e5, fun i u v h1 h2 => (e6 i u v h1 h2).mono s⟩
      rcases e3 with ⟨p, q⟩ | ⟨p, q⟩
      . exact .inl ⟨s _ _ p, s _ _ q⟩
      . exact .inr ⟨s _ _ p, s _ _ q⟩
theorem Alk.up {H : Hp} : ∀ {n m : Nat} {x y : V}, n <= m -> Alk n H x y -> Alk m H x y
  | 0, _, _, _, _, h => h.elim
  | n + 1, 0, _, _, hm, _ => absurd hm (Nat.not_succ_le_zero _)
  | n + 1, m + 1, _, _, hm, h => by
    rcases h with h | ⟨a, b, xs, ys, e1, e2, e3, e4, e5, e6⟩
    . exact .inl h
    . exact .inr ⟨a, b, xs, ys, e1, e2, e3, e4, e5, fun i u v h1 h2 => (e6 i u v h1 h2).up (Nat.le_of_succ_le_succ hm)⟩
theorem Alk.int {n : Nat} {H : Hp} (i : Int) : Alk (n + 1) H (.int i) (.int i) := .inl ⟨rfl, .inr (.inr (.inl ⟨i, rfl⟩))⟩
theorem Alk.non {n : Nat} {H : Hp} : Alk (n + 1) H .non .non := .inl ⟨rfl, .inl rfl⟩
theorem Alk.bl {n : Nat} {H : Hp} (b : Bool) : Alk (n + 1) H (.bl b) (.bl b) := .inl ⟨rfl, .inr (.inl ⟨b, rfl⟩)⟩
theorem Alk.ints {n : Nat} {H : Hp} {a b : Addr} {zs ws : List Int} (h1 : H a = some (.lst (zs.map V.int))) (h2 : H b = some (.lst (ws.map V.int))) (e : zs = ws) (hl : zs.length <= 1000000) : Alk (n + 2) H (.ref a) (.ref b) := by
  subst e
  refine .inr ⟨a, b, _, _, rfl, rfl, .inl ⟨h1, h2⟩, by rw [List.length_map]; exact hl, rfl, fun i u v hu hv => ?_⟩
  rw [hu] at hv
  cases hv
  obtain ⟨z, rfl⟩ := z1b (List.mem_of_getElem? hu)
  exact Alk.int z
theorem Alk.tints {n : Nat} {H : Hp} {a b : Addr} {zs ws : List Int} (h1 : H a = some (.tup (zs.map V.int))) (h2 : H b = some (.tup (ws.map V.int))) (e : zs = ws) (hl : zs.length <= 1000000) : Alk (n + 2) H (.ref a) (.ref b) := by
  subst e
  refine .inr ⟨a, b, _, _, rfl, rfl, .inr ⟨h1, h2⟩, by rw [List.length_map]; exact hl, rfl, fun i u v hu hv => ?_⟩
  rw [hu] at hv
  cases hv
  obtain ⟨z, rfl⟩ := z1b (List.mem_of_getElem? hu)
  exact Alk.int z
def z8x (n : Nat) : Sp := fun vs H Q _ => ∃ x y, vs = [x, y] /\ Alk n H x y /\ ∀ H', Same H H' -> Q (.bl true) H'
structure BltA (mg : Str -> Option Value) : Prop where
  isi : mg "isinstance" = none
  tup : mg "tuple" = none
  lst : mg "list" = none
  boo : mg "bool" = none
  str : mg "str" = none
  int : mg "int" = none
  len : mg "len" = none
  all : mg "all" = none
  rng : mg "range" = none
end L2
namespace G
open PySem
def z09 : List (Option Int) -> Int
  | [] => 0
  | c :: r => c.getD 0 + 16 * z09 r
def z07 : List (Option Int) -> Int
  | [] => 0
  | c :: r => (if c.isSome = true then 1 else 0) + 2 * z07 r
def Cell (c : Option Int) : Prop := ∀ z, c = some z -> 0 <= z /\ z <= 15
def Cells (r : List (Option Int)) : Prop := ∀ c ∈ r, Cell c
theorem Cells.tail {c : Option Int} {r : List (Option Int)} (h : Cells (c :: r)) : Cells r := fun d hd => h d (List.mem_cons_of_mem _ hd)
theorem Cell.get {c : Option Int} (h : Cell c) : 0 <= c.getD 0 /\ c.getD 0 <= 15 := by
  cases c with
  | none => exact ⟨by decide, by decide⟩
  | some z => exact h z rfl
theorem z3A (n : Nat) : (16 : Int) ^ (n + 1) = 16 * 16 ^ n := by rw [Int.pow_succ, Int.mul_comm]
theorem z4s (n : Nat) : (2 : Int) ^ (n + 1) = 2 * 2 ^ n := by rw [Int.pow_succ, Int.mul_comm]
theorem z2g : ∀ n : Nat, (0 : Int) < 16 ^ n
  | 0 => by decide
  | n + 1 => by have := z2g n; rw [z3A]; omega
theorem z1E : ∀ n : Nat, (0 : Int) < 2 ^ n
  | 0 => by decide
  | n + 1 => by have := z1E n; rw [z4s]; omega
theorem z2K : ∀ {r : List (Option Int)}, Cells r -> 0 <= z09 r /\ z09 r < 16 ^ r.length
  | [], _ => ⟨by decide, by decide⟩
  | c :: r, h => by
    have ih := z2K h.tail
    have hc := (h c List.mem_cons_self).get
    show 0 <= c.getD 0 + 16 * z09 r /\ c.getD 0 + 16 * z09 r < 16 ^ (r.length + 1)
    rw [z3A]
    omega
theorem z1B : ∀ (r : List (Option Int)), 0 <= z07 r /\ z07 r < 2 ^ r.length
  | [] => ⟨by decide, by decide⟩
  | c :: r => by
    have ih := z1B r
    show 0 <= (if c.isSome = true then 1 else 0) + 2 * z07 r /\ (if c.isSome = true then 1 else 0) + 2 * z07 r < (2 : Int) ^ (r.length + 1)
    rw [z4s]
    split <;> omega
theorem z23 (c : Option Int) : ∀ r : List (Option Int), z09 (r ++ [c]) = z09 r + c.getD 0 * 16 ^ r.length
  | [] => by show c.getD 0 + 16 * 0 = 0 + c.getD 0 * 1; omega
  | d :: r => by
    have ih := z23 c r
    show d.getD 0 + 16 * z09 (r ++ [c]) = d.getD 0 + 16 * z09 r + c.getD 0 * 16 ^ (r.length + 1)
    rw [ih, z3A, Int.mul_add, <- Int.mul_assoc, Int.mul_comm 16 (c.getD 0), Int.mul_assoc, Int.add_assoc]
theorem z2h (c : Option Int) : ∀ r : List (Option Int), z07 (r ++ [c]) = z07 r + (if c.isSome = true then 1 else 0) * 2 ^ r.length
  | [] => by show (if c.isSome = true then 1 else 0) + 2 * 0 = 0 + (if c.isSome = true then (1 : Int) else 0) * 1; omega
  | d :: r => by
    have ih := z2h c r
    show (if d.isSome = true then 1 else 0) + 2 * z07 (r ++ [c]) = (if d.isSome = true then 1 else 0) + 2 * z07 r + (if c.isSome = true then (1 : Int) else 0) * 2 ^ (r.length + 1)
    rw [ih, z4s, Int.mul_add, <- Int.mul_assoc, Int.mul_comm 2 (if c.isSome = true then (1 : Int) else 0), Int.mul_assoc, Int.add_assoc]
theorem z6p (a d k : Nat) (h : d < 2 ^ k) : (2 ^ k * a) &&& d = 0 := by
  have e1 : d &&& (2 ^ k - 1) = d := by rw [Nat.and_two_pow_sub_one_eq_mod, Nat.mod_eq_of_lt h]
  have e2 : (2 ^ k * a) &&& (2 ^ k - 1) = 0 := by rw [Nat.and_two_pow_sub_one_eq_mod, Nat.mul_mod_right]
  have f : (2 ^ k * a) &&& (d &&& (2 ^ k - 1)) = ((2 ^ k * a) &&& (2 ^ k - 1)) &&& d := by rw [Nat.and_comm d (2 ^ k - 1), Nat.and_assoc]
  rw [e1, e2, Nat.zero_and] at f
  exact f
theorem z1k (k : Nat) : ((2 ^ k : Nat) : Int) = (2 : Int) ^ k := by
  induction k with
  | zero => rfl
  | succ k ih => rw [Nat.pow_succ, Int.natCast_mul, ih, Int.pow_succ]; rfl
theorem z4t {p c : Int} {k : Nat} (p0 : 0 <= p) (p1 : p < 2 ^ k) (c0 : 0 <= c) : Builtin.bitOr p (c * 2 ^ k) = p + c * 2 ^ k := by
  obtain ⟨P, rfl⟩ := Int.eq_ofNat_of_zero_le p0
  obtain ⟨C, rfl⟩ := Int.eq_ofNat_of_zero_le c0
  have e : ((C : Int) * 2 ^ k) = ((2 ^ k * C : Nat) : Int) := by rw [Int.natCast_mul, z1k, Int.mul_comm]
  rw [e, PyProof.Rows.bitOr_and, PyProof.Rows.bitAnd_pp (Int.natCast_nonneg _) (Int.natCast_nonneg _), Int.toNat_natCast, Int.toNat_natCast]
  have hP : P < 2 ^ k := by
    rw [<- z1k] at p1
    omega
  rw [Nat.and_comm, z6p C P k hP]
  omega
theorem z7K (x : Nat) : (2 : Int) ^ (4 * x) = 16 ^ x := by
  induction x with
  | zero => rfl
  | succ x ih =>
    rw [show 4 * (x + 1) = 4 * x + 1 + 1 + 1 + 1 by omega, z4s, z4s, z4s, z4s, ih, z3A]
    omega
def pc : Nat -> Nat
  | 0 => 0
  | n + 1 => (n + 1) % 2 + pc ((n + 1) / 2)
decreasing_by omega
def z6q : List (Option Int) -> Nat
  | [] => 0
  | c :: r => (if c.isSome = true then 1 else 0) + z6q r
end G
namespace L2
open PySem PySem.Spec PyProof.Rows G
def z0P : Option Int -> V
  | none => .non
  | some z => .int z
structure RowsAt (H : Hp) (l : Addr) (ps : List Addr) (rows : List (List (Option Int))) : Prop where
  lst : H l = some (.lst (ps.map V.ref))
  len : ps.length = rows.length
  row : ∀ (i : Nat) p r, ps[i]? = some p -> rows[i]? = some r -> H p = some (.lst (r.map z0P))
theorem RowsAt.mono {H H' : Hp} {l : Addr} {ps : List Addr} {rows : List (List (Option Int))} (s : Same H H') (h : RowsAt H l ps rows) : RowsAt H' l ps rows := ⟨s _ _ h.lst, h.len, fun i p r e1 e2 => s _ _ (h.row i p r e1 e2)⟩
structure Rect (w h : Nat) (rows : List (List (Option Int))) : Prop where
  len : rows.length = h
  h1 : 1 <= h
  h2 : h <= 64
  w1 : 1 <= w
  w2 : w <= 64
  row : ∀ r ∈ rows, r.length = w /\ Cells r
def PicAt (H : Hp) (p : Addr) (w : Nat) (rows : List (List (Option Int))) : Prop :=
  ∃ pp pm, H p = some (.tup [.int (w : Int), .int (rows.length : Int), .ref pp, .ref pm]) /\ H pp = some (.tup ((rows.map z09).map V.int)) /\ H pm = some (.tup ((rows.map z07).map V.int))
theorem PicAt.mono {H H' : Hp} {p : Addr} {w : Nat} {rows : List (List (Option Int))} (s : Same H H') (h : PicAt H p w rows) : PicAt H' p w rows := by
  obtain ⟨pp, pm, h1, h2, h3⟩ := h
  exact ⟨pp, pm, s _ _ h1, s _ _ h2, s _ _ h3⟩
theorem Alk.cell {n : Nat} {H : Hp} (c : Option Int) : Alk (n + 1) H (z0P c) (z0P c) := by
  cases c with
  | none => exact Alk.non
  | some z => exact Alk.int z
theorem z4u {ns : List Int} (h : 0 < ns.length) (k : Int) : ∃ z, atI (ns.map V.int) (k % ((ns.map V.int).length : Int)) = some (.int z) := by
  have e : ((ns.map V.int).length : Int) = (ns.length : Int) := by rw [List.length_map]
  rw [e]
  have h1 := Int.emod_nonneg k (show (ns.length : Int) ≠ 0 by omega)
  have h2 := Int.emod_lt_of_pos k (show (0 : Int) < ns.length by omega)
  have e2 : k % (ns.length : Int) = (((k % (ns.length : Int)).toNat : Nat) : Int) := by omega
  rw [e2]
  have hj : (k % (ns.length : Int)).toNat < ns.length := by omega
  refine ⟨ns[(k % (ns.length : Int)).toNat], z0d ?_⟩
  rw [List.getElem?_map, List.getElem?_eq_getElem hj]
  rfl
def look (w h : Nat) (rows : List (List (Option Int))) (x y : Int) : Option Int := if 0 <= x /\ x < w /\ 0 <= y /\ y < h then (rows.getD y.toNat []).getD x.toNat none else none
theorem z7u {zs : List Int} {y : Int} {z : Int} (h0 : 0 <= y) (h : zs[y.toNat]? = some z) : atI (zs.map V.int) y = some (.int z) := by
  have e : y = ((y.toNat : Nat) : Int) := by omega
  rw [e]
  exact z0d (by rw [List.getElem?_map, h]; rfl)
def z4v (K : PySem.W.Frag) : Sp := fun vs H Q _ => ∃ (a : Addr) (ns : List Int) (k m : Int), vs = [.ref a, .int k, .int m] /\ SqL K H a (ns.map V.int) /\ 0 <= k /\ k < 1000000 /\ 0 < m /\ ∀ r, 0 <= r -> r < m -> Q (.int r) H
def z8y (K : PySem.W.Frag) : Sp := fun vs H Q _ => ∃ (a : Addr) (ns : List Int) (k : Int), vs = [.ref a, .int k] /\ SqL K H a (ns.map V.int) /\ 0 <= k /\ k < 10000 /\ ∀ (w h : Int) p, 1 <= w -> w <= 64 -> 1 <= h -> h <= 64 -> H p = none -> Q (.ref p) (upd H p (.tup [.int w, .int h]))
def z6Q (K : PySem.W.Frag) : Sp := fun vs H Q _ => ∃ (a : Addr) (ns : List Int) (k w h : Int), vs = [.ref a, .int k, .int w, .int h] /\ SqL K H a (ns.map V.int) /\ 0 <= k /\ k < 10000 /\ 1 <= w /\ w <= 64 /\ 1 <= h /\ h <= 64 /\
  ∀ l ps rows H', Same H H' -> H l = none -> (∀ p ∈ ps, H p = none) -> RowsAt H' l ps rows -> Rect w.toNat h.toNat rows -> Q (.ref l) H'
def z3b : Sp := fun vs H Q _ => ∃ l ps rows w h, vs = [.ref l] /\ RowsAt H l ps rows /\ Rect w h rows /\ ∀ p H', Same H H' -> PicAt H' p w rows -> Q (.ref p) H'
def z9g : Sp := fun vs H Q _ => ∃ p x y w h rows, vs = [.ref p, .int x, .int y] /\ PicAt H p w rows /\ Rect w h rows /\ Q (z0P (look w h rows x y)) H
def z4w : Sp := fun vs H Q _ => ∃ l r, vs = [.ref l] /\ H l = some (.lst (r.map z0P)) /\ Cells r /\ r.length <= 64 /\ ∀ H', Same H H' -> Q (.int (z09 r)) H'
def z6R : Sp := fun vs H Q _ => ∃ l r, vs = [.ref l] /\ H l = some (.lst (r.map z0P)) /\ Cells r /\ r.length <= 64 /\ ∀ H', Same H H' -> Q (.int (z07 r)) H'
structure Ow (P : Program) (w : World) (K : PySem.W.Frag) (mg : Str -> Option Value) (base : Heap) (x : Str) (ps : List Str) (k : Nat) (sp : Sp) : Prop where
  ex : ∃ (f : Addr) (fd : FuncData), mg x = some (.ref f) /\ PySem.W.keepIn K (.ref f) = true /\ Binds K fd ps [] /\ FnOk P w K mg base CX0 k f fd ps sp
theorem Df.ow {P : Program} {w : World} {K : PySem.W.Frag} {mg : Str -> Option Value} {base : Heap} {x : Str} {st : Stmt} {ps : List Str} {f : Addr} {fd : FuncData} {k : Nat} {sp : Sp} (D : Df K mg x st ps f fd) (F : FnOk P w K mg base CX0 k f fd ps sp) :
    Ow P w K mg base x ps k sp := ⟨f, fd, D.m, D.F.kp, D.b, F⟩
theorem Ow.imp {P : Program} {w : World} {K : PySem.W.Frag} {mg : Str -> Option Value} {base : Heap} {x : Str} {ps : List Str} {k : Nat} {sp sp' : Sp} (O : Ow P w K mg base x ps k sp) (h : ∀ vs H Q E, sp' vs H Q E -> sp vs H Q E) : Ow P w K mg base x ps k sp' := by
  obtain ⟨f, fd, a, b, c, F⟩ := O.ex
  exact ⟨f, fd, a, b, c, F.imp h⟩
section
variable {X : Cx} {k j : Nat} {ps : List Str} {sp : Sp} {x : Str} {p pos : Pos} {e : Expr} {es : List Expr} {t : TA}
theorem z0F (O : Ow X.prog X.w X.K X.mg X.base x ps k sp) (hr : Room j X.A) (hg : Gl X x) (ha : PA X (e :: es) t) (hk : k <= j := by decide) (hdb : (x == ("__debug__" : Str)) = false := by decide)
    (he : starEach (e :: es) X.env = (false, eval e X.env) :: starEach es X.env := by rfl) (hpl : (backTo pos (starEach es X.env)).any (·.1) = false := by rfl) :
    PE X (.Call (.Name x p) (e :: es) [] pos) (z3w sp [] E0 t) := by
  obtain ⟨f, fd, m, kp, b, F⟩ := O.ex
  exact z2E F (hr.mono hk) hg m kp b .nil z7p ha hdb he hpl
end
theorem z1t {c A B : Prop} [Decidable c] (h1 : c -> A) (h2 : ¬ c -> B) : if decide c = true then A else B := by
  by_cases h : c
  . rw [decide_eq_true h, if_pos rfl]; exact h1 h
  . rw [decide_eq_false h, if_neg Bool.false_ne_true]; exact h2 h
theorem z7L {c A B : Prop} [Decidable c] (h1 : ¬ c -> A) (h2 : c -> B) : if (!decide c) = true then A else B := by
  by_cases h : c
  . rw [decide_eq_true h, Bool.not_true, if_neg Bool.false_ne_true]; exact h2 h
  . rw [decide_eq_false h, Bool.not_false, if_pos rfl]; exact h1 h
theorem mulL {i j : Int} (h1 : -18446744073709551616 < i) (h2 : i < 18446744073709551616) : CMul i j := .inl ⟨h1, h2⟩
theorem mulR {i j : Int} (h1 : -18446744073709551616 < j) (h2 : j < 18446744073709551616) : CMul i j := .inr ⟨h1, h2⟩
theorem powS {i j : Int} (h1 : 0 <= j) (h2 : j <= 1000000) (h3 : i.natAbs < 18446744073709551616) : z8j i j := ⟨h1, h2, h3⟩
theorem szV {xs : List V} (h : xs.length <= 100000) : xs.length <= sizeLine := Nat.le_trans h (by decide)
theorem z2V {j : Int} (h1 : 0 <= j) (h2 : j <= 1000000000) : -(2 ^ 62) <= j /\ j < 2 ^ 62 := by
  have : (1000000000 : Int) < 2 ^ 62 := by decide
  omega
def zAd (t u : TS) : TS := fun D σ H => ∃ I : St -> Hp -> Prop, t { D with nx := I } σ H /\ ∀ σ' H', I σ' H' -> u D σ' H'
theorem z4x {X : Cx} {st : Stmt} {rest : List Stmt} {t u : TS} (h1 : PS X st t) (h2 : PSs X rest u) : PSs X (st :: rest) (zAd t u) := by
  intro pins s σ H D I h
  obtain ⟨J, h, hj⟩ := h
  refine wpAny_execs_cons (thn (h1 pins s σ H { D with nx := J } I h) fun f s1 q => ?_)
  cases f with
  | next =>
    obtain ⟨σ', H', I', q⟩ := q
    exact h2 pins s1 σ' H' D I' (hj _ _ q)
  | ret v => exact q
  | brk => exact q
  | cont => exact q
end L2
namespace L2
open PySem PySem.Spec PyProof.Rows G
structure RowsB (H0 H : Hp) (l : Addr) (ps : List Addr) (rows : List (List (Option Int))) : Prop where
  same : Same H0 H
  fl : H0 l = none
  fp : ∀ p ∈ ps, H0 p = none /\ p ≠ l
  rat : RowsAt H l ps rows
theorem Same.put {H0 H : Hp} {p : Addr} {o : HO} (s : Same H0 H) (h : H0 p = none) : Same H0 (upd H p o) := fun b u e => by
  rw [z0A (z0J e h)]
  exact s b u e
theorem RowsB.put {H0 H : Hp} {l p : Addr} {ps : List Addr} {rows : List (List (Option Int))} {o : HO} (B : RowsB H0 H l ps rows) (h0 : H0 p = none) (hl : p ≠ l) (hp : p ∉ ps) : RowsB H0 (upd H p o) l ps rows where
  same := B.same.put h0
  fl := B.fl
  fp := B.fp
  rat := ⟨by rw [z0A (Ne.symm hl)]; exact B.rat.lst, B.rat.len, fun i q r e1 e2 => by
    have hq : q ≠ p := fun e => hp (by rw [<- e]; exact List.mem_of_getElem? e1)
    rw [z0A hq]
    exact B.rat.row i q r e1 e2⟩
theorem RowsB.push {H0 H : Hp} {l p : Addr} {ps : List Addr} {rows : List (List (Option Int))} {r : List (Option Int)} (B : RowsB H0 H l ps rows) (h0 : H0 p = none) (hl : p ≠ l) (hr : H p = some (.lst (r.map z0P))) :
    RowsB H0 (upd H l (.lst (ps.map V.ref ++ [.ref p]))) l (ps ++ [p]) (rows ++ [r]) where
  same := B.same.put B.fl
  fl := B.fl
  fp := fun q hq => by
    rcases List.mem_append.mp hq with h | h
    . exact B.fp q h
    . rw [List.mem_singleton.mp h]
      exact ⟨h0, hl⟩
  rat := ⟨by rw [upd_same, List.map_append]; rfl, by rw [List.length_append, List.length_append, B.rat.len]; rfl, fun i q s e1 e2 => by
    have hq : q ≠ l := by
      rcases List.mem_append.mp (List.mem_of_getElem? e1) with h | h
      . exact (B.fp q h).2
      . rw [List.mem_singleton.mp h]
        exact hl
    rw [z0A hq]
    have hlen := B.rat.len
    by_cases hi : i < ps.length
    . rw [List.getElem?_append_left hi] at e1
      rw [List.getElem?_append_left (by omega)] at e2
      exact B.rat.row i q s e1 e2
    . rw [List.getElem?_append_right (by omega)] at e1
      rw [List.getElem?_append_right (by omega)] at e2
      rw [hlen] at e1
      cases hj : i - rows.length with
      | zero =>
        rw [hj] at e1 e2
        cases e1
        cases e2
        exact hr
      | succ n =>
        rw [hj] at e1
        cases e1⟩
theorem RowsB.mono {H0 H H' : Hp} {l : Addr} {ps : List Addr} {rows : List (List (Option Int))} (B : RowsB H0 H l ps rows) (s : Same H H') : RowsB H0 H' l ps rows := ⟨B.same.trans s, B.fl, B.fp, B.rat.mono s⟩
theorem z6r {H0 H : Hp} {l : Addr} (s : Same H0 H) (h : H l = none) : RowsB H0 (upd H l (.lst [])) l [] [] :=
  ⟨s.trans (Same.new h), s.free h, (fun _ hp => nomatch hp), ⟨upd_same, rfl, (fun _ _ _ e => nomatch e)⟩⟩
theorem Rect.ne {w h : Nat} {rows : List (List (Option Int))} (R : Rect w h rows) : 0 < rows.length := by have := R.len; have := R.h1; omega
theorem RowsAt.at {H : Hp} {l : Addr} {ps : List Addr} {rows : List (List (Option Int))} (a : RowsAt H l ps rows) {i : Nat} (hi : i < rows.length) : ∃ p, ps[i]? = some p /\ H p = some (.lst ((rows[i]'hi).map z0P)) := by
  have hl := a.len
  exact ⟨ps[i]'(by omega), List.getElem?_eq_getElem _, a.row i _ _ (List.getElem?_eq_getElem _) (List.getElem?_eq_getElem _)⟩
theorem RowsAt.atI {H : Hp} {l : Addr} {ps : List Addr} {rows : List (List (Option Int))} (a : RowsAt H l ps rows) {i : Nat} (hi : i < rows.length) : ∃ p, L2.atI (ps.map V.ref) (i : Int) = some (.ref p) /\ H p = some (.lst ((rows[i]'hi).map z0P)) := by
  obtain ⟨p, h1, h2⟩ := a.at hi
  exact ⟨p, z0d (by rw [List.getElem?_map, h1]; rfl), h2⟩
theorem Rect.row0 {w h : Nat} {rows : List (List (Option Int))} (R : Rect w h rows) {i : Nat} (hi : i < rows.length) : (rows[i]'hi).length = w /\ Cells (rows[i]'hi) := R.row _ (List.getElem_mem hi)
theorem z6s {w h : Nat} {rows : List (List (Option Int))} {x y : Int} (x0 : 0 <= x) (x1 : x < w) (y0 : 0 <= y) (y1 : y < h) (hy : y.toNat < rows.length) (hx : x.toNat < (rows[y.toNat]'hy).length) : look w h rows x y = (rows[y.toNat]'hy)[x.toNat]'hx := by
  unfold look
  have e1 : rows.getD y.toNat [] = rows[y.toNat]'hy := by rw [List.getD_eq_getElem?_getD, List.getElem?_eq_getElem hy]; rfl
  rw [if_pos ⟨x0, x1, y0, y1⟩, e1, List.getD_eq_getElem?_getD, List.getElem?_eq_getElem hx]
  rfl
theorem PicAt.put {H : Hp} {p q : Addr} {w : Nat} {rows : List (List (Option Int))} {xs : List V} {o : HO} (h : PicAt H p w rows) (hq : H q = some (.lst xs)) : PicAt (upd H q o) p w rows := by
  obtain ⟨a, b, h1, h2, h3⟩ := h
  have ne : ∀ {c : Addr} {ys : List V}, H c = some (.tup ys) -> c ≠ q := fun e z => by
    rw [z, hq] at e
    cases e
  exact ⟨a, b, by rw [z0A (ne h1)]; exact h1, by rw [z0A (ne h2)]; exact h2, by rw [z0A (ne h3)]; exact h3⟩
end L2
namespace L2
open PySem PySem.Spec PyProof.Rows G
def inB (x : V) (a b : Int) : Bool := match x with
  | .int i => decide (a <= i) && decide (i <= b)
  | _ => false
def z8z (x : V) : Bool := match x with
  | .non => true
  | x => inB x 0 15
def z4y : Sp := fun vs H Q _ => ∃ x T, vs = [x] /\ tyS H x = some T /\ Q (.bl (T == "int")) H
theorem z3B : ∀ T ∈ z6m, (if z6l T "int" = true then (!z6l T "bool") else false) = (T == "int") := by decide
def z8N : Sp := fun vs H Q _ => ∃ x a b T, vs = [x, .int a, .int b] /\ tyS H x = some T /\ Q (.bl (inB x a b)) H
def z9h : Sp := fun vs H Q _ => ∃ x T, vs = [x] /\ tyS H x = some T /\ Q (.bl (inB x 1 64)) H
def z8O : Sp := fun vs H Q _ => ∃ x T, vs = [x] /\ tyS H x = some T /\ Q (.bl (z8z x)) H
def z7v : Sp := fun vs H Q _ => ∃ (l m : Addr) (r r' : List (Option Int)), vs = [.ref l, .ref m] /\ H l = some (.lst (r.map z0P)) /\ H m = some (.lst (r'.map z0P)) /\ r.length = r'.length /\ 1 <= r.length /\ r.length <= 64 /\ Cells r /\ ∀ H', Same H H' -> Q (.bl true) H'
def z7M : Sp := fun vs H Q _ => ∃ l ps rows w h, vs = [.ref l] /\ RowsAt H l ps rows /\ Rect w h rows /\ ∀ p H', Same H H' -> H p = none -> PicAt H' p w rows -> Q (.ref p) H'
def z9i : Sp := fun vs H Q _ => ∃ l ps rows w h x y, vs = [.ref l, .int x, .int y] /\ RowsAt H l ps rows /\ Rect w h rows /\ Q (z0P (look w h rows x y)) H
end L2
namespace L2
open PySem PySem.Spec PyProof.Rows G
end L2
namespace L2
open PySem PySem.Spec PyProof.Rows G
def z90 (K : PySem.W.Frag) : Sp := fun vs H Q _ => ∃ (a : Addr) (ns : List Int) (k : Int), vs = [.ref a, .int k] /\ SqL K H a (ns.map V.int) /\ 0 <= k /\ k < 10000 /\ ∀ (z : Int) H', Same H H' -> Q (.int z) H'
def zBK (K : PySem.W.Frag) : Sp := fun vs H Q _ => ∃ (a : Addr) (ns : List Int) (p l : Addr) (ps : List Addr) (rows : List (List (Option Int))) (w h : Nat), vs = [.ref a, .ref p, .ref l] /\ SqL K H a (ns.map V.int) /\ PicAt H p w rows /\ RowsAt H l ps rows /\ Rect w h rows /\ ∀ H', Same H H' -> Q (.bl true) H'
set_option maxRecDepth 100000 in
theorem z1Y : fillsNumberSlot (.type "tuple") "mul" = pure false :=
  PySem.fillsNumberSlot_seq (id := "tuple.__mul__") (r := some (.builtin "tuple.__rmul__")) F.slot_tuple_mul.lookup (by decide +kernel) F.slot_tuple_rmul.lookup (by decide +kernel)
set_option maxRecDepth 100000 in
theorem z2i : seqRepeat? (.type "tuple") = pure (some (.builtin "tuple.__mul__")) := by
  unfold seqRepeat?
  rw [PySem.seqSlot_of (T := "tuple") (name := "__mul__") (id := "tuple.__mul__") F.slot_tuple_mul.lookup (by decide +kernel), PySem.seqSlot_of (T := "tuple") (name := "__rmul__") (id := "tuple.__rmul__") F.slot_tuple_rmul.lookup (by decide +kernel)]
  rfl
theorem z1u (a : Int) (t : Tok) (l : Addr) (items : Array Value) (n : Nat) (dd : Option Addr) (sl : Array (Option Value)) :
    Meets (Builtin.«int.__rmul__» ⟨[.int a t, .ref l], []⟩) (fun _ R s => s.heap.get? l = some ⟨.type "tuple", dd, .seq items n, sl⟩ /\ R (.ok (.ret Value.notImplemented)) s) :=
  .of_wp fun prog w A R s h => by obtain ⟨hp, g, d, tk, os⟩ := s; obtain ⟨hl, h⟩ := h; wp_walk; exact ⟨_, rfl, h⟩
theorem z3C (l : Addr) (v : Value) (n : Nat) (u : Tok) (dd : Option Addr) (sl : Array (Option Value)) :
    Meets (Builtin.«tuple.__mul__» ⟨[.ref l, .int 1 u], []⟩) (fun _ R s => s.heap.get? l = some ⟨.type "tuple", dd, .seq #[v] n, sl⟩ /\ R (.ok (.ret (.ref l))) s) :=
  .of_wp fun prog w A R s h => by
    obtain ⟨hp, g, d, tk, os⟩ := s; obtain ⟨hl, h⟩ := h
    wp_walk; exact ⟨_, rfl, h⟩
theorem z7N {α : Type} {M : Model} {A : Around} {E : Value -> Shared -> Prop} {s : Shared} {c : Prop} [Decidable c] {t f : Sem α} {Q : α -> Shared -> Prop} (n : ¬ c) (h : wpAny M A f Q E s) : wpAny M A (if c then t else f) Q E s := by
  rw [if_neg n]
  exact h
theorem z3c (v : Value) (k : Nat) : List.foldl (fun x1 x2 => x1 ++ x2) #[] (List.replicate k #[v]) = (List.replicate k v).toArray := by
  have := foldl_rep [v] k []
  rw [List.nil_append] at this
  refine Eq.trans this ?_
  congr 1
  induction k with
  | zero => rfl
  | succ k ih => rw [List.replicate_succ, List.flatten_cons, ih (foldl_rep [v] k []), List.replicate_succ]; rfl
theorem z3D (l : Addr) (v : Value) (n : Nat) (k : Int) (u : Tok) (dd : Option Addr) (sl : Array (Option Value)) (h2 : 2 <= k) (h3 : k <= 10000) :
    Meets (Builtin.«tuple.__mul__» ⟨[.ref l, .int k u], []⟩) (fun _ R s => s.heap.get? l = some ⟨.type "tuple", dd, .seq #[v] n, sl⟩ /\
      R (.ok (.ret (.ref s.heap.objs.size))) { s with heap := s.heap.push { cls := .type "tuple", data := .seq ((List.replicate k.toNat #[v]).foldl (· ++ ·) #[]) } }) :=
  .of_wp fun prog w A R s h => by
    obtain ⟨hp, g, d, tk, os⟩ := s; obtain ⟨hl, h⟩ := h
    have c1 : (decide (k < -2 ^ 63) || decide (k ≥ 2 ^ 63)) = false := by
      have : (10000 : Int) < 2 ^ 63 := by decide
      rw [decide_eq_false (by omega), decide_eq_false (by omega)]
      rfl
    have c2 : ((#[v] : Array Value).isEmpty || k == 1) = false := by
      have : (k == 1) = false := beq_false_of_ne (by omega)
      rw [this]
      rfl
    have c3 : (decide (k <= 0) || (#[v] : Array Value).isEmpty) = false := by
      rw [decide_eq_false (by omega)]
      rfl
    have c4 : ¬ (((#[v] : Array Value).size : Int) * k > (2 ^ 63 - 1) / 8) := by
      show ¬ ((1 : Int) * k > (2 ^ 63 - 1) / 8)
      omega
    have c5 : Builtin.Tuple.tupleTooMany (((#[v] : Array Value).size : Int) * k) = false := by
      show Builtin.Tuple.tupleTooMany ((1 : Int) * k) = false
      unfold Builtin.Tuple.tupleTooMany
      have z : (10000 : Int) <= (sizeLine : Int) := by decide
      exact decide_eq_false (by omega)
    wp_walk
    refine z7N (by rw [c1]; exact Bool.false_ne_true) ?_
    wp_walk
    refine z7N (by rw [c2]; exact Bool.false_ne_true) ?_
    refine z7N (by rw [c3]; exact Bool.false_ne_true) ?_
    refine z7N c4 ?_
    refine z7N (by rw [c5]; exact Bool.false_ne_true) ?_
    wp_walk
    refine z7N (by
      rw [z3c, List.size_toArray, List.length_replicate]
      have z : (10000 : Nat) <= sizeLine := by decide
      omega) ?_
    wp_walk
    exact ⟨_, rfl, h⟩
section
variable {X : Cx}
def z91 : R2 := fun x y H Q => ∃ a k v, x = .ref a /\ y = .int k /\ H a = some (.tup [v]) /\ 1 <= k /\ k <= 10000 /\ ∀ p H', Same H H' -> H' p = some (.tup (List.replicate k.toNat v)) -> Q (.ref p) H'
theorem z4z : OpR X (binaryOp .Mult) z91 := by
  intro pins s σ H x y v u Q I rx ry h
  obtain ⟨a, k, z, rfl, rfl, ha, k1, k2, q⟩ := h
  cases rx
  obtain ⟨t, rfl⟩ := ry
  obtain ⟨_, its, rv, o, ho, hc, n, hd⟩ := (show ObjOk X.prog X.w H s.heap a (.tup [z]) from I.hok a _ ha)
  obtain ⟨w', rfl, rz⟩ := Vals.one rv
  obtain ⟨oc, od, dt, sl⟩ := o
  cases (show oc = Value.type "tuple" from hc)
  cases (show dt = Data.seq _ n from hd)
  refine wpAny_binaryOp_repeat_ref (T := "tuple") (U := "int") (by decide) ⟨_, ho, rfl⟩ (fun s' => typeIs_int s' k t) z1Y F.fills_int_mul F.slot_int_rmul z2i F.slot_int_index.lookup
    (call_meets F.slot_int_rmul (typeIs_int s k t) F.entry_int_rmul (F.args_int_rmul_2 _ _) (z1u k t a _ n _ _) ⟨ho, rfl, ⟨_, ho, rfl⟩, ?_⟩)
  by_cases e : k = 1
  . subst e
    exact call_meets F.slot_tuple_mul ⟨_, ho, rfl⟩ F.entry_tuple_mul (F.args_tuple_mul_2 _ _) (z3C a w' n t od sl) ⟨ho, ⟨.ref a, H, I, rfl, q a H (Same.refl _) ha⟩⟩
  . refine call_meets F.slot_tuple_mul ⟨_, ho, rfl⟩ F.entry_tuple_mul (F.args_tuple_mul_2 _ _) (z3D a w' n k t od sl (by omega) k2) ⟨ho, ?_⟩
    rw [z3c]
    have rr : Vals (List.replicate k.toNat z) (List.replicate k.toNat w') := by
      induction k.toNat with
      | zero => exact .nil
      | succ m ih => rw [List.replicate_succ, List.replicate_succ]; exact .cons rz ih
    have hz : (List.replicate k.toNat z).length <= sizeLine := by
      rw [List.length_replicate]
      exact Nat.le_of_lt (Nat.lt_of_le_of_lt (show k.toNat <= 10000 by omega) (by decide))
    exact ⟨.ref _, upd H s.heap.objs.size (.tup (List.replicate k.toNat z)), I.laid (t' := s.toks) (fun b u e => Heap.get?_push_of_some _ e) (Nat.le_refl _) ⟨hz, _, rr, ⟨_, Heap.get?_push_size _ rfl, rfl, _, rfl⟩⟩, rfl, q _ _ (Same.new I.fresh) upd_same⟩
end
structure FunD (K : PySem.W.Frag) (x qual : Str) (st : Stmt) (f : Addr) (fd : FuncData) (T : Addr) : Prop where
  ex : ∃ (oc : Value) (od : Option Addr) (kV doc pm : Value) (an : Option Addr) (cdv ct : Value) (osl : Array (Option Value)),
    fd = PySem.W.fnOf x qual (z0D st) (z0B st) (z02 st) (.ref T) kV doc pm an cdv ct /\ K.lookup f = some ⟨oc, od, .func fd, osl⟩ /\ PySem.W.codeIn K cdv qual = true
  kp : PySem.W.keepIn K (.ref f) = true
theorem FunD.ok {P : Program} {w : World} {K : PySem.W.Frag} {mg : Str -> Option Value} {base : Heap} {x qual : Str} {st : Stmt} {f T : Addr} {fd : FuncData} {N ps : List Str} {k : Nat} {sp : Sp} (F : FunD K x qual st f fd T) (S : FnScope N ps (z02 st)) (len : ∀ vs H Q E, sp vs H Q E -> vs.length = ps.length)
    (hbody : ∀ (cdv : Value) (A : Around) (outer : List Env) (s : Shared) (H : Hp) (vs : List V) (Q : VK) (E : XK), Room k (A.deeper (envOfC qual (z02 st) s.heap.objs.size f cdv)) -> sp vs H Q E ->
      ∃ t, PSs (z4a CX0 P w K mg base N qual (z02 st) f cdv A outer s H E).nox (z0B st) t /\ t { nx := fun _ H' => Q .non H', rt := Q } (start N vs) H) : FnOk P w K mg base CX0 (k + 1) f fd ps sp := by
  obtain ⟨oc, od, kV, doc, pm, an, cdv, ct, osl, rfl, lk, hcd⟩ := F.ex
  refine z5m lk hcd S len fun A outer s H vs Q E hr hsp => ?_
  obtain ⟨t, h, q⟩ := hbody cdv A outer s H vs Q E hr hsp
  exact ⟨t, h.nox, q⟩
structure Owd (P : Program) (w : World) (K : PySem.W.Frag) (mg : Str -> Option Value) (base : Heap) (x : Str) (ps : List Str) (dvs : List V) (k : Nat) (sp : Sp) : Prop where
  ex : ∃ (f : Addr) (fd : FuncData) (ds : List Value), mg x = some (.ref f) /\ PySem.W.keepIn K (.ref f) = true /\ Binds K fd ps ds /\ Vals dvs ds /\ FnOk P w K mg base CX0 k f fd ps sp
theorem z6t {X : Cx} {k j : Nat} {ps : List Str} {sp : Sp} {dvs : List V} {x : Str} {p pos : Pos} {e : Expr} {es : List Expr} {t : TA} (O : Owd X.prog X.w X.K X.mg X.base x ps dvs k sp) (hr : Room j X.A) (hg : Gl X x) (ha : PA X (e :: es) t) (hk : k <= j := by decide) (hdb : (x == ("__debug__" : Str)) = false := by decide)
    (he : starEach (e :: es) X.env = (false, eval e X.env) :: starEach es X.env := by rfl) (hpl : (backTo pos (starEach es X.env)).any (·.1) = false := by rfl) :
    PE X (.Call (.Name x p) (e :: es) [] pos) (z3w sp dvs E0 t) := by
  obtain ⟨f, fd, ds, m, kp, b, r, F⟩ := O.ex
  exact z2E F (hr.mono hk) hg m kp b r z7p ha hdb he hpl
def z9j (sc : Scope) : Bool := sc.kind == .function && sc.names.all (fun y => y.2 != .cell && y.2 != .free && (y.2 != .local || sc.names.lookup y.1 == some .local))
section
variable {X : Cx} {sc : Scope} {cl : List (Str × Addr)} {C : Addr} {N : List Str} {fp : List Addr} {s2 : Shared} {H2 : Hp} {pn : List (Addr × Obj)} {tg l : Expr} {tl : TE}
end
structure DfD (K : PySem.W.Frag) (mg : Str -> Option Value) (x : Str) (st : Stmt) (ps : List Str) (f : Addr) (fd : FuncData) (T : Addr) : Prop where
  F : FunD K x x st f fd T
  b : Binds K fd ps []
  b1 : Binds K fd ps [.none]
  m : mg x = some (.ref f)
theorem DfD.ow {P : Program} {w : World} {K : PySem.W.Frag} {mg : Str -> Option Value} {base : Heap} {x : Str} {st : Stmt} {ps : List Str} {f T : Addr} {fd : FuncData} {k : Nat} {sp : Sp} (D : DfD K mg x st ps f fd T) (F : FnOk P w K mg base CX0 k f fd ps sp) :
    Ow P w K mg base x ps k sp := ⟨f, fd, D.m, D.F.kp, D.b, F⟩
theorem DfD.owd {P : Program} {w : World} {K : PySem.W.Frag} {mg : Str -> Option Value} {base : Heap} {x : Str} {st : Stmt} {ps : List Str} {f T : Addr} {fd : FuncData} {k : Nat} {sp : Sp} (D : DfD K mg x st ps f fd T) (F : FnOk P w K mg base CX0 k f fd ps sp) :
    Owd P w K mg base x ps [.non] k sp := ⟨f, fd, [.none], D.m, D.F.kp, D.b1, .cons rfl .nil, F⟩
theorem z6u {K : PySem.W.Frag} {x qual : Str} {st : Stmt} {f T : Addr} {oc : Value} {od an : Option Addr} {osl : Array (Option Value)} {kV doc pm cdv ct : Value} (l : K.lookup f = some ⟨oc, od, .func (PySem.W.fnOf x qual (z0D st) (z0B st) (z02 st) (.ref T) kV doc pm an cdv ct), osl⟩)
    (c : PySem.W.codeIn K cdv qual = true) (k : PySem.W.keepIn K (.ref f) = true) : FunD K x qual st f (PySem.W.fnOf x qual (z0D st) (z0B st) (z02 st) (.ref T) kV doc pm an cdv ct) T := ⟨⟨oc, od, kV, doc, pm, an, cdv, ct, osl, rfl, l, c⟩, k⟩
end L2
namespace L2
open PySem PySem.Spec PyProof.Rows G
def z92 : Sp := fun vs H Q _ => ∃ p y w h rows, vs = [.ref p, .int y] /\ PicAt H p w rows /\ Rect w h rows /\ 0 <= y /\ y < h /\ ∀ l H', Same H H' -> H l = none -> H' l = some (.lst ((rows.getD y.toNat []).map z0P)) -> Q (.ref l) H'
def z8P : Sp := fun vs H Q _ => ∃ p w h rows, vs = [.ref p] /\ PicAt H p w rows /\ Rect w h rows /\ ∀ l ps H', RowsB H H' l ps rows -> Q (.ref l) H'
def z9k : Sp := fun vs H Q _ => ∃ m : Int, vs = [.int m] /\ 0 <= m /\ Q (.int (pc m.toNat : Int)) H
def z93 : Sp := fun vs H Q _ => ∃ p w h rows, vs = [.ref p] /\ PicAt H p w rows /\ Rect w h rows /\ ∀ H', Same H H' -> Q (.int ((rows.map fun r => (z6q r : Int)).sum)) H'
def z94 : Sp := fun vs H Q _ => ∃ l ps w h rows, vs = [.ref l] /\ RowsAt H l ps rows /\ Rect w h rows /\ ∀ H', Same H H' -> Q (.int ((rows.map fun r => (z6q r : Int)).sum)) H'
end L2
namespace L2
open PySem PySem.Spec PyProof.Rows G
def z2L : Sp := fun vs H Q _ => ∃ (w h : Int) (c : Option Int), vs = [.int w, .int h, z0P c] /\ 1 <= w /\ w <= 64 /\ 1 <= h /\ h <= 64 /\ Cell c /\ ∀ p H', Same H H' -> PicAt H' p w.toNat (List.replicate h.toNat (List.replicate w.toNat c)) -> Q (.ref p) H'
theorem z3d {α : Type} (x : α) : ∀ k : Nat, (List.replicate k [x]).flatten = List.replicate k x
  | 0 => rfl
  | k + 1 => by rw [List.replicate_succ, List.flatten_cons, z3d x k, List.replicate_succ]; rfl
theorem z2j {c : Option Int} (h : Cell c) (k : Nat) : Cells (List.replicate k c) := fun d hd => by
  rw [List.eq_of_mem_replicate hd]
  exact h
end L2
namespace G
open PySem
def z6v : Nat -> Int -> Int -> List (Option Int)
  | 0, _, _ => []
  | n + 1, P, M => (if M % 2 = 1 then some (P % 16) else none) :: z6v n (P / 16) (M / 2)
def z95 : Nat -> Int -> Int -> Bool
  | 0, P, M => decide (P = 0) && decide (M = 0)
  | n + 1, P, M => (decide (M % 2 = 1) || decide (P % 16 = 0)) && z95 n (P / 16) (M / 2)
def roomI : Nat -> Int -> Int
  | 0, _ => 0
  | n + 1, M => (if M % 2 = 1 then 15 else 0) + 16 * roomI n (M / 2)
end G
namespace L2
open PySem PySem.Spec PyProof.Rows
def zAe (K : PySem.W.Frag) : R2 := fun x y H Q => ∃ a b xs ys, x = .ref a /\ y = .ref b /\ SqT K H a xs /\ SqT K H b ys /\ xs.length + ys.length <= sizeLine /\
  (xs = [] -> Q (.ref b) H) /\ (xs ≠ [] -> ys = [] -> Q (.ref a) H) /\ (xs ≠ [] -> ys ≠ [] -> ∀ p, H p = none -> Q (.ref p) (upd H p (.tup (xs ++ ys))))
section
variable {X : Cx}
def zBL (K : PySem.W.Frag) : R2 := fun x y H Q => ∃ (a b pa pb qa qb : Addr) (w h w' h' : Int) (ns ms ns' ms' : List Int), x = .ref a /\ y = .ref b /\ SqT K H a [.int w, .int h, .ref pa, .ref pb] /\ SqT K H b [.int w', .int h', .ref qa, .ref qb] /\
  SqT K H pa (ns.map V.int) /\ SqT K H pb (ms.map V.int) /\ SqT K H qa (ns'.map V.int) /\ SqT K H qb (ms'.map V.int) /\ Q (.bl ((w == w') && ((h == h') && (decide (ns = ns') && decide (ms = ms'))))) H
def z96 (i j : Int) : Prop := i.natAbs < 2 ^ 1000 /\ j.natAbs < 2 ^ 1000
theorem z3E {x : Int} {n : Nat} (h : x.natAbs < 2 ^ n) : Builtin.Int.intBits x <= n := by
  unfold Builtin.Int.intBits
  split
  . exact Nat.zero_le _
  . rename_i h0
    have hx : x.natAbs ≠ 0 := fun e => h0 (by rw [Int.natAbs_eq_zero.mp e]; rfl)
    exact (Nat.log2_lt hx).mpr h
theorem z6w : OpR X (binaryOp .Mult) (rI z96 fun i j => .int (i * j)) := opI fun _ _ _ _ _ _ _ hc q => mul_int q (IntMulOk.of_bits (Nat.le_trans (z3E hc.1) (by decide)) (Nat.le_trans (z3E hc.2) (by decide)))
end
def z9l : Sp := fun vs H Q _ => ∃ w m : Int, vs = [.int w, .int m] /\ 0 <= w /\ w <= 64 /\ 0 <= m /\ Q (.int (G.roomI w.toNat m)) H
end L2
namespace G
def tk : Nat -> List (Option Int) -> List (Option Int)
  | 0, _ => []
  | w + 1, [] => none :: tk w []
  | w + 1, c :: r => c :: tk w r
theorem z50 : ∀ (w : Nat) (r : List (Option Int)), (tk w r).length = w
  | 0, _ => rfl
  | w + 1, [] => by show (tk w []).length + 1 = w + 1; rw [z50 w]
  | w + 1, c :: r => by show (tk w r).length + 1 = w + 1; rw [z50 w]
theorem z51 : ∀ (w : Nat) (r : List (Option Int)) (i : Nat), i < w -> (tk w r)[i]? = some ((r[i]?).join)
  | 0, _, i, h => absurd h (Nat.not_lt_zero i)
  | w + 1, [], 0, _ => rfl
  | w + 1, [], i + 1, h => by
    show (tk w [])[i]? = _
    rw [z51 w [] i (by omega)]
    rfl
  | w + 1, c :: r, 0, _ => rfl
  | w + 1, c :: r, i + 1, h => by
    show (tk w r)[i]? = _
    rw [z51 w r i (by omega)]
    rfl
theorem z2k {b c p m : Int} (hb : 0 < b) (hm : 0 < m) (c0 : 0 <= c) (c1 : c < b) : (c + b * p) % (b * m) = c + b * (p % m) := by
  have e : p = p % m + m * (p / m) := (Int.emod_add_mul_ediv p m).symm
  have q0 := Int.emod_nonneg p (show m ≠ 0 by omega)
  have q1 := Int.emod_lt_of_pos p hm
  have e1 : c + b * p = (c + b * (p % m)) + b * m * (p / m) := by
    rw [Int.mul_assoc, Int.add_assoc, <- Int.mul_add, <- e]
  rw [e1, Int.add_mul_emod_self_left]
  have h0 : 0 <= b * (p % m) := Int.mul_nonneg (by omega) q0
  refine Int.emod_eq_of_lt (by omega) ?_
  have h1 : b * (p % m + 1) <= b * m := Int.mul_le_mul_of_nonneg_left (by omega) (by omega)
  rw [Int.mul_add] at h1
  omega
theorem z2M : ∀ (w : Nat) {r : List (Option Int)}, Cells r -> z09 (tk w r) = z09 r % 16 ^ w
  | 0, r, _ => by
    show (0 : Int) = z09 r % 1
    omega
  | w + 1, [], h => by
    have ih := z2M w h
    show (0 : Int) + 16 * z09 (tk w []) = 0 % 16 ^ (w + 1)
    rw [ih]
    show (0 : Int) + 16 * (0 % 16 ^ w) = _
    rw [Int.zero_emod, Int.zero_emod]
    rfl
  | w + 1, c :: r, h => by
    have ih := z2M w h.tail
    have hc := (h c List.mem_cons_self).get
    show c.getD 0 + 16 * z09 (tk w r) = (c.getD 0 + 16 * z09 r) % 16 ^ (w + 1)
    rw [ih, z3A, z2k (by decide) (z2g w) hc.1 (by omega)]
theorem z3F : ∀ (w : Nat) (r : List (Option Int)), z07 (tk w r) = z07 r % 2 ^ w
  | 0, r => by
    show (0 : Int) = z07 r % 1
    omega
  | w + 1, [] => by
    have ih := z3F w []
    show (if (none : Option Int).isSome = true then (1 : Int) else 0) + 2 * z07 (tk w []) = 0 % 2 ^ (w + 1)
    rw [ih, if_neg (by simp)]
    show (0 : Int) + 2 * (0 % 2 ^ w) = _
    rw [Int.zero_emod, Int.zero_emod]
    rfl
  | w + 1, c :: r => by
    have ih := z3F w r
    show (if c.isSome = true then (1 : Int) else 0) + 2 * z07 (tk w r) = ((if c.isSome = true then 1 else 0) + 2 * z07 r) % 2 ^ (w + 1)
    rw [ih, z4s, z2k (by decide) (z1E w) (by split <;> decide) (by split <;> decide)]
theorem z24 : ∀ (x : Nat) {r : List (Option Int)}, Cells r -> z09 (r.drop x) = z09 r / 16 ^ x
  | 0, r, _ => by
    show z09 r = z09 r / 1
    omega
  | x + 1, [], _ => by
    show (0 : Int) = 0 / 16 ^ (x + 1)
    rw [Int.zero_ediv]
  | x + 1, c :: r, h => by
    have ih := z24 x h.tail
    have hc := (h c List.mem_cons_self).get
    show z09 (r.drop x) = (c.getD 0 + 16 * z09 r) / 16 ^ (x + 1)
    rw [z3A, <- Int.ediv_ediv_of_nonneg (by decide), ih]
    congr 1
    omega
theorem z2l : ∀ (x : Nat) (r : List (Option Int)), z07 (r.drop x) = z07 r / 2 ^ x
  | 0, r => by
    show z07 r = z07 r / 1
    omega
  | x + 1, [] => by
    show (0 : Int) = 0 / 2 ^ (x + 1)
    rw [Int.zero_ediv]
  | x + 1, c :: r => by
    have ih := z2l x r
    show z07 (r.drop x) = ((if c.isSome = true then 1 else 0) + 2 * z07 r) / 2 ^ (x + 1)
    rw [z4s, <- Int.ediv_ediv_of_nonneg (by decide), ih]
    congr 1
    split <;> omega
theorem z2m (r : List (Option Int)) : ∀ k : Nat, z09 (List.replicate k none ++ r) = z09 r * 16 ^ k
  | 0 => by
    show z09 r = z09 r * 1
    omega
  | k + 1 => by
    have ih := z2m r k
    show (0 : Int) + 16 * z09 (List.replicate k none ++ r) = _
    rw [ih, z3A, <- Int.mul_assoc, <- Int.mul_assoc, Int.mul_comm (z09 r) 16]
    omega
theorem z3e (r : List (Option Int)) : ∀ k : Nat, z07 (List.replicate k none ++ r) = z07 r * 2 ^ k
  | 0 => by
    show z07 r = z07 r * 1
    omega
  | k + 1 => by
    have ih := z3e r k
    show (if (none : Option Int).isSome = true then (1 : Int) else 0) + 2 * z07 (List.replicate k none ++ r) = _
    rw [ih, z4s, <- Int.mul_assoc, <- Int.mul_assoc, Int.mul_comm (z07 r) 2, if_neg (by simp)]
    omega
def z1S (x : Int) (r : List (Option Int)) : List (Option Int) := if 0 <= x then r.drop x.toNat else List.replicate (-x).toNat none ++ r
def z6S (b at' many : Int) : Int := (if 0 <= at' then b / 2 ^ at'.toNat else b * 2 ^ (-at').toNat) % 2 ^ many.toNat
theorem z3G {x : Int} {r : List (Option Int)} (h : Cells r) : Cells (z1S x r) := by
  unfold z1S
  split
  . exact fun c hc => h c (List.mem_of_mem_drop hc)
  . intro c hc
    rcases List.mem_append.mp hc with e | e
    . rw [List.eq_of_mem_replicate e]; exact fun z q => nomatch q
    . exact h c e
theorem z52 {r : List (Option Int)} (h : Cells r) (x : Int) (w : Nat) : z6S (z09 r) (4 * x) (4 * (w : Int)) = z09 (tk w (z1S x r)) := by
  rw [z2M w (z3G h)]
  unfold z6S z1S
  have e : (4 * (w : Int)).toNat = 4 * w := by omega
  rw [e, z7K]
  by_cases hx : 0 <= x
  . have e2 : (4 * x).toNat = 4 * x.toNat := by omega
    rw [if_pos (by omega), if_pos hx, z24 _ h, e2, z7K]
  . have e2 : (-(4 * x)).toNat = 4 * (-x).toNat := by omega
    rw [if_neg (by omega), if_neg hx, z2m, e2, z7K]
theorem z5u (r : List (Option Int)) (x : Int) (w : Nat) : z6S (z07 r) x (w : Int) = z07 (tk w (z1S x r)) := by
  rw [z3F]
  unfold z6S z1S
  have e : ((w : Int)).toNat = w := by omega
  rw [e]
  by_cases hx : 0 <= x
  . rw [if_pos hx, if_pos hx, z2l]
  . rw [if_neg hx, if_neg hx, z3e]
def atR (r : List (Option Int)) (x : Int) : Option Int := if 0 <= x then (r[x.toNat]?).join else none
theorem z53 (r : List (Option Int)) (x : Int) (i : Nat) : ((z1S x r)[i]?).join = atR r (x + i) := by
  unfold z1S atR
  by_cases hx : 0 <= x
  . have e : x.toNat + i = (x + (i : Int)).toNat := by omega
    rw [if_pos hx, if_pos (by omega), List.getElem?_drop, e]
  . rw [if_neg hx]
    by_cases hi : 0 <= x + (i : Int)
    . have e : i - (-x).toNat = (x + (i : Int)).toNat := by omega
      rw [if_pos hi, List.getElem?_append_right (by rw [List.length_replicate]; omega), List.length_replicate, e]
    . rw [if_neg hi, List.getElem?_append_left (by rw [List.length_replicate]; omega), List.getElem?_replicate, if_pos (by omega)]
      rfl
theorem z54 (r : List (Option Int)) (x : Int) (w : Nat) : tk w (z1S x r) = (List.range w).map fun (i : Nat) => atR r (x + (i : Int)) := by
  refine List.ext_getElem? fun i => ?_
  by_cases hi : i < w
  . rw [z51 w _ i hi, z53, List.getElem?_map, List.getElem?_range hi]
    rfl
  . rw [List.getElem?_eq_none (by rw [z50]; omega), List.getElem?_eq_none (by rw [List.length_map, List.length_range]; omega)]
end G
namespace G
open PySem
theorem z7w (k a A d D : Nat) (ha : a < 2 ^ k) (hd : d < 2 ^ k) : (a + 2 ^ k * A) &&& (d + 2 ^ k * D) = (a &&& d) + 2 ^ k * (A &&& D) := by
  have m1 : (a + 2 ^ k * A) % 2 ^ k = a := by rw [Nat.add_mul_mod_self_left, Nat.mod_eq_of_lt ha]
  have m2 : (d + 2 ^ k * D) % 2 ^ k = d := by rw [Nat.add_mul_mod_self_left, Nat.mod_eq_of_lt hd]
  have p : 0 < 2 ^ k := Nat.pow_pos (by decide)
  have d1 : (a + 2 ^ k * A) / 2 ^ k = A := by rw [Nat.add_mul_div_left _ _ p, Nat.div_eq_of_lt ha, Nat.zero_add]
  have d2 : (d + 2 ^ k * D) / 2 ^ k = D := by rw [Nat.add_mul_div_left _ _ p, Nat.div_eq_of_lt hd, Nat.zero_add]
  have e := Nat.mod_add_div ((a + 2 ^ k * A) &&& (d + 2 ^ k * D)) (2 ^ k)
  rw [Nat.and_mod_two_pow, Nat.and_div_two_pow, m1, m2, d1, d2] at e
  exact e.symm
theorem z55 {a A d D : Int} (a0 : 0 <= a) (a1 : a < 2) (d0 : 0 <= d) (d1 : d < 2) (hA : 0 <= A) (hD : 0 <= D) : Builtin.bitAnd (a + 2 * A) (d + 2 * D) = Builtin.bitAnd a d + 2 * Builtin.bitAnd A D := by
  obtain ⟨a, rfl⟩ := Int.eq_ofNat_of_zero_le a0
  obtain ⟨d, rfl⟩ := Int.eq_ofNat_of_zero_le d0
  obtain ⟨A, rfl⟩ := Int.eq_ofNat_of_zero_le hA
  obtain ⟨D, rfl⟩ := Int.eq_ofNat_of_zero_le hD
  have t1 : ((a : Int) + 2 * (A : Int)).toNat = a + 2 ^ 1 * A := by show _ = a + 2 * A; omega
  have t2 : ((d : Int) + 2 * (D : Int)).toNat = d + 2 ^ 1 * D := by show _ = d + 2 * D; omega
  rw [PyProof.Rows.bitAnd_pp (by omega) (by omega), PyProof.Rows.bitAnd_pp a0 d0, PyProof.Rows.bitAnd_pp hA hD, t1, t2, Int.toNat_natCast, Int.toNat_natCast, Int.toNat_natCast, Int.toNat_natCast, z7w 1 a A d D (by show a < 2; omega) (by show d < 2; omega)]
  show (((a &&& d) + 2 * (A &&& D) : Nat) : Int) = _
  omega
def layR : List (Option Int) -> List (Option Int) -> List (Option Int)
  | u :: us, c :: cs => c.or u :: layR us cs
  | _, _ => []
def loI : List (Option Int) -> Nat
  | [] => 0
  | c :: r => if c.isSome = true then 0 else loI r + 1
def hiI : List (Option Int) -> Nat
  | [] => 0
  | c :: r => if hiI r = 0 then (if c.isSome = true then 1 else 0) else hiI r + 1
theorem mask_zero : ∀ {r : List (Option Int)}, z07 r = 0 ↔ ∀ c ∈ r, c = none
  | [] => ⟨(fun _ _ h => nomatch h), fun _ => rfl⟩
  | c :: r => by
    have ih := @mask_zero r
    have h := z1B r
    constructor
    . intro e d hd
      have e' : (if c.isSome = true then (1 : Int) else 0) + 2 * z07 r = 0 := e
      cases c with
      | none =>
        rw [if_neg (by simp)] at e'
        rcases List.mem_cons.mp hd with q | q
        . exact q
        . exact ih.mp (by omega) d q
      | some z =>
        rw [if_pos (show (some z).isSome = true from rfl)] at e'
        omega
    . intro a
      have c0 := a c List.mem_cons_self
      have r0 := ih.mpr fun d hd => a d (List.mem_cons_of_mem _ hd)
      show (if c.isSome = true then (1 : Int) else 0) + 2 * z07 r = 0
      rw [c0, r0]
      rfl
theorem z6T : ∀ {r : List (Option Int)}, z07 r ≠ 0 -> Builtin.bitAnd (z07 r) (z07 r - 1) = z07 r - 2 ^ loI r
  | [], h => absurd rfl h
  | none :: r, h => by
    have hm := z1B r
    have e : z07 (none :: r) = 0 + 2 * z07 r := rfl
    rw [e] at h ⊢
    have ih := @z6T r (by omega)
    have e1 : (0 : Int) + 2 * z07 r - 1 = 1 + 2 * (z07 r - 1) := by omega
    rw [e1, z55 (by decide) (by decide) (by decide) (by decide) hm.1 (by omega), ih]
    show _ = _ - 2 ^ (loI r + 1)
    rw [z4s]
    have : Builtin.bitAnd 0 1 = 0 := by rw [PyProof.Rows.bitAnd_comm, PyProof.Rows.bitAnd_zero]
    rw [this]
    omega
  | some z :: r, h => by
    have hm := z1B r
    have e : z07 (some z :: r) = 1 + 2 * z07 r := rfl
    rw [e]
    have e1 : (1 : Int) + 2 * z07 r - 1 = 0 + 2 * z07 r := by omega
    rw [e1, z55 (by decide) (by decide) (by decide) (by decide) hm.1 hm.1, PyProof.Rows.bitAnd_self]
    have : Builtin.bitAnd 1 0 = 0 := PyProof.Rows.bitAnd_zero 1
    rw [this]
    show _ = _ - 1
    omega
theorem z6x {r : List (Option Int)} (h : z07 r ≠ 0) : (Builtin.Int.intBits (Builtin.bitAnd (z07 r) (-(z07 r))) : Int) - 1 = loI r := by
  have e : -(z07 r) = Builtin.bitNot (z07 r - 1) := by unfold Builtin.bitNot; omega
  rw [e, PyProof.Rows.bitAnd_not, z6T h]
  have e2 : z07 r - (z07 r - 2 ^ loI r) = 2 ^ loI r := by omega
  rw [e2]
  unfold Builtin.Int.intBits
  have p := z1E (loI r)
  have e3 : ((2 : Int) ^ loI r).natAbs = 2 ^ loI r := by rw [<- z1k, Int.natAbs_natCast]
  rw [if_neg (by simp; omega), e3, Nat.log2_two_pow]
  omega
def isP (r : List (Option Int)) (i : Nat) : Prop := ((r[i]?).join).isSome = true
theorem z6y : ∀ {r : List (Option Int)}, z07 r ≠ 0 -> isP r (loI r) /\ ∀ i, isP r i -> loI r <= i
  | [], h => absurd rfl h
  | none :: r, h => by
    have e : z07 (none :: r) = 0 + 2 * z07 r := rfl
    rw [e] at h
    obtain ⟨h1, h2⟩ := @z6y r (by omega)
    refine ⟨h1, fun i hi => ?_⟩
    cases i with
    | zero => cases hi
    | succ i => exact Nat.succ_le_succ (h2 i hi)
  | some z :: r, _ => ⟨rfl, fun i _ => Nat.zero_le _⟩
end G
namespace G
theorem z6U {r : List (Option Int)} {i : Nat} (h : isP r i) : i < r.length := by
  unfold isP at h
  cases hi : r[i]? with
  | none => rw [hi] at h; cases h
  | some c => exact (List.getElem?_eq_some_iff.mp hi).1
theorem isP_mask {r : List (Option Int)} : z07 r ≠ 0 ↔ ∃ i, isP r i := by
  constructor
  . intro h
    exact ⟨_, (z6y h).1⟩
  . rintro ⟨i, hi⟩ e
    have a := mask_zero.mp e
    unfold isP at hi
    cases hr : r[i]? with
    | none => rw [hr] at hi; cases hi
    | some c =>
      rw [hr, a c (List.mem_of_getElem? hr)] at hi
      cases hi
def z56 (w : Nat) (rows : List (List (Option Int))) : List (Option Int) := rows.foldl layR (List.replicate w none)
def anyR (rows : List (List (Option Int))) : List (Option Int) := rows.map fun r => if z07 r = 0 then none else some 0
def zBM (rows : List (List (Option Int))) (n : Nat) : List Nat := (List.range n).filter fun y => decide (zR rows y ≠ 0) where
  zR (rows : List (List (Option Int))) (y : Nat) : Int := z07 ((rows[y]?).getD [])
end G
namespace L2
open G
abbrev Rws := List (List (Option Int))
def z11 (rows : Rws) (x y : Nat) : Option Int := (((rows[y]?).getD [])[x]?).join
def z2n (w h : Nat) (f : Nat -> Nat -> Option Int) : Rws := (List.range h).map fun y => (List.range w).map fun x => f x y
theorem z5v (w h : Nat) (f : Nat -> Nat -> Option Int) : (z2n w h f).length = h := by unfold z2n; rw [List.length_map, List.length_range]
theorem Rect.cell {w h : Nat} {rows : Rws} (R : Rect w h rows) (x y : Nat) : Cell (z11 rows x y) := by
  unfold z11
  cases hy : rows[y]? with
  | none => exact fun z e => nomatch e
  | some r =>
    show Cell ((r[x]?).join)
    cases hx : r[x]? with
    | none => exact fun z e => nomatch e
    | some c => exact (R.row r (List.mem_of_getElem? hy)).2 c (List.mem_of_getElem? hx)
theorem z2o {w h : Nat} {f : Nat -> Nat -> Option Int} (h1 : 1 <= h) (h2 : h <= 64) (w1 : 1 <= w) (w2 : w <= 64) (hc : ∀ x y, Cell (f x y)) : Rect w h (z2n w h f) :=
  ⟨z5v w h f, h1, h2, w1, w2, fun r hr => by
    unfold z2n at hr
    obtain ⟨y, _, rfl⟩ := List.mem_map.mp hr
    refine ⟨by rw [List.length_map, List.length_range], fun c hc' => ?_⟩
    obtain ⟨x, _, rfl⟩ := List.mem_map.mp hc'
    exact hc x y⟩
def z7x (w h : Nat) (rows : Rws) : Rws := z2n h w fun x y => z11 rows y (h - 1 - x)
def zAf (w h : Nat) (rows : Rws) : Rws := z2n w h fun x y => z11 rows (w - 1 - x) y
def z9m (w h : Nat) (rows : Rws) : Rws := z2n w h fun x y => z11 rows x (h - 1 - y)
theorem Rect.turn {w h : Nat} {rows : Rws} (R : Rect w h rows) : Rect h w (z7x w h rows) := z2o R.w1 R.w2 R.h1 R.h2 fun _ _ => R.cell _ _
theorem Rect.upd {w h : Nat} {rows : Rws} (R : Rect w h rows) : Rect w h (z9m w h rows) := z2o R.h1 R.h2 R.w1 R.w2 fun _ _ => R.cell _ _
end L2
namespace L2
open PySem PySem.Spec PyProof.Rows G
def z97 (i j : Int) : Prop := 0 <= j /\ j <= 1000000 /\ i.natAbs < 2 ^ 1000
theorem zAg {X : Cx} : OpR X (binaryOp .LShift) (rI z97 fun i j => .int (i * 2 ^ j.toNat)) := opI fun i j _ _ _ _ _ hc q => lshift_int hc.1 (by
  have hb : Builtin.Int.intBits i <= 1000 := z3E hc.2.2
  have h2 := hc.2.1
  omega) q
def rowAt (rows : List (List (Option Int))) (y : Int) : List (Option Int) := if 0 <= y then (rows[y.toNat]?).getD [] else []
def zAt (zs : List Int) (y : Int) : Int := if 0 <= y then (zs[y.toNat]?).getD 0 else 0
theorem z3H (f : List (Option Int) -> Int) (h0 : f [] = 0) (rows : List (List (Option Int))) (y : Int) : zAt (rows.map f) y = f (rowAt rows y) := by
  unfold zAt rowAt
  split
  . rw [List.getElem?_map]
    cases rows[y.toNat]? with
    | none => exact h0.symm
    | some r => rfl
  . exact h0.symm
theorem z3I {w h : Nat} {rows : List (List (Option Int))} (R : Rect w h rows) (y : Int) : Cells (rowAt rows y) := by
  unfold rowAt
  split
  . cases hr : rows[y.toNat]? with
    | none => exact fun _ h => nomatch h
    | some r => exact (R.row r (List.mem_of_getElem? hr)).2
  . exact fun _ h => nomatch h
theorem z25 {w h : Nat} {rows : List (List (Option Int))} (R : Rect w h rows) (x y : Int) : look w h rows x y = atR (rowAt rows y) x := by
  have hR := R.len
  unfold look atR rowAt
  by_cases hy : 0 <= y
  . rw [if_pos hy]
    by_cases hy2 : y < h
    . have hl : y.toNat < rows.length := by omega
      have hw := (R.row0 hl).1
      have eg : rows.getD y.toNat [] = rows[y.toNat]'hl := by rw [List.getD_eq_getElem?_getD, List.getElem?_eq_getElem hl]; rfl
      rw [eg, List.getElem?_eq_getElem hl]
      show (if 0 <= x /\ x < w /\ 0 <= y /\ y < h then (rows[y.toNat]'hl).getD x.toNat none else none) = if 0 <= x then ((rows[y.toNat]'hl)[x.toNat]?).join else none
      by_cases hx : 0 <= x
      . rw [if_pos hx]
        by_cases hx2 : x < w
        . rw [if_pos ⟨hx, hx2, hy, hy2⟩, List.getD_eq_getElem?_getD, List.getElem?_eq_getElem (by omega)]
          rfl
        . rw [if_neg (fun h => hx2 h.2.1), List.getElem?_eq_none (by omega)]
          rfl
      . rw [if_neg hx, if_neg (fun h => hx h.1)]
    . rw [if_neg (fun h => hy2 h.2.2.2), List.getElem?_eq_none (show rows.length <= y.toNat by omega)]
      show none = if 0 <= x then (([] : List (Option Int))[x.toNat]?).join else none
      split <;> rfl
  . rw [if_neg hy, if_neg (fun h => hy h.2.2.1)]
    split <;> rfl
def z1v (rows : List (List (Option Int))) (x y : Int) (w : Nat) : List (Option Int) := (List.range w).map fun (i : Nat) => atR (rowAt rows y) (x + (i : Int))
def cutRows (rows : List (List (Option Int))) (x y : Int) (w h : Nat) : List (List (Option Int)) := (List.range h).map fun (j : Nat) => z1v rows x (y + (j : Int)) w
theorem z3f (rows : List (List (Option Int))) (x y : Int) (w : Nat) : (z1v rows x y w).length = w := by unfold z1v; rw [List.length_map, List.length_range]
theorem z1l (rows : List (List (Option Int))) (x y : Int) (w h : Nat) : (cutRows rows x y w h).length = h := by unfold cutRows; rw [List.length_map, List.length_range]
theorem z3x {w h : Nat} {rows : List (List (Option Int))} (R : Rect w h rows) (x y : Int) (w' : Nat) : z09 (z1v rows x y w') = z6S (zAt (rows.map z09) y) (4 * x) (4 * (w' : Int)) := by
  rw [z3H z09 rfl, z52 (z3I R y), z54]
  rfl
theorem z57 (rows : List (List (Option Int))) (x y : Int) (w' : Nat) : z07 (z1v rows x y w') = z6S (zAt (rows.map z07) y) x (w' : Int) := by
  rw [z3H z07 rfl, z5u, z54]
  rfl
theorem z6z {w h : Nat} {rows : List (List (Option Int))} (R : Rect w h rows) {x : Int} {w' : Nat} (hx : x <= -(w' : Int) \/ (w : Int) <= x) (y : Int) (h' : Nat) : cutRows rows x y w' h' = List.replicate h' (List.replicate w' none) := by
  refine List.eq_replicate_iff.mpr ⟨z1l _ _ _ _ _, fun r hr => ?_⟩
  unfold cutRows at hr
  obtain ⟨j, _, rfl⟩ := List.mem_map.mp hr
  refine List.eq_replicate_iff.mpr ⟨z3f _ _ _ _, fun c hc => ?_⟩
  unfold z1v at hc
  obtain ⟨i, hi, rfl⟩ := List.mem_map.mp hc
  have hi' : i < w' := List.mem_range.mp hi
  rw [<- z25 R]
  unfold look
  rw [if_neg (by omega)]
theorem z2p {w h : Nat} {rows : List (List (Option Int))} (R : Rect w h rows) (f : List (Option Int) -> Int) (h0 : f [] = 0) (hf : ∀ r, Cells r -> r.length = w -> 0 <= f r /\ f r < 2 ^ 256) (y : Int) : 0 <= zAt (rows.map f) y /\ zAt (rows.map f) y < 2 ^ 256 := by
  rw [z3H f h0]
  unfold rowAt
  split
  . cases hr : rows[y.toNat]? with
    | none => show 0 <= f [] /\ f [] < 2 ^ 256; rw [h0]; exact ⟨by decide, by decide⟩
    | some r => exact hf r (R.row r (List.mem_of_getElem? hr)).2 (R.row r (List.mem_of_getElem? hr)).1
  . rw [h0]; exact ⟨by decide, by decide⟩
theorem z2q {n : Nat} (h : n <= 64) : (16 : Int) ^ n <= 2 ^ 256 /\ (2 : Int) ^ n <= 2 ^ 256 := by
  have key : ∀ {a b : Nat}, a <= b -> (2 : Int) ^ a <= 2 ^ b := fun {a b} hab => by
    rw [<- z1k, <- z1k]
    exact Int.ofNat_le.mpr (Nat.pow_le_pow_right (by decide) hab)
  exact ⟨by rw [<- z7K]; exact key (by omega), key (by omega)⟩
theorem z2r {w h : Nat} {rows : List (List (Option Int))} (R : Rect w h rows) (y : Int) : 0 <= zAt (rows.map z09) y /\ zAt (rows.map z09) y < 2 ^ 256 :=
  z2p R z09 rfl (fun r hc hl => by
    have h1 := z2K hc
    have h2 := (z2q (n := r.length) (by have := R.w2; omega)).1
    omega) y
theorem z3J {w h : Nat} {rows : List (List (Option Int))} (R : Rect w h rows) (y : Int) : 0 <= zAt (rows.map z07) y /\ zAt (rows.map z07) y < 2 ^ 256 :=
  z2p R z07 rfl (fun r hc hl => by
    have h1 := z1B r
    have h2 := (z2q (n := r.length) (by have := R.w2; omega)).2
    omega) y
theorem z58 {b : Int} {m : Nat} (h : 0 <= b) : Builtin.bitAnd b (1 * 2 ^ m - 1) = b % 2 ^ m := by
  obtain ⟨n, rfl⟩ := Int.eq_ofNat_of_zero_le h
  have p := z1E m
  have e : (1 : Int) * 2 ^ m - 1 = ((2 ^ m - 1 : Nat) : Int) := by
    have := Nat.pow_pos (n := m) (show 0 < 2 by decide)
    rw [Int.ofNat_sub (by omega), z1k]
    omega
  rw [e, PyProof.Rows.bitAnd_pp (Int.natCast_nonneg _) (Int.natCast_nonneg _), Int.toNat_natCast, Int.toNat_natCast, Nat.and_two_pow_sub_one_eq_mod, Int.natCast_emod, z1k]
def z2s : Sp := fun vs H Q _ => ∃ (t : Addr) (zs : List Int) (y : Int), vs = [.ref t, .int y] /\ H t = some (.tup (zs.map V.int)) /\ Q (.int (zAt zs y)) H
def z2t : Sp := fun vs H Q _ => ∃ b a m : Int, vs = [.int b, .int a, .int m] /\ 0 <= b /\ b < 2 ^ 256 /\ -1000 <= a /\ a <= 1000 /\ 0 <= m /\ m <= 1000 /\ Q (.int (z6S b a m)) H
def z7y : Sp := fun vs H Q _ => ∃ p x y w h rows w' h', vs = [.ref p, .int x, .int y, .int w', .int h'] /\ PicAt H p w rows /\ Rect w h rows /\ 1 <= w' /\ w' <= 64 /\ 1 <= h' /\ h' <= 64 /\
  ∀ q H', Same H H' -> PicAt H' q w'.toNat (cutRows rows x y w'.toNat h'.toNat) -> Q (.ref q) H'
end L2
namespace L2
open PySem PySem.Spec PyProof.Rows G
structure Made (H H2 : Hp) (f : Nat -> List (Option Int)) (i : Nat) (qs : List Addr) : Prop where
  same : Same H H2
  len : qs.length = i
  fr : ∀ q ∈ qs, H q = none
  at' : ∀ (j : Nat) q, qs[j]? = some q -> H2 q = some (.lst ((f j).map z0P))
  nd : qs.Nodup
theorem Made.nil {H : Hp} {f : Nat -> List (Option Int)} : Made H H f 0 [] := ⟨Same.refl _, rfl, (fun _ h => nomatch h), (fun _ _ h => nomatch h), List.nodup_nil⟩
theorem Made.push {H H2 H3 : Hp} {f : Nat -> List (Option Int)} {i : Nat} {qs : List Addr} {l : Addr} (M : Made H H2 f i qs) (s : Same H2 H3) (n : H2 l = none) (g : H3 l = some (.lst ((f i).map z0P))) : Made H H3 f (i + 1) (qs ++ [l]) where
  same := M.same.trans s
  len := by rw [List.length_append, M.len]; rfl
  fr := fun q hq => by
    rcases List.mem_append.mp hq with h | h
    . exact M.fr q h
    . rw [List.mem_singleton.mp h]
      exact M.same.free n
  at' := fun j q e => by
    have hl := M.len
    by_cases hj : j < qs.length
    . rw [List.getElem?_append_left hj] at e
      exact s _ _ (M.at' j q e)
    . rw [List.getElem?_append_right (by omega)] at e
      cases hk : j - qs.length with
      | zero =>
        rw [hk] at e
        cases e
        have ej : j = i := by omega
        rw [ej]
        exact g
      | succ n =>
        rw [hk] at e
        cases e
  nd := by
    refine List.nodup_append.mpr ⟨M.nd, by simp, fun q hq r hr e => ?_⟩
    rw [List.mem_singleton.mp hr] at e
    obtain ⟨j, hj, ej⟩ := List.mem_iff_getElem.mp hq
    have := M.at' j q (by rw [List.getElem?_eq_getElem hj, ej])
    rw [e, n] at this
    cases this
theorem Made.rows {H H2 : Hp} {f : Nat -> List (Option Int)} {n : Nat} {qs : List Addr} {l : Addr} (M : Made H H2 f n qs) (nl : H2 l = none) : RowsB H (upd H2 l (.lst (qs.map V.ref))) l qs ((List.range n).map f) where
  same := M.same.trans (Same.new nl)
  fl := M.same.free nl
  fp := fun p hp => ⟨M.fr p hp, fun e => by
    obtain ⟨j, hj, ej⟩ := List.mem_iff_getElem.mp hp
    have := M.at' j p (by rw [List.getElem?_eq_getElem hj, ej])
    rw [e, nl] at this
    cases this⟩
  rat := ⟨upd_same, by rw [M.len, List.length_map, List.length_range], fun i p r e1 e2 => by
    have hi : i < n := by
      have := (List.getElem?_eq_some_iff.mp e1).1
      have := M.len
      omega
    rw [List.getElem?_map, List.getElem?_range hi] at e2
    cases e2
    exact (Same.new nl) _ _ (M.at' i p e1)⟩
theorem z26 {α : Type} (f : Nat -> α) (i : Nat) : (List.range (i + 1)).map f = (List.range i).map f ++ [f i] := by
  rw [List.range_succ, List.map_append]
  rfl
theorem PicAt.of {H : Hp} {p : Addr} {w : Nat} {rows rows' : List (List (Option Int))} (h : PicAt H p w rows) (e : rows = rows') : PicAt H p w rows' := e ▸ h
def zBN : Sp := fun vs H Q _ => ∃ (l : Addr) (ps : List Addr) (rows : List (List (Option Int))) (w h : Nat), vs = [.int (w : Int), .ref l] /\ RowsAt H l ps rows /\ Rect w h rows /\ ∀ p H', Same H H' -> H p = none -> PicAt H' p w rows -> Q (.ref p) H'
def z98 : Sp := fun vs H Q _ => ∃ (l : Addr) (x : Nat) (ps : List Addr) (rows : List (List (Option Int))) (w h : Nat), vs = [.ref l, .int (x : Int)] /\ RowsAt H l ps rows /\ Rect w h rows /\ x < w /\ ∀ l' H', Same H H' -> H l' = none -> H' l' = some (.lst (((List.range h).map fun i => z11 rows x (h - 1 - i)).map z0P)) -> Q (.ref l') H'
def z8Q : Sp := fun vs H Q _ => ∃ p w h rows, vs = [.ref p] /\ PicAt H p w rows /\ Rect w h rows /\ ∀ q H', Same H H' -> PicAt H' q h (z7x w h rows) -> Q (.ref q) H'
def z7O : Sp := fun vs H Q _ => ∃ p w h rows, vs = [.ref p] /\ PicAt H p w rows /\ Rect w h rows /\ ∀ q H', Same H H' -> PicAt H' q w (zAf w h rows) -> Q (.ref q) H'
def z7z : Sp := fun vs H Q _ => ∃ p w h rows, vs = [.ref p] /\ PicAt H p w rows /\ Rect w h rows /\ ∀ q H', Same H H' -> PicAt H' q w (z9m w h rows) -> Q (.ref q) H'
theorem RowsAt.cell {H : Hp} {l : Addr} {ps : List Addr} {rows : List (List (Option Int))} {w h : Nat} (a : RowsAt H l ps rows) (R : Rect w h rows) {x y : Nat} (hx : x < w) (hy : y < h) :
    ∃ p xs, ps[y]? = some p /\ L2.atI (ps.map V.ref) (y : Int) = some (.ref p) /\ H p = some (.lst xs) /\ L2.atI xs (x : Int) = some (z0P (z11 rows x y)) := by
  have hR := R.len
  have hl : y < rows.length := by omega
  obtain ⟨p, e0, g⟩ := a.at hl
  have e1 : L2.atI (ps.map V.ref) (y : Int) = some (.ref p) := z0d (by rw [List.getElem?_map, e0]; rfl)
  have hw := (R.row0 hl).1
  refine ⟨p, _, e0, e1, g, z0d ?_⟩
  have e : z11 rows x y = (rows[y]'hl)[x]'(by omega) := by
    unfold z11
    rw [List.getElem?_eq_getElem hl]
    show ((rows[y]'hl)[x]?).join = _
    rw [List.getElem?_eq_getElem (by omega)]
    rfl
  rw [List.getElem?_map, List.getElem?_eq_getElem (by omega), e]
  rfl
abbrev zAh (h : Heap) (T : Addr) (x y v : Value) : Prop := h.get? T = some { cls := .type "tuple", data := .seq #[x, y, v] }
structure Ap3 (z TI TO i1 i2 i3 l1 l2 l3 : Addr) : Prop where
  TIz : TI ≠ z
  TOz : TO ≠ z
  i1z : i1 ≠ z
  i2z : i2 ≠ z
  i3z : i3 ≠ z
  TITO : TI ≠ TO
  TIi1 : TI ≠ i1
  TIi2 : TI ≠ i2
  TIi3 : TI ≠ i3
  TOi1 : TO ≠ i1
  TOi2 : TO ≠ i2
  TOi3 : TO ≠ i3
  i12 : i1 ≠ i2
  i13 : i1 ≠ i3
  i23 : i2 ≠ i3
  l1z : l1 ≠ z
  l2z : l2 ≠ z
  l3z : l3 ≠ z
  l2i1 : l2 ≠ i1
  l2TO : l2 ≠ TO
  l3i1 : l3 ≠ i1
  l3i2 : l3 ≠ i2
  l3TO : l3 ≠ TO
section
variable {prog : Program} {w : World} {A : Around} {E : Value -> Shared -> Prop} {s : Shared}
abbrev zw1 (h : Heap) (l1 : Addr) : Heap := h.push { cls := .type "tuple_iterator", data := .fields #[.ref l1, .int 0 0] }
abbrev zw2 (h : Heap) (l1 l2 : Addr) : Heap := (zw1 h l1).push { cls := .type "tuple_iterator", data := .fields #[.ref l2, .int 0 0] }
abbrev zw3 (h : Heap) (l1 l2 l3 : Addr) : Heap := (zw2 h l1 l2).push { cls := .type "tuple_iterator", data := .fields #[.ref l3, .int 0 0] }
abbrev zw4 (h : Heap) (l1 l2 l3 : Addr) : Heap := (zw3 h l1 l2 l3).push { cls := .type "tuple", data := .seq #[.ref h.objs.size, .ref (zw1 h l1).objs.size, .ref (zw2 h l1 l2).objs.size] }
abbrev zw5 (h : Heap) (l1 l2 l3 : Addr) : Heap := (zw4 h l1 l2 l3).push { cls := .type "tuple", data := .seq #[.none, .none, .none] }
abbrev zw6 (h : Heap) (l1 l2 l3 : Addr) : Heap := (zw5 h l1 l2 l3).push { cls := .type "zip", data := .fields #[.none, .bool false, .bool false, .ref (zw3 h l1 l2 l3).objs.size, .ref (zw4 h l1 l2 l3).objs.size] }
end
def Itw (K : PySem.W.Frag) (a b c : Addr) (xs ys zs : List V) : It :=
  ⟨fun i H => SqT K H a xs /\ SqT K H b ys /\ SqT K H c zs /\ i < xs.length /\ i < ys.length /\ i < zs.length, fun i H x H' => ∃ T u v r, H T = none /\ x = .ref T /\ H' = upd H T (.tup [u, v, r]) /\ xs[i]? = some u /\ ys[i]? = some v /\ zs[i]? = some r,
    fun i H => SqT K H a xs /\ xs.length <= i⟩
section
variable {X : Cx}
def zAi (K : PySem.W.Frag) (ta : TA) : TI := fun σ H R => ta σ H fun vs H1 => ∃ a b c xs ys zs, vs = [.ref a, .ref b, .ref c] /\ SqT K H1 a xs /\ SqT K H1 b ys /\ SqT K H1 c zs /\ R (Itw K a b c xs ys zs) H1
end
section
variable {X : Cx}
theorem z70 : MtR X "int.bit_length" (fun x xs H Q => ∃ i : Int, x = .int i /\ xs = [] /\ Q (.int (Builtin.Int.intBits i : Int)) H) := by
  intro pins s σ H x xs v us Q I rx rv h
  obtain ⟨i, rfl, rfl, q⟩ := h
  obtain ⟨t, rfl⟩ := rx
  cases rv
  exact call_gives PySem.F.slot_int_bit_length (typeIs_int s i t) PySem.F.entry_int_bit_length (PySem.F.args_int_bit_length_1 _) (AutoIntG2.int_bit_length_int_0 i t) (show EP X pins σ Q _ _ from ⟨.int _, H, I.tok _, ⟨_, rfl⟩, q⟩)
def zBO (K : PySem.W.Frag) : R2 := fun x y H Q => ∃ (a b : Addr) (xs : List V), x = .ref a /\ y = .ref b /\ SqL K H a xs /\ SqL K H b [] /\ Q (.bl (decide (xs.length = 0))) H
end
structure Df2 (K : PySem.W.Frag) (mg : Str -> Option Value) (x : Str) (st : Stmt) (ps : List Str) (f : Addr) (fd : FuncData) (T : Addr) (d e : Int) : Prop where
  F : FunD K x x st f fd T
  b : Binds K fd ps []
  b1 : ∃ t, Binds K fd ps [.int e t]
  b2 : ∃ t u, Binds K fd ps [.int d t, .int e u]
  m : mg x = some (.ref f)
section
variable {P : Program} {w : World} {K : PySem.W.Frag} {mg : Str -> Option Value} {base : Heap} {x : Str} {st : Stmt} {ps : List Str} {f T : Addr} {fd : FuncData} {k : Nat} {sp : Sp} {d e : Int}
theorem Df2.ow (D : Df2 K mg x st ps f fd T d e) (F : FnOk P w K mg base CX0 k f fd ps sp) : Ow P w K mg base x ps k sp := ⟨f, fd, D.m, D.F.kp, D.b, F⟩
end
end L2
namespace L2
open PySem PySem.Spec PyProof.Rows G
def z71 : Sp := fun vs H Q _ => ∃ w lo up m : Int, vs = [.int w, .int lo, .int up, .int m] /\ 0 <= w /\ w <= 64 /\ 0 <= m /\ Q (.int (Builtin.bitOr (Builtin.bitAnd lo (Builtin.bitNot (roomI w.toNat m))) up)) H
def z59 (us cs : Rws) : Rws := List.zipWith layR us cs
def llR (w w2 h2 : Nat) (rows rows2 : Rws) (x y : Int) (j : Nat) : List (Option Int) := (List.range w).map fun (i : Nat) => (look w2 h2 rows2 ((i : Int) - x) ((j : Int) - y)).or (z11 rows i j)
def z9n : Sp := fun vs H Q _ => ∃ (p o : Addr) (x y : Int) (w h w2 h2 : Nat) (rows rows2 : Rws), vs = [.ref p, .ref o, .int x, .int y] /\ PicAt H p w rows /\ Rect w h rows /\ PicAt H o w2 rows2 /\ Rect w2 h2 rows2 /\
  ∀ q H', Same H H' -> PicAt H' q w (z59 rows (cutRows rows2 (-x) (-y) w h)) -> Q (.ref q) H'
def z99 : Sp := fun vs H Q _ => ∃ (l m : Addr) (x y : Int) (w h w2 h2 : Nat) (ps ps2 : List Addr) (rows rows2 : Rws), vs = [.ref l, .ref m, .int x, .int y] /\ RowsAt H l ps rows /\ Rect w h rows /\ RowsAt H m ps2 rows2 /\ Rect w2 h2 rows2 /\
  ∀ l' ps' H', Same H H' -> RowsAt H' l' ps' (z59 rows (cutRows rows2 (-x) (-y) w h)) -> Q (.ref l') H'
def z9o : Sp := fun vs H Q _ => ∃ (p : Addr) (w h : Nat) (rows : Rws), vs = [.ref p] /\ PicAt H p w rows /\ Rect w h rows /\ Q (.int (z07 (z56 w rows))) H
def z9p (w : Nat) (rows : Rws) : Option (List Int) := if z07 (z56 w rows) = 0 then none else some [(loI (z56 w rows) : Int), (loI (anyR rows) : Int), (hiI (z56 w rows) : Int) - (loI (z56 w rows) : Int), (hiI (anyR rows) : Int) - 1 - (loI (anyR rows) : Int) + 1]
def BoxV (H : Hp) (v : V) : Option (List Int) -> Prop
  | none => v = .non
  | some zs => ∃ t, v = .ref t /\ H t = some (.tup (zs.map V.int))
theorem BoxV.mono {H H' : Hp} {v : V} {b : Option (List Int)} (s : Same H H') (h : BoxV H v b) : BoxV H' v b := by
  cases b with
  | none => exact h
  | some zs => obtain ⟨t, e, g⟩ := h; exact ⟨t, e, s _ _ g⟩
def zAj : Sp := fun vs H Q _ => ∃ (p : Addr) (w h : Nat) (rows : Rws), vs = [.ref p] /\ PicAt H p w rows /\ Rect w h rows /\ ∀ v H', Same H H' -> BoxV H' v (z9p w rows) -> Q v H'
def z9q : Sp := fun vs H Q _ => ∃ (l : Addr) (ps : List Addr) (w h : Nat) (rows : Rws), vs = [.ref l] /\ RowsAt H l ps rows /\ Rect w h rows /\ ∀ v H', Same H H' -> BoxV H' v (z9p w rows) -> Q v H'
def pt (rows : Rws) (x y : Nat) : Prop := (z11 rows x y).isSome = true
theorem z9A {w h : Nat} {rows : Rws} (R : Rect w h rows) {x y : Nat} (p : pt rows x y) : x < w /\ y < h := by
  have hR := R.len
  unfold pt z11 at p
  cases hr : rows[y]? with
  | none =>
    rw [hr] at p
    have p' : ((([] : List (Option Int))[x]?).join).isSome = true := p
    cases x <;> cases p'
  | some r =>
    rw [hr] at p
    have hw := (R.row r (List.mem_of_getElem? hr)).1
    have hy := (List.getElem?_eq_some_iff.mp hr).1
    have hx := z6U (r := r) (i := x) p
    omega
structure Gone (w : Nat) (rows : Rws) (y x : Nat) (A D : List Int) : Prop where
  len : A.length = D.length
  small : A.length <= y * w + x
  a : ∀ z, z ∈ A ↔ ∃ x' y' : Nat, (y' < y \/ (y' = y /\ x' < x)) /\ pt rows x' y' /\ z = (x' : Int)
  d : ∀ z, z ∈ D ↔ ∃ x' y' : Nat, (y' < y \/ (y' = y /\ x' < x)) /\ pt rows x' y' /\ z = (y' : Int)
theorem Gone.nil {w : Nat} {rows : Rws} : Gone w rows 0 0 [] [] :=
  ⟨rfl, Nat.zero_le _, fun z => ⟨(fun h => nomatch h), fun ⟨x', y', h, _⟩ => by omega⟩, fun z => ⟨(fun h => nomatch h), fun ⟨x', y', h, _⟩ => by omega⟩⟩
theorem Gone.hole {w : Nat} {rows : Rws} {y x : Nat} {A D : List Int} (g : Gone w rows y x A D) (n : z11 rows x y = none) : Gone w rows y (x + 1) A D := by
  have np : ¬ pt rows x y := fun p => by unfold pt at p; rw [n] at p; cases p
  have key : ∀ x' y' : Nat, pt rows x' y' -> ((y' < y \/ (y' = y /\ x' < x)) ↔ (y' < y \/ (y' = y /\ x' < x + 1))) := fun x' y' p => by
    constructor
    . rintro (h | ⟨h1, h2⟩)
      . exact .inl h
      . exact .inr ⟨h1, by omega⟩
    . rintro (h | ⟨h1, h2⟩)
      . exact .inl h
      . by_cases e : x' = x
        . rw [e, h1] at p
          exact absurd p np
        . exact .inr ⟨h1, by omega⟩
  refine ⟨g.len, by have := g.small; omega, fun z => (g.a z).trans ⟨?_, ?_⟩, fun z => (g.d z).trans ⟨?_, ?_⟩⟩
  all_goals
    rintro ⟨x', y', h, p, e⟩
    exact ⟨x', y', by first | exact (key x' y' p).mp h | exact (key x' y' p).mpr h, p, e⟩
theorem Gone.put {w : Nat} {rows : Rws} {y x : Nat} {A D : List Int} (g : Gone w rows y x A D) {c : Int} (n : z11 rows x y = some c) : Gone w rows y (x + 1) (A ++ [(x : Int)]) (D ++ [(y : Int)]) := by
  have p0 : pt rows x y := by unfold pt; rw [n]; rfl
  have l := g.len
  refine ⟨by rw [List.length_append, List.length_append, l]; rfl, by rw [List.length_append]; have := g.small; show _ + 1 <= _; omega, fun z => ?_, fun z => ?_⟩
  . rw [List.mem_append, g.a z, List.mem_singleton]
    constructor
    . rintro (⟨x', y', h, p, e⟩ | e)
      . exact ⟨x', y', by omega, p, e⟩
      . exact ⟨x, y, by omega, p0, e⟩
    . rintro ⟨x', y', h, p, e⟩
      by_cases q : y' < y \/ (y' = y /\ x' < x)
      . exact .inl ⟨x', y', q, p, e⟩
      . have : x' = x := by omega
        rw [this] at e
        exact .inr e
  . rw [List.mem_append, g.d z, List.mem_singleton]
    constructor
    . rintro (⟨x', y', h, p, e⟩ | e)
      . exact ⟨x', y', by omega, p, e⟩
      . exact ⟨x, y, by omega, p0, e⟩
    . rintro ⟨x', y', h, p, e⟩
      by_cases q : y' < y \/ (y' = y /\ x' < x)
      . exact .inl ⟨x', y', q, p, e⟩
      . have : y' = y := by omega
        rw [this] at e
        exact .inr e
theorem Gone.row {w h : Nat} {rows : Rws} (R : Rect w h rows) {y : Nat} {A D : List Int} (g : Gone w rows y w A D) : Gone w rows (y + 1) 0 A D := by
  have key : ∀ x' y' : Nat, pt rows x' y' -> ((y' < y \/ (y' = y /\ x' < w)) ↔ (y' < y + 1 \/ (y' = y + 1 /\ x' < 0))) := fun x' y' p => by
    have := (z9A R p).1
    omega
  refine ⟨g.len, by have := g.small; rw [Nat.add_mul]; omega, fun z => (g.a z).trans ⟨?_, ?_⟩, fun z => (g.d z).trans ⟨?_, ?_⟩⟩
  all_goals
    rintro ⟨x', y', h, p, e⟩
    exact ⟨x', y', by first | exact (key x' y' p).mp h | exact (key x' y' p).mpr h, p, e⟩
end L2
namespace L2
open PySem PySem.Spec PyProof.Rows G
def z1W (K : PySem.W.Frag) : Sp := fun vs H Q _ => ∃ (a : Addr) (ns : List Int) (k p m : Int), vs = [.ref a, .int k, .int p, .int m] /\ SqL K H a (ns.map V.int) /\ 0 <= k /\ k < 1000000 /\ 0 < p /\ 0 < m /\ ∀ r, 0 <= r -> r < m -> Q (.int r) H
def z5A (K : PySem.W.Frag) : Sp := fun vs H Q _ => ∃ (a : Addr) (ns : List Int) (k : Int), vs = [.ref a, .int k] /\ SqL K H a (ns.map V.int) /\ 0 <= k /\ k < 100000 /\ ∀ c, Cell c -> Q (z0P c) H
def z9B : Sp := fun vs H Q _ => ∃ (p d : Addr) (w h : Nat) (rows : Rws), vs = [.ref p, .ref d] /\ PicAt H p w rows /\ PicAt H d w rows /\ Rect w h rows /\ ∀ H', Same H H' -> Q (.bl true) H'
def z80 (w h : Nat) (rows : Rws) (dx dy : Int) : Rws := z2n w h fun i j => look w h rows ((i : Int) + dx) ((j : Int) + dy)
def z9r : Sp := fun vs H Q _ => ∃ (p : Addr) (w h : Nat) (rows : Rws) (dx dy : Int), vs = [.ref p, .int dx, .int dy] /\ PicAt H p w rows /\ Rect w h rows /\ ∀ q H', Same H H' -> PicAt H' q w (z80 w h rows dx dy) -> Q (.ref q) H'
def z9s : Sp := fun vs H Q _ => ∃ (l : Addr) (ps : List Addr) (w h : Nat) (rows : Rws) (dx dy : Int), vs = [.ref l, .int dx, .int dy] /\ RowsAt H l ps rows /\ Rect w h rows /\ ∀ q H', Same H H' -> PicAt H' q w (z80 w h rows dx dy) -> Q (.ref q) H'
abbrev Bx := Int × Int × Int × Int
def bxV (b : Bx) : List V := [.int b.1, .int b.2.1, .int b.2.2.1, .int b.2.2.2]
def zAk (b : Bx) (i j : Int) : Bool := (decide (b.1 <= i) && decide (i < b.1 + b.2.2.1)) && (decide (b.2.1 <= j) && decide (j < b.2.1 + b.2.2.2))
def zAl (w h : Nat) (dx dy : Int) (i j : Int) : Bool := !(decide (0 <= i + dx) && decide (i + dx < w)) || !(decide (0 <= j + dy) && decide (j + dy < h))
def z9t (w h : Nat) (b : Bx) : Prop := 1 <= b.2.2.1 /\ 1 <= b.2.2.2 /\ 0 <= b.1 /\ 0 <= b.2.1 /\ b.1 + b.2.2.1 <= w /\ b.2.1 + b.2.2.2 <= h
structure FreshOk (w h : Nat) (dx dy : Int) (bs : List Bx) : Prop where
  len : bs.length <= 2
  box : ∀ b ∈ bs, z9t w h b
  cnt : ∀ i j : Nat, i < w -> j < h -> bs.countP (fun b => zAk b i j) = if zAl w h dx dy i j = true then 1 else 0
structure BxsAt (H : Hp) (l : Addr) (ts : List Addr) (bs : List Bx) : Prop where
  lst : H l = some (.lst (ts.map V.ref))
  len : ts.length = bs.length
  at' : ∀ (i : Nat) t b, ts[i]? = some t -> bs[i]? = some b -> H t = some (.tup (bxV b))
theorem BxsAt.mono {H H' : Hp} {l : Addr} {ts : List Addr} {bs : List Bx} (s : Same H H') (h : BxsAt H l ts bs) : BxsAt H' l ts bs := ⟨s _ _ h.lst, h.len, fun i t b e1 e2 => s _ _ (h.at' i t b e1 e2)⟩
def z9C : Sp := fun vs H Q _ => ∃ (w h : Nat) (dx dy : Int), vs = [.int w, .int h, .int dx, .int dy] /\ 1 <= w /\ w <= 64 /\ 1 <= h /\ h <= 64 /\ ∀ l ts bs H', Same H H' -> H l = none -> BxsAt H' l ts bs -> FreshOk w h dx dy bs -> Q (.ref l) H'
def z8R : Sp := fun vs H Q _ => ∃ (t : Addr) (b : Bx) (w h : Nat), vs = [.ref t, .int w, .int h] /\ H t = some (.tup (bxV b)) /\ z9t w h b /\ ∀ H', Same H H' -> Q (.bl true) H'
def z8S : Sp := fun vs H Q _ => ∃ (l : Addr) (ts : List Addr) (bs : List Bx) (w h : Nat) (dx dy : Int), vs = [.ref l, .int w, .int h, .int dx, .int dy] /\ w <= 64 /\ h <= 64 /\ BxsAt H l ts bs /\ FreshOk w h dx dy bs /\ ∀ H', Same H H' -> Q (.bl true) H'
def z9u (K : PySem.W.Frag) : Sp := fun vs H Q _ => ∃ (a : Addr) (ns : List Int) (k s : Int), vs = [.ref a, .int k, .int s] /\ SqL K H a (ns.map V.int) /\ 0 <= k /\ k < 1000 /\ 0 <= s /\ s <= 64 /\ ∀ z, Q (.int z) H
end L2
namespace L2
open PySem PySem.Spec PyProof.Rows G
def z7P (z : Int) : Int := if z < 0 then -z else z
def bxA (w h : Nat) (dx : Int) : List Bx := if 0 < z7P dx then [(if 0 < dx then (w : Int) - dx else 0, 0, z7P dx, (h : Int))] else []
def bxB (w h : Nat) (dx dy : Int) : List Bx := if 0 < z7P dy then [(if 0 < dx then 0 else z7P dx, if 0 < dy then (h : Int) - dy else 0, (w : Int) - z7P dx, z7P dy)] else []
def Sc (x : V) : Prop := x = .non \/ (∃ b, x = .bl b) \/ (∃ i, x = .int i) \/ (∃ z, x = .str z) \/ ∃ a, x = .ref a
theorem Sc.int (i : Int) : Sc (.int i) := .inr (.inr (.inl ⟨i, rfl⟩))
theorem Sc.non : Sc .non := .inl rfl
theorem Sc.str (z : Str) : Sc (.str z) := .inr (.inr (.inr (.inl ⟨z, rfl⟩)))
theorem Sc.ref (a : Addr) : Sc (.ref a) := .inr (.inr (.inr (.inr ⟨a, rfl⟩)))
def Eqv : Nat -> Hp -> V -> V -> Prop
  | 0, _, x, y => x = y /\ Sc x
  | n + 1, H, x, y => (x = y /\ Sc x) \/ ∃ a b xs ys, x = .ref a /\ y = .ref b /\ ((H a = some (.lst xs) /\ H b = some (.lst ys)) \/ (H a = some (.tup xs) /\ H b = some (.tup ys))) /\ xs.length = ys.length /\ ∀ (i : Nat) u v, xs[i]? = some u -> ys[i]? = some v -> Eqv n H u v
theorem Eqv.same {n : Nat} {H : Hp} {x : V} (h : Sc x) : Eqv n H x x := by
  cases n with
  | zero => exact ⟨rfl, h⟩
  | succ n => exact .inl ⟨rfl, h⟩
theorem Eqv.mono {H H' : Hp} (s : Same H H') : ∀ {n : Nat} {x y : V}, Eqv n H x y -> Eqv n H' x y
  | 0, _, _, h => h
  | n + 1, _, _, h => by
    rcases h with h | ⟨a, b, xs, ys, e1, e2, e3, e5, e6⟩
    . exact .inl h
    . refine .inr ⟨a, b, xs, ys, e1, e2, ?_, e5, fun i u v h1 h2 => (e6 i u v h1 h2).mono s⟩
      rcases e3 with ⟨p, q⟩ | ⟨p, q⟩
      . exact .inl ⟨s _ _ p, s _ _ q⟩
      . exact .inr ⟨s _ _ p, s _ _ q⟩
theorem z2u : ∀ {xs : List V} {its : List Value} {j : Nat} {v : Value}, Vals xs its -> its[j]? = some v -> ∃ x, xs[j]? = some x /\ RelV x v
  | _, _, _, _, .nil, e => by simp at e
  | _, _, 0, _, .cons r _, e => by
    simp at e
    exact ⟨_, rfl, e ▸ r⟩
  | _, _, j + 1, _, .cons _ rs, e => z2u (j := j) rs (by simpa using e)
theorem z81 {A : Around} {k : Nat} (hr : Room k A) : A.units + 9 < cLine := by
  have := hr.un
  omega
section
variable {X : Cx} {pins : List (Addr × Obj)} {σ : St} {H : Hp} {s : Shared} {A : Around}
theorem z3g {a b : Addr} {xs ys : List V} (hu : A.units < cLine) (I : Inv X pins σ H s) (ha : H a = some (.lst xs)) (hb : H b = some (.lst ys)) (hl : xs.length = ys.length)
    (he : ∀ (j : Nat) x y vx vy, xs[j]? = some x -> ys[j]? = some y -> RelV x vx -> RelV y vy -> SeqAt.EqAt A.in1 s vx vy true) : SeqAt.RcAt A s (.ref a) (.ref b) true /\ SeqAt.RcNeAt A s (.ref a) (.ref b) false := by
  obtain ⟨its, r1, p1, _⟩ := I.list (SqL.of ha)
  obtain ⟨its2, r2, p2, _⟩ := I.list (SqL.of hb)
  have l1 := r1.length
  have l2 := r2.length
  have hsz : its.toArray.size = its2.toArray.size := by rw [List.size_toArray, List.size_toArray]; omega
  have hx : ∀ (j : Nat) (h1 : j < its.toArray.size) (h2 : j < its2.toArray.size), SeqAt.EqAt A.in1 s its.toArray[j] its2.toArray[j] ((fun _ => true) j) := fun j h1 h2 => by
    have i1 : j < its.length := by simpa using h1
    have i2 : j < its2.length := by simpa using h2
    obtain ⟨x, ex, rx⟩ := z2u r1 (List.getElem?_eq_getElem i1)
    obtain ⟨y, ey, ry⟩ := z2u r2 (List.getElem?_eq_getElem i2)
    have := he j x y _ _ ex ey rx ry
    simpa using this
  have e : ((List.range its.toArray.size).all fun _ => true) = true := by simp
  have q1 := SeqAt.RcAt.lists (A := A) (s := s) (e := fun _ => true) p1.isList p2.isList hsz hu hx
  have q2 := SeqAt.RcNeAt.lists (A := A) (s := s) (e := fun _ => true) p1.isList p2.isList hsz hu hx
  rw [e] at q1 q2
  exact ⟨q1, q2⟩
theorem z5B {a b : Addr} {xs ys : List V} (hu : A.units < cLine) (I : Inv X pins σ H s) (ha : H a = some (.tup xs)) (hb : H b = some (.tup ys)) (hl : xs.length = ys.length)
    (he : ∀ (j : Nat) x y vx vy, xs[j]? = some x -> ys[j]? = some y -> RelV x vx -> RelV y vy -> SeqAt.EqAt A.in1 s vx vy true) : SeqAt.RcAt A s (.ref a) (.ref b) true /\ SeqAt.RcNeAt A s (.ref a) (.ref b) false := by
  obtain ⟨its, r1, p1, _⟩ := I.tuple (SqT.of ha)
  obtain ⟨its2, r2, p2, _⟩ := I.tuple (SqT.of hb)
  have l1 := r1.length
  have l2 := r2.length
  have hx : ∀ (j : Nat) (h1 : j < its.toArray.size) (h2 : j < its2.toArray.size), SeqAt.EqAt A.in1 s its.toArray[j] its2.toArray[j] ((fun _ => true) j) := fun j h1 h2 => by
    have i1 : j < its.length := by simpa using h1
    have i2 : j < its2.length := by simpa using h2
    obtain ⟨x, ex, rx⟩ := z2u r1 (List.getElem?_eq_getElem i1)
    obtain ⟨y, ey, ry⟩ := z2u r2 (List.getElem?_eq_getElem i2)
    have := he j x y _ _ ex ey rx ry
    simpa using this
  have e1 : ((List.range (min its.toArray.size its2.toArray.size)).all (fun _ => true) && its.toArray.size == its2.toArray.size) = true := by
    rw [List.size_toArray, List.size_toArray, <- l1, <- l2, hl]
    simp
  have q1 := SeqAt.RcAt.tuples (A := A) (s := s) (e := fun _ => true) p1 p2 hu hx
  have q2 := SeqAt.RcNeAt.tuples (A := A) (s := s) (e := fun _ => true) p1 p2 hu hx
  rw [e1] at q1 q2
  exact ⟨q1, q2⟩
theorem z82 {n : Nat} : ∀ {A : Around} {x y : V} {vx vy : Value}, A.units + n < cLine -> Inv X pins σ H s -> Eqv n H x y -> RelV x vx -> RelV y vy -> SeqAt.EqAt A s vx vy true := by
  have z7e : ∀ {A : Around} {x : V} {vx vy : Value}, Sc x -> RelV x vx -> RelV x vy -> SeqAt.EqAt A s vx vy true := fun {A x vx vy} h rx ry => by
    rcases h with rfl | ⟨b, rfl⟩ | ⟨i, rfl⟩ | ⟨z, rfl⟩ | ⟨a, rfl⟩
    . cases (show vx = Value.none from rx)
      cases (show vy = Value.none from ry)
      exact SeqAt.EqAt.same _
    . cases (show vx = Value.bool b from rx)
      cases (show vy = Value.bool b from ry)
      exact SeqAt.EqAt.same _
    . obtain ⟨t1, rfl⟩ := rx
      obtain ⟨t2, rfl⟩ := ry
      have := SeqAt.EqAt.int_int (A := A) (s := s) i t1 i t2
      rw [beq_self_eq_true] at this
      exact this
    . obtain ⟨t1, rfl⟩ := rx
      obtain ⟨t2, rfl⟩ := ry
      have := SeqAt.EqAt.str_str (A := A) (s := s) z t1 z t2
      rw [beq_self_eq_true] at this
      exact this
    . cases (show vx = Value.ref a from rx)
      cases (show vy = Value.ref a from ry)
      exact SeqAt.EqAt.same _
  induction n with
  | zero =>
    intro A x y vx vy hu I h rx ry
    obtain ⟨rfl, hs⟩ := h
    exact z7e hs rx ry
  | succ n ih =>
    intro A x y vx vy hu I h rx ry
    rcases h with ⟨rfl, hs⟩ | ⟨a, b, xs, ys, rfl, rfl, e3, e5, e6⟩
    . exact z7e hs rx ry
    . cases (show vx = Value.ref a from rx)
      cases (show vy = Value.ref b from ry)
      by_cases e : a = b
      . subst e
        exact SeqAt.EqAt.same _
      . refine SeqAt.EqAt.of_refs e ?_
        have hx : ∀ (j : Nat) x y vx vy, xs[j]? = some x -> ys[j]? = some y -> RelV x vx -> RelV y vy -> SeqAt.EqAt A.in1 s vx vy true := fun j x y vx vy h1 h2 r1 r2 => ih (A := A.in1) (show A.units + 1 + n < cLine by omega) I (e6 j x y h1 h2) r1 r2
        rcases e3 with ⟨p, q⟩ | ⟨p, q⟩
        . exact (z3g (by omega) I p q e5 hx).1
        . exact (z5B (by omega) I p q e5 hx).1
end
def EqT (n : Nat) (H : Hp) (x y : V) : Prop := ∃ a b xs ys, x = .ref a /\ y = .ref b /\ ((H a = some (.lst xs) /\ H b = some (.lst ys)) \/ (H a = some (.tup xs) /\ H b = some (.tup ys))) /\ xs.length = ys.length /\ ∀ (i : Nat) u v, xs[i]? = some u -> ys[i]? = some v -> Eqv n H u v
theorem EqT.mono {n : Nat} {H H' : Hp} {x y : V} (s : Same H H') (h : EqT n H x y) : EqT n H' x y := by
  obtain ⟨a, b, xs, ys, e1, e2, e3, e5, e6⟩ := h
  refine ⟨a, b, xs, ys, e1, e2, ?_, e5, fun i u v h1 h2 => (e6 i u v h1 h2).mono s⟩
  rcases e3 with ⟨p, q⟩ | ⟨p, q⟩
  . exact .inl ⟨s _ _ p, s _ _ q⟩
  . exact .inr ⟨s _ _ p, s _ _ q⟩
theorem EqT.tints {n : Nat} {H : Hp} {a b : Addr} {zs : List Int} (ha : H a = some (.tup (zs.map V.int))) (hb : H b = some (.tup (zs.map V.int))) : EqT n H (.ref a) (.ref b) := ⟨a, b, _, _, rfl, rfl, .inr ⟨ha, hb⟩, rfl, fun i u v h1 h2 => by
  rw [h1] at h2
  cases h2
  obtain ⟨z, rfl⟩ := z1b (List.mem_of_getElem? h1)
  exact Eqv.same (Sc.int z)⟩
theorem EqT.copy {n : Nat} {H : Hp} {a b : Addr} {xs : List V} (ha : H a = some (.lst xs)) (hb : H b = some (.lst xs)) (h : ∀ x ∈ xs, Sc x) : EqT n H (.ref a) (.ref b) := ⟨a, b, _, _, rfl, rfl, .inl ⟨ha, hb⟩, rfl, fun i u v h1 h2 => by
  rw [h1] at h2
  cases h2
  exact Eqv.same (h u (List.mem_of_getElem? h1))⟩
def zAm (n : Nat) : R2 := fun x y H Q => EqT n H x y /\ Q (.bl true) H
def zBP (n : Nat) : R2 := fun x y H Q => EqT n H x y /\ Q (.bl false) H
section
variable {X : Cx} {n : Nat}
theorem z83 (hu : X.A.units + 9 < cLine) (hn : n <= 8 := by decide) : OpR X (compareOp .Eq) (zAm n) := by
  intro pins s σ H x y v u Q I rx ry h0
  obtain ⟨⟨a, b, xs, ys, rfl, rfl, e3, e5, e6⟩, q⟩ := h0
  cases rx
  cases ry
  have hx : ∀ (j : Nat) x y vx vy, xs[j]? = some x -> ys[j]? = some y -> RelV x vx -> RelV y vy -> SeqAt.EqAt X.A.in1 s vx vy true := fun j x y vx vy h1 h2 r1 r2 => z82 (A := X.A.in1) (show X.A.units + 1 + n < cLine by omega) I (e6 j x y h1 h2) r1 r2
  rcases e3 with ⟨p, p2⟩ | ⟨p, p2⟩
  . exact (z3g (by omega) I p p2 e5 hx).1 X.prog X.w X.xe _ ⟨.bl _, H, I, rfl, q⟩
  . exact (z5B (by omega) I p p2 e5 hx).1 X.prog X.w X.xe _ ⟨.bl _, H, I, rfl, q⟩
end
def z3K (R f : Int) : Int := if f % (2 * R) <= R then f % (2 * R) else 2 * R - f % (2 * R)
def z84 (st sp R bt : Int) : Int := if R = 0 then 0 else z3K R (st + bt * sp)
theorem z5C {R f a q : Int} (hR : 0 < R) (a0 : 0 <= a) (a1 : a <= R) (h : f = a + 2 * R * q \/ f = -a + 2 * R * q) : z3K R f = a := by
  unfold z3K
  rcases h with e | e
  . rw [e, Int.add_mul_emod_self_left, Int.emod_eq_of_lt a0 (by omega), if_pos a1]
  . by_cases z : a = 0
    . rw [e, Int.add_mul_emod_self_left, z]
      rw [if_pos (by simp; omega)]
      simp
    . have e2 : f = (2 * R - a) + 2 * R * (q - 1) := by
        rw [e, Int.mul_sub]
        omega
      rw [e2, Int.add_mul_emod_self_left, Int.emod_eq_of_lt (by omega) (by omega)]
      split
      . omega
      . omega
theorem z5w {R f : Int} (hR : 0 < R) (h : f / R % 2 = 0) : z3K R f = f % R := by
  have h1 := Int.emod_nonneg f (show R ≠ 0 by omega)
  have h2 := Int.emod_lt_of_pos f hR
  refine z5C (q := f / R / 2) hR h1 (by omega) (.inl ?_)
  have e := Int.mul_ediv_add_emod f R
  have e2 : f / R = 2 * (f / R / 2) := by omega
  have e3 : 2 * R * (f / R / 2) = R * (f / R) := by
    conv => rhs; rw [e2]
    rw [<- Int.mul_assoc, Int.mul_comm R 2]
  omega
theorem z72 {R f : Int} (hR : 0 < R) (h : ¬ f / R % 2 = 0) : z3K R f = R - f % R := by
  have h1 := Int.emod_nonneg f (show R ≠ 0 by omega)
  have h2 := Int.emod_lt_of_pos f hR
  refine z5C (q := f / R / 2 + 1) hR (by omega) (by omega) (.inr ?_)
  have e := Int.mul_ediv_add_emod f R
  have e2 : f / R = 2 * (f / R / 2) + 1 := by omega
  have e3 : 2 * R * (f / R / 2 + 1) = R * (f / R) + R := by
    conv => rhs; rw [e2]
    rw [Int.mul_add, Int.mul_add, <- Int.mul_assoc, Int.mul_comm R 2]
    omega
  omega
structure WInv (R s f a d : Int) : Prop where
  a0 : 0 <= a
  a1 : a <= R
  at' : ∃ q, (f = a + 2 * R * q /\ d = s) \/ (f = -a + 2 * R * q /\ d = -s)
theorem WInv.start {R s a : Int} (a0 : 0 <= a) (a1 : a <= R) : WInv R s a a s := ⟨a0, a1, 0, .inl ⟨by rw [Int.mul_zero, Int.add_zero], rfl⟩⟩
theorem WInv.on {R s f a d : Int} (hs : s = 1 \/ s = -1) (h : WInv R s f a d) (c0 : ¬ a + d < 0) (c1 : ¬ a + d > R) : WInv R s (f + s) (a + d) d := by
  obtain ⟨a0, a1, q, h⟩ := h
  refine ⟨by omega, by omega, q, ?_⟩
  rcases h with ⟨e1, e2⟩ | ⟨e1, e2⟩
  . exact .inl ⟨by omega, e2⟩
  . exact .inr ⟨by omega, e2⟩
theorem WInv.back {R s f a d : Int} (hR : 1 <= R) (hs : s = 1 \/ s = -1) (h : WInv R s f a d) (c : a + d < 0 \/ a + d > R) : WInv R s (f + s) (a + -d) (-d) := by
  obtain ⟨a0, a1, q, h⟩ := h
  have m1 : 2 * R * (q + 1) = 2 * R * q + 2 * R := by rw [Int.mul_add, Int.mul_one]
  have m2 : 2 * R * (q - 1) = 2 * R * q - 2 * R := by rw [Int.mul_sub, Int.mul_one]
  rcases h with ⟨e1, e2⟩ | ⟨e1, e2⟩
  . rcases c with c | c
    . exact ⟨by omega, by omega, q, .inr ⟨by omega, by omega⟩⟩
    . exact ⟨by omega, by omega, q + 1, .inr ⟨by omega, by omega⟩⟩
  . rcases c with c | c
    . exact ⟨by omega, by omega, q, .inl ⟨by omega, by omega⟩⟩
    . exact ⟨by omega, by omega, q - 1, .inl ⟨by omega, by omega⟩⟩
end L2
namespace L2
open G
def z1m (w h : Nat) (b : Nat -> Nat -> Bool) : Option (Nat × Nat) :=
  match (List.range h).find? (fun j => (List.range w).any fun i => b i j) with
  | none => none
  | some j => ((List.range w).find? fun i => b i j).map fun i => (i, j)
theorem z1n {w h : Nat} {b : Nat -> Nat -> Bool} (n : ∀ i j, i < w -> j < h -> b i j = false) : z1m w h b = none := by
  have e : (List.range h).find? (fun j => (List.range w).any fun i => b i j) = none := by
    rw [List.find?_eq_none]
    intro j hj
    rw [List.mem_range] at hj
    simp only [List.any_eq_true, List.mem_range, not_exists, not_and]
    intro i hi e
    rw [n i j hi hj] at e
    cases e
  unfold z1m
  rw [e]
theorem z1o {w h : Nat} {b : Nat -> Nat -> Bool} {i j : Nat} (hi : i < w) (hj : j < h) (hb : b i j = true) (n1 : ∀ i' j', i' < w -> j' < j -> b i' j' = false) (n2 : ∀ i', i' < i -> b i' j = false) : z1m w h b = some (i, j) := by
  have e : (List.range h).find? (fun j => (List.range w).any fun i => b i j) = some j := by
    rw [List.find?_range_eq_some]
    refine ⟨?_, ?_, ?_⟩
    . simp only [List.any_eq_true, List.mem_range]
      exact ⟨i, hi, hb⟩
    . exact List.mem_range.mpr hj
    . intro j' hj'
      simp only [Bool.not_eq_true', List.any_eq_false, List.mem_range]
      intro i' hi'
      rw [n1 i' j' hi' hj']
      exact Bool.false_ne_true
  have e2 : (List.range w).find? (fun i => b i j) = some i := by
    rw [List.find?_range_eq_some]
    exact ⟨hb, List.mem_range.mpr hi, fun i' hi' => by rw [n2 i' hi']; rfl⟩
  unfold z1m
  rw [e]
  show ((List.range w).find? fun i => b i j).map (fun i => (i, j)) = _
  rw [e2]
  rfl
theorem z3h (p : Nat -> Prop) [DecidablePred p] (n : Nat) : (∀ i, i < n -> ¬ p i) \/ ∃ i, i < n /\ p i /\ ∀ j, j < i -> ¬ p j := by
  induction n with
  | zero => exact .inl fun i h => absurd h (Nat.not_lt_zero _)
  | succ n ih =>
    rcases ih with h | ⟨i, h1, h2, h3⟩
    . by_cases e : p n
      . exact .inr ⟨n, Nat.lt_succ_self _, e, h⟩
      . refine .inl fun i hi => ?_
        rcases Nat.lt_succ_iff_lt_or_eq.mp hi with hi | hi
        . exact h i hi
        . rw [hi]; exact e
    . exact .inr ⟨i, Nat.lt_succ_of_lt h1, h2, h3⟩
theorem z1p (w h : Nat) (b : Nat -> Nat -> Bool) : (z1m w h b = none /\ ∀ i j, i < w -> j < h -> b i j = false) \/
    ∃ i j, z1m w h b = some (i, j) /\ i < w /\ j < h /\ b i j = true /\ ∀ i' j', i' < w -> j' < h -> b i' j' = true -> j < j' \/ (j = j' /\ i <= i') := by
  rcases z3h (fun j => (List.range w).any (fun i => b i j) = true) h with n | ⟨j, hj, pj, nj⟩
  . have n' : ∀ i j, i < w -> j < h -> b i j = false := fun i j hi hj => by
      have := n j hj
      simp only [List.any_eq_true, List.mem_range, not_exists, not_and] at this
      simpa using this i hi
    exact .inl ⟨z1n n', n'⟩
  . have nj' : ∀ i' j', i' < w -> j' < j -> b i' j' = false := fun i' j' hi hj' => by
      have := nj j' hj'
      simp only [List.any_eq_true, List.mem_range, not_exists, not_and] at this
      simpa using this i' hi
    rcases z3h (fun i => b i j = true) w with m | ⟨i, hi, pi, ni⟩
    . exfalso
      simp only [List.any_eq_true, List.mem_range] at pj
      obtain ⟨i, hi, e⟩ := pj
      exact m i hi e
    . refine .inr ⟨i, j, z1o hi hj pi nj' (fun i' h' => by simpa using ni i' h'), hi, hj, pi, fun i' j' hi' hj' e => ?_⟩
      by_cases c : j' < j
      . rw [nj' i' j' hi' c] at e
        cases e
      . by_cases d : j < j'
        . exact .inl d
        . have ej : j = j' := by omega
          refine .inr ⟨ej, ?_⟩
          rw [<- ej] at e
          exact Nat.le_of_not_lt fun l => ni i' l e
structure Plc where
  w : Nat
  h : Nat
  rows : List (List (Option Int))
  x : Int
  y : Int
def z0e (A B : Plc) (i j : Nat) : Bool := (z11 A.rows i j).isSome && (look B.w B.h B.rows (A.x + i - B.x) (A.y + j - B.y)).isSome
def z73 (A B : Plc) : Option (Int × Int) := (z1m A.w A.h (z0e A B)).map fun p => (A.x + (p.1 : Int), A.y + (p.2 : Int))
theorem z3i {w h : Nat} {rows : List (List (Option Int))} {x y : Int} (x0 : 0 <= x) (x1 : x < w) (y0 : 0 <= y) (y1 : y < h) : look w h rows x y = z11 rows x.toNat y.toNat := by
  unfold look z11
  rw [if_pos ⟨x0, x1, y0, y1⟩, List.getD_eq_getElem?_getD, List.getD_eq_getElem?_getD]
  cases (rows[y.toNat]?.getD [])[x.toNat]? <;> rfl
theorem z5D {w h : Nat} {rows : List (List (Option Int))} {x y : Int} (e : (look w h rows x y).isSome = true) : 0 <= x /\ x < w /\ 0 <= y /\ y < h := by
  unfold look at e
  split at e
  . assumption
  . cases e
theorem z1q {A B : Plc} {i j : Nat} (hi : i < A.w) (hj : j < A.h) (e : z0e A B i j = true) : ∃ i' j' : Nat, i' < B.w /\ j' < B.h /\ z0e B A i' j' = true /\ A.x + (i : Int) = B.x + (i' : Int) /\ A.y + (j : Int) = B.y + (j' : Int) := by
  unfold z0e at e
  rw [Bool.and_eq_true] at e
  obtain ⟨e1, e2⟩ := e
  obtain ⟨c1, c2, c3, c4⟩ := z5D e2
  refine ⟨(A.x + i - B.x).toNat, (A.y + j - B.y).toNat, by omega, by omega, ?_, by omega, by omega⟩
  unfold z0e
  rw [z3i c1 c2 c3 c4] at e2
  have a1 : B.x + ((A.x + (i : Int) - B.x).toNat : Nat) - A.x = (i : Nat) := by omega
  have a2 : B.y + ((A.y + (j : Int) - B.y).toNat : Nat) - A.y = (j : Nat) := by omega
  rw [e2, a1, a2, z3i (by omega) (by omega) (by omega) (by omega)]
  simpa using e1
theorem z5x (A B : Plc) : z73 A B = z73 B A := by
  unfold z73
  rcases z1p A.w A.h (z0e A B) with ⟨e, n⟩ | ⟨i, j, e, hi, hj, hb, hm⟩
  . rcases z1p B.w B.h (z0e B A) with ⟨e', n'⟩ | ⟨i', j', e', hi', hj', hb', hm'⟩
    . rw [e, e']
      rfl
    . obtain ⟨a, b, ha, hb2, c, _⟩ := z1q hi' hj' hb'
      rw [n a b ha hb2] at c
      cases c
  . obtain ⟨a, b, ha, hb2, c, d1, d2⟩ := z1q hi hj hb
    rcases z1p B.w B.h (z0e B A) with ⟨e', n'⟩ | ⟨i', j', e', hi', hj', hb', hm'⟩
    . rw [n' a b ha hb2] at c
      cases c
    . obtain ⟨a', b', ha', hb2', c', d1', d2'⟩ := z1q hi' hj' hb'
      have o1 := hm' a b ha hb2 c
      have o2 := hm a' b' ha' hb2' c'
      rw [e, e']
      show some (A.x + (i : Int), A.y + (j : Int)) = some (B.x + (i' : Int), B.y + (j' : Int))
      have x1 : A.x + (i : Int) = B.x + (i' : Int) := by omega
      have x2 : A.y + (j : Int) = B.y + (j' : Int) := by omega
      rw [x1, x2]
def z1Z (us cs : List (Option Int)) : List (Option Int) := List.zipWith (fun a c => if a.isSome && c.isSome then some 0 else none) us cs
theorem z2v : ∀ (us cs : List (Option Int)), us.length = cs.length -> PySem.Builtin.bitAnd (z07 us) (z07 cs) = z07 (z1Z us cs)
  | [], [], _ => by decide
  | a :: us, c :: cs, h => by
    have ih := z2v us cs (by simpa using h)
    have m1 := (z1B us).1
    have m2 := (z1B cs).1
    show PySem.Builtin.bitAnd ((if a.isSome = true then 1 else 0) + 2 * z07 us) ((if c.isSome = true then 1 else 0) + 2 * z07 cs) = (if (if a.isSome && c.isSome then some (0 : Int) else none).isSome = true then 1 else 0) + 2 * z07 (z1Z us cs)
    rw [z55 (by split <;> decide) (by split <;> decide) (by split <;> decide) (by split <;> decide) m1 m2, ih]
    have t00 : PySem.Builtin.bitAnd 0 0 = 0 := by decide +kernel
    have t01 : PySem.Builtin.bitAnd 0 1 = 0 := by decide +kernel
    have t10 : PySem.Builtin.bitAnd 1 0 = 0 := by decide +kernel
    have t11 : PySem.Builtin.bitAnd 1 1 = 1 := by decide +kernel
    cases a with
    | none =>
      cases c with
      | none => show PySem.Builtin.bitAnd 0 0 + _ = 0 + _; rw [t00]
      | some _ => show PySem.Builtin.bitAnd 0 1 + _ = 0 + _; rw [t01]
    | some _ =>
      cases c with
      | none => show PySem.Builtin.bitAnd 1 0 + _ = 0 + _; rw [t10]
      | some _ => show PySem.Builtin.bitAnd 1 1 + _ = 1 + _; rw [t11]
  | [], _ :: _, h => by cases h
  | _ :: _, [], h => by cases h
theorem z5y {us cs : List (Option Int)} (i : Nat) : isP (z1Z us cs) i ↔ isP us i /\ isP cs i := by
  unfold isP z1Z
  rw [List.getElem?_zipWith]
  cases us[i]? with
  | none => simp
  | some a =>
    cases cs[i]? with
    | none => simp
    | some c => cases a <;> cases c <;> simp
end L2
namespace L2
open PySem PySem.Spec PyProof.Rows G
def z85 : Sp := fun vs H Q _ => ∃ r : List (Option Int), vs = [.int (z07 r)] /\ z07 r ≠ 0 /\ Q (.int (loI r)) H
def PlAt (H : Hp) (t : Addr) (A : Plc) : Prop := ∃ p, H t = some (.tup [.ref p, .int A.x, .int A.y]) /\ PicAt H p A.w A.rows
theorem PlAt.mono {H H' : Hp} {t : Addr} {A : Plc} (s : Same H H') (h : PlAt H t A) : PlAt H' t A := by
  obtain ⟨p, h1, h2⟩ := h
  exact ⟨p, s _ _ h1, h2.mono s⟩
def LPlAt (H : Hp) (t : Addr) (A : Plc) : Prop := ∃ l ps, H t = some (.tup [.ref l, .int A.x, .int A.y]) /\ RowsAt H l ps A.rows
theorem LPlAt.mono {H H' : Hp} {t : Addr} {A : Plc} (s : Same H H') (h : LPlAt H t A) : LPlAt H' t A := by
  obtain ⟨l, ps, h1, h2⟩ := h
  exact ⟨l, ps, s _ _ h1, h2.mono s⟩
def z1X (A B : Plc) : Option (List Int) := (z73 A B).map fun p => [p.1, p.2]
theorem z5E (A B : Plc) : z1X A B = z1X B A := by
  unfold z1X
  rw [z5x]
abbrev z37 (A : Plc) : Prop := Rect A.w A.h A.rows
def z5F : Sp := fun vs H Q _ => ∃ (s t : Addr) (A B : Plc), vs = [.ref s, .ref t] /\ PlAt H s A /\ PlAt H t B /\ z37 A /\ z37 B /\ ∀ v H', Same H H' -> BoxV H' v (z1X A B) -> Q v H'
def z86 : Sp := fun vs H Q _ => ∃ (l s m t : Addr) (ps qs : List Addr) (A B : Plc), vs = [.ref l, .ref s, .ref m, .ref t] /\ RowsAt H l ps A.rows /\ H s = some (.tup [.int A.x, .int A.y]) /\ RowsAt H m qs B.rows /\ H t = some (.tup [.int B.x, .int B.y]) /\ z37 A /\ z37 B /\ ∀ v H', Same H H' -> BoxV H' v (z1X A B) -> Q v H'
def z3j : Sp := fun vs H Q _ => ∃ (s t : Addr) (A B : Plc), vs = [.ref s, .ref t] /\ LPlAt H s A /\ LPlAt H t B /\ z37 A /\ z37 B /\ ∀ v H', Same H H' -> BoxV H' v (z1X A B) -> Q v H'
def z5G (n : Nat) : Sp := fun vs H Q _ => ∃ (u v : V) (o : Option (List Int)), vs = [u, v] /\ BoxV H u o /\ BoxV H v o /\ (∀ zs, o = some zs -> zs.length = n) /\ ∀ H', Same H H' -> Q (.bl true) H'
theorem z2N {A B : Plc} : ∀ zs, z1X A B = some zs -> zs.length = 2 := fun zs e => by
  unfold z1X at e
  cases h : z73 A B with
  | none => rw [h] at e; cases e
  | some p => rw [h] at e; cases e; rfl
theorem z2w {A B : Plc} (n : ∀ i j, i < A.w -> j < A.h -> z0e A B i j = false) : z1X A B = none := by
  unfold z1X z73
  rw [z1n n]
  rfl
theorem z2x {A B : Plc} {i j : Nat} (hi : i < A.w) (hj : j < A.h) (hb : z0e A B i j = true) (n1 : ∀ i' j', i' < A.w -> j' < j -> z0e A B i' j' = false) (n2 : ∀ i', i' < i -> z0e A B i' j = false) : z1X A B = some [A.x + (i : Int), A.y + (j : Int)] := by
  unfold z1X z73
  rw [z1o hi hj hb n1 n2]
  rfl
theorem both_row {A B : Plc} (RB : z37 B) {y : Nat} (hy : y < A.rows.length) {i : Nat} (hi : i < A.w) : isP (z1Z (A.rows[y]'hy) (z1v B.rows (A.x - B.x) (A.y - B.y + (y : Int)) A.w)) i ↔ z0e A B i y = true := by
  rw [z5y]
  unfold z0e
  rw [Bool.and_eq_true]
  have e1 : isP (A.rows[y]'hy) i ↔ (z11 A.rows i y).isSome = true := by
    unfold isP z11
    rw [List.getElem?_eq_getElem hy]
    exact Iff.rfl
  have e2 : isP (z1v B.rows (A.x - B.x) (A.y - B.y + (y : Int)) A.w) i ↔ (look B.w B.h B.rows (A.x + i - B.x) (A.y + y - B.y)).isSome = true := by
    unfold isP z1v
    rw [List.getElem?_map, List.getElem?_range hi]
    show (Option.some (atR (rowAt B.rows (A.y - B.y + (y : Int))) (A.x - B.x + (i : Int)))).join.isSome = true ↔ _
    have a1 : A.x + (i : Int) - B.x = A.x - B.x + (i : Int) := by omega
    have a2 : A.y + (y : Int) - B.y = A.y - B.y + (y : Int) := by omega
    rw [z25 RB, a1, a2]
    exact Iff.rfl
  rw [e1, e2]
theorem z5z {A B : Plc} (RB : z37 B) {y : Nat} (hy : y < A.rows.length) (m : z07 (z1Z (A.rows[y]'hy) (z1v B.rows (A.x - B.x) (A.y - B.y + (y : Int)) A.w)) = 0) : ∀ i, i < A.w -> z0e A B i y = false := fun i hi => by
  cases e : z0e A B i y with
  | false => rfl
  | true => exact absurd m (isP_mask.mpr ⟨i, (both_row RB hy hi).mpr e⟩)
theorem z60 {A B : Plc} (RA : z37 A) (RB : z37 B) {y : Nat} (hy : y < A.rows.length) (m : z07 (z1Z (A.rows[y]'hy) (z1v B.rows (A.x - B.x) (A.y - B.y + (y : Int)) A.w)) ≠ 0) (n : ∀ i j, i < A.w -> j < y -> z0e A B i j = false) :
    z1X A B = some [A.x + (loI (z1Z (A.rows[y]'hy) (z1v B.rows (A.x - B.x) (A.y - B.y + (y : Int)) A.w)) : Int), A.y + (y : Int)] := by
  obtain ⟨a1, a2⟩ := z6y m
  have hw := (RA.row0 hy).1
  have hl := z6U a1
  have hl2 : loI (z1Z (A.rows[y]'hy) (z1v B.rows (A.x - B.x) (A.y - B.y + (y : Int)) A.w)) < A.w := by
    unfold z1Z at hl
    rw [List.length_zipWith] at hl
    unfold z1Z
    omega
  have hR := RA.len
  refine z2x hl2 (by omega) ((both_row RB hy hl2).mp a1) n fun i' h' => ?_
  cases e : z0e A B i' y with
  | false => rfl
  | true =>
    have := a2 i' ((both_row RB hy (by omega)).mpr e)
    omega
def z8T (K : PySem.W.Frag) : Sp := fun vs H Q _ => ∃ (a : Addr) (ns : List Int) (k s : Int), vs = [.ref a, .int k, .int s] /\ SqL K H a (ns.map V.int) /\ 0 <= k /\ k < 1000 /\ 0 <= s /\ s < 1000 /\ ∀ l ps rows w h H', Same H H' -> RowsAt H' l ps rows -> Rect w h rows -> Q (.ref l) H'
def z9v (K : PySem.W.Frag) : Sp := fun vs H Q _ => ∃ (a : Addr) (ns : List Int) (k : Int), vs = [.ref a, .int k] /\ SqL K H a (ns.map V.int) /\ 0 <= k /\ k < 1000 /\ ∀ z, Q (.int z) H
def z8U (K : PySem.W.Frag) : Sp := fun vs H Q _ => ∃ (a : Addr) (ns : List Int), vs = [.ref a] /\ SqL K H a (ns.map V.int) /\ ∀ (u s t : Addr) (x y x2 y2 : Int) H', Same H H' -> H' u = some (.tup [.ref s, .ref t]) -> H' s = some (.tup [.int x, .int y]) -> H' t = some (.tup [.int x2, .int y2]) -> Q (.ref u) H'
end L2
namespace L2
open PySem PySem.Spec PyProof.Rows G
structure ListP (R : Hp -> Addr -> Plc -> Prop) (H : Hp) (l : Addr) (ts : List Addr) (As : List Plc) : Prop where
  lst : H l = some (.lst (ts.map V.ref))
  len : ts.length = As.length
  at' : ∀ (i : Nat) t A, ts[i]? = some t -> As[i]? = some A -> R H t A
theorem ListP.get {R : Hp -> Addr -> Plc -> Prop} {H : Hp} {l : Addr} {ts : List Addr} {As : List Plc} (h : ListP R H l ts As) {i : Nat} (hi : i < As.length) : ∃ t, ts[i]? = some t /\ R H t (As[i]'hi) /\ atI (ts.map V.ref) ((i : Nat) : Int) = some (.ref t) := by
  have h1 : i < ts.length := by rw [h.len]; exact hi
  have e := List.getElem?_eq_getElem h1
  exact ⟨_, e, h.at' i _ _ e (List.getElem?_eq_getElem hi), z0d (by rw [List.getElem?_map, e]; rfl)⟩
abbrev PlsAt := ListP PlAt
abbrev LPlsAt := ListP LPlAt
theorem PlsAt.mono {H H' : Hp} {l : Addr} {ts : List Addr} {As : List Plc} (s : Same H H') (h : PlsAt H l ts As) : PlsAt H' l ts As := ⟨s _ _ h.lst, h.len, fun i t L a b => (h.at' i t L a b).mono s⟩
theorem LPlsAt.mono {H H' : Hp} {l : Addr} {ts : List Addr} {As : List Plc} (s : Same H H') (h : LPlsAt H l ts As) : LPlsAt H' l ts As := ⟨s _ _ h.lst, h.len, fun i t L a b => (h.at' i t L a b).mono s⟩
def tz2 (As : List Plc) (i j : Nat) : List (List Int) := match As[i]?, As[j]? with
  | some A, some B => (match z1X A B with | none => [] | some zs => [(i : Int) :: (j : Int) :: zs])
  | _, _ => []
def z87 (As : List Plc) (i : Nat) : Nat -> List (List Int)
  | 0 => []
  | k + 1 => z87 As i k ++ tz2 As i (i + 1 + k)
def z74 (As : List Plc) : Nat -> List (List Int)
  | 0 => []
  | i + 1 => z74 As i ++ z87 As i (As.length - (i + 1))
structure TusB (H0 H : Hp) (l : Addr) (ts : List Addr) (zss : List (List Int)) : Prop where
  same : Same H0 H
  fl : H0 l = none
  lst : H l = some (.lst (ts.map V.ref))
  len : ts.length = zss.length
  at' : ∀ (i : Nat) t zs, ts[i]? = some t -> zss[i]? = some zs -> H t = some (.tup (zs.map V.int))
theorem TusB.mono {H0 H H' : Hp} {l : Addr} {ts : List Addr} {zss : List (List Int)} (B : TusB H0 H l ts zss) (s : Same H H') : TusB H0 H' l ts zss := ⟨B.same.trans s, B.fl, s _ _ B.lst, B.len, fun i t zs e1 e2 => s _ _ (B.at' i t zs e1 e2)⟩
theorem TusB.push {H0 H : Hp} {l t : Addr} {ts : List Addr} {zss : List (List Int)} {zs : List Int} (B : TusB H0 H l ts zss) (h : H t = some (.tup (zs.map V.int))) : TusB H0 (upd H l (.lst (ts.map V.ref ++ [.ref t]))) l (ts ++ [t]) (zss ++ [zs]) := by
  have ot : ∀ {b : Addr} {xs : List V}, H b = some (.tup xs) -> (upd H l (.lst (ts.map V.ref ++ [.ref t]))) b = some (.tup xs) := fun {b xs} e => (z0A (z7X e B.lst fun z => nomatch z)).trans e
  refine ⟨B.same.put B.fl, B.fl, by rw [upd_same, List.map_append]; rfl, by rw [List.length_append, List.length_append, B.len]; rfl, fun i u ws e1 e2 => ?_⟩
  have hl := B.len
  by_cases hi : i < ts.length
  . rw [List.getElem?_append_left hi] at e1
    rw [List.getElem?_append_left (by omega)] at e2
    exact ot (B.at' i u ws e1 e2)
  . rw [List.getElem?_append_right (by omega)] at e1
    rw [List.getElem?_append_right (by omega), <- hl] at e2
    cases hk : i - ts.length with
    | zero =>
      rw [hk] at e1 e2
      cases e1
      cases e2
      exact ot h
    | succ n =>
      rw [hk] at e1
      cases e1
structure TusAt (H : Hp) (l : Addr) (ts : List Addr) (zss : List (List Int)) : Prop where
  lst : H l = some (.lst (ts.map V.ref))
  len : ts.length = zss.length
  at' : ∀ (i : Nat) t zs, ts[i]? = some t -> zss[i]? = some zs -> H t = some (.tup (zs.map V.int))
theorem TusB.at {H0 H : Hp} {l : Addr} {ts : List Addr} {zss : List (List Int)} (B : TusB H0 H l ts zss) : TusAt H l ts zss := ⟨B.lst, B.len, B.at'⟩
theorem TusAt.mono {H H' : Hp} {l : Addr} {ts : List Addr} {zss : List (List Int)} (B : TusAt H l ts zss) (s : Same H H') : TusAt H' l ts zss := ⟨s _ _ B.lst, B.len, fun i t zs e1 e2 => s _ _ (B.at' i t zs e1 e2)⟩
def z88 : Sp := fun vs H Q _ => ∃ (l : Addr) (ts : List Addr) (As : List Plc), vs = [.ref l] /\ PlsAt H l ts As /\ (∀ A ∈ As, z37 A) /\ As.length <= 60 /\ ∀ m us H', TusB H H' m us (z74 As As.length) -> Q (.ref m) H'
def z7Q : Sp := fun vs H Q _ => ∃ (l : Addr) (ts : List Addr) (As : List Plc), vs = [.ref l] /\ LPlsAt H l ts As /\ (∀ A ∈ As, z37 A) /\ As.length <= 60 /\ ∀ m us H', TusB H H' m us (z74 As As.length) -> Q (.ref m) H'
def z89 (n : Nat) : Sp := fun vs H Q _ => ∃ (l m : Addr) (ts us : List Addr) (zss : List (List Int)), vs = [.ref l, .ref m] /\ TusAt H l ts zss /\ TusAt H m us zss /\ (∀ zs ∈ zss, zs.length = n) /\ zss.length <= 10000 /\ ∀ H', Same H H' -> Q (.bl true) H'
def z9w (K : PySem.W.Frag) : Sp := fun vs H Q _ => ∃ (a : Addr) (ns : List Int), vs = [.ref a] /\ SqL K H a (ns.map V.int) /\ ∀ l ts As H', Same H H' -> H l = none -> LPlsAt H' l ts As -> (∀ A ∈ As, z37 A) -> As.length <= 60 -> Q (.ref l) H'
end L2
namespace L2
open PySem PySem.Spec PyProof.Rows G
theorem RowsAt.past {H : Hp} {l m : Addr} {ps ts : List Addr} {rows : List (List (Option Int))} {w h : Nat} {o : HO} (a : RowsAt H l ps rows) (R : Rect w h rows) (hm : H m = some (.lst (ts.map V.ref))) (ht : ∀ t ∈ ts, ∃ xs, H t = some (.tup xs)) : RowsAt (upd H m o) l ps rows := by
  have hlen := a.len
  have hR := R.len
  have h1 := R.h1
  have w1 := R.w1
  have nl : l ≠ m := fun e => by
    have g := a.lst
    rw [e, hm] at g
    have g1 : ts.map V.ref = ps.map V.ref := HO.lst.inj (Option.some.inj g)
    have g2 : ts = ps := (List.map_inj_right (fun _ _ h => by injection h)).mp g1
    have hp : ps[0]? = some (ps[0]'(by omega)) := List.getElem?_eq_getElem (by omega)
    have r0 := a.row 0 _ _ hp (List.getElem?_eq_getElem (by omega))
    obtain ⟨xs, e2⟩ := ht (ps[0]'(by omega)) (by rw [g2]; exact List.getElem_mem _)
    rw [r0] at e2
    cases e2
  refine ⟨by rw [z0A nl]; exact a.lst, a.len, fun i p r e1 e2 => ?_⟩
  have g := a.row i p r e1 e2
  have np : p ≠ m := fun e => by
    rw [e, hm] at g
    have g1 : ts.map V.ref = r.map z0P := HO.lst.inj (Option.some.inj g)
    have hw := (R.row r (List.mem_of_getElem? e2)).1
    have g2 : (ts.map V.ref)[0]? = (r.map z0P)[0]? := by rw [g1]
    rw [List.getElem?_map, List.getElem?_map, List.getElem?_eq_getElem (show 0 < r.length by omega)] at g2
    cases hq : ts[0]? with
    | none => rw [hq] at g2; cases g2
    | some q =>
      rw [hq] at g2
      have e3 := Option.some.inj g2
      cases hcc : r[0]'(show 0 < r.length by omega) with
      | none => rw [hcc] at e3; cases e3
      | some z => rw [hcc] at e3; cases e3
  rw [z0A np]
  exact g
theorem LPlsAt.push {H : Hp} {m t : Addr} {ts : List Addr} {As : List Plc} {A : Plc} (h : LPlsAt H m ts As) (ok : ∀ A ∈ As, z37 A) (hA : z37 A) (ht : LPlAt H t A) : LPlsAt (upd H m (.lst (ts.map V.ref ++ [.ref t]))) m (ts ++ [t]) (As ++ [A]) := by
  have hl := h.len
  have tu : ∀ u ∈ ts, ∃ xs, H u = some (.tup xs) := fun u hu => by
    obtain ⟨i, hi, e⟩ := List.mem_iff_getElem.mp hu
    obtain ⟨_, _, g, _⟩ := h.at' i u (As[i]'(by omega)) (by rw [List.getElem?_eq_getElem hi, e]) (List.getElem?_eq_getElem _)
    exact ⟨_, g⟩
  have keep : ∀ {u : Addr} {B : Plc}, z37 B -> LPlAt H u B -> LPlAt (upd H m (.lst (ts.map V.ref ++ [.ref t]))) u B := fun {u B} hB hu => by
    obtain ⟨l, ps, g1, g2⟩ := hu
    exact ⟨l, ps, (z0A (z7X g1 h.lst fun z => nomatch z)).trans g1, g2.past hB h.lst tu⟩
  refine ⟨by rw [upd_same, List.map_append]; rfl, by rw [List.length_append, List.length_append, hl]; rfl, fun i u B e1 e2 => ?_⟩
  by_cases hi : i < ts.length
  . rw [List.getElem?_append_left hi] at e1
    rw [List.getElem?_append_left (by omega)] at e2
    exact keep (ok _ (List.mem_of_getElem? e2)) (h.at' i u B e1 e2)
  . rw [List.getElem?_append_right (by omega)] at e1
    rw [List.getElem?_append_right (by omega), <- hl] at e2
    cases hk : i - ts.length with
    | zero =>
      rw [hk] at e1 e2
      cases e1
      cases e2
      exact keep hA ht
    | succ n =>
      rw [hk] at e1
      cases e1
def zBQ (K : PySem.W.Frag) : R2 := fun x y H Q => ∃ (a b pa pb qa qb : Addr) (w h w' h' : Int) (ns ms ns' ms' : List Int), x = .ref a /\ y = .ref b /\ SqT K H a [.int w, .int h, .ref pa, .ref pb] /\ SqT K H b [.int w', .int h', .ref qa, .ref qb] /\
  SqT K H pa (ns.map V.int) /\ SqT K H pb (ms.map V.int) /\ SqT K H qa (ns'.map V.int) /\ SqT K H qb (ms'.map V.int) /\ Q (.bl (!((w == w') && ((h == h') && (decide (ns = ns') && decide (ms = ms')))))) H
section
variable {X : Cx}
end
section
variable {X : Cx} {pins : List (Addr × Obj)} {σ : St} {H : Hp} {s : Shared}
theorem Inv.adopt {a : Addr} {o : HO} {h' : Heap} {tk : Nat} (I : Inv X pins σ H s) (F : z4F X pins H a) (k : ∀ b u, b ≠ a -> s.heap.get? b = some u -> h'.get? b = some u) (ha : ∃ u, h'.get? a = some u) (new : ObjOk X.prog X.w (upd H a o) h' a o) :
    Inv X pins σ (upd H a o) { s with heap := h', toks := tk } := by
  obtain ⟨f0, f1, f2, f3, f4, f5⟩ := F
  have nH : ∀ {b : Addr} {u : HO}, H b = some u -> b ≠ a := fun e => z0J e f0
  have nch : ∀ {b : Addr}, b ∉ [a] -> b ≠ a := fun h z => h (by simp [z])
  refine I.step (g' := s.gens) (d' := s.drawn) (t' := tk) (ch := [a]) (fun b hb => ?_) (fun b u _ _ c e _ => k b u (nch c) e) (fun b u _ _ c e _ => ⟨u.slots, k b u (nch c) e⟩) (fun b u c _ n => by rw [z0A (nch c)]; exact n) (fun b u c e => ⟨u, k b u (nch c) e⟩)
    (fun b xs e => by rw [z0A (nH e)]; exact e) (fun b u xs e => by rw [z0A (nH e)]; exact e) (fun b ps e => ⟨#[], by rw [z0A (nH e), e]; simp⟩) (fun m hm => ?_) (fun b u e => ?_) I.bare
  . have e : b = a := by simpa using hb
    subst e
    exact ⟨f3, f1, f4, f5⟩
  . obtain ⟨u, es, ep, ho, r⟩ := hm
    exact ⟨u, es, ep, k _ u (Ne.symm f1) ho, r⟩
  . by_cases z : b = a
    . subst z
      rw [upd_same] at e
      cases e
      exact new
    . rw [z0A z] at e
      refine (I.hok b u e).stay (fun c v hc q => k c v ?_ q) (fun c q => by rw [z0A (nH q)]; exact q) fun c xs q => by rw [z0A (nH q)]; exact q
      rcases hc with rfl | hc
      . exact z
      . exact nH hc
end
structure Fly (P : Program) (w : World) (st : List Env) (H H' : Hp) (B : Heap) (a C t : Addr) (h h' : Heap) : Prop where
  un : Un (frs st) [] H H' h h'
  keep : ∀ b o, h.get? b = some o -> H b = none -> b ∉ frs st -> B.get? b = some o
  thr : ∀ b o, h.get? b = some o -> b ∉ frs st -> ∃ o', B.get? b = some o'
  hok : HOk P w H' B
  fl : Heap.FlyingW B st a (.ref C) (.ref t) h'
def CX1 (P : Program) (w : World) : CXT := fun st H s E e s' => ∃ (a t C : Addr) (B : Heap) (H' : Hp), e = .ref a /\ s'.os = s.os /\ AllBare s'.gens /\ Fly P w st H H' B a C t s.heap s'.heap /\ E (.ref C) none H'
section
variable {X : Cx} {pins : List (Addr × Obj)} {σ : St} {H H' : Hp} {s : Shared}
theorem nin {b : Addr} : b ∉ ([] : List Addr) := fun h => nomatch h
theorem z1T {env : Env} {outer : List Env} {L : Addr} (hf : env.frame = some L) : frs (env :: outer) = L :: frs outer := by
  unfold frs
  rw [List.filterMap_cons, hf]
theorem Fly.leave {B : Heap} {a C t : Addr} {h1 h' : Heap} (I : Inv X pins σ H s) (hst : X.stack = X.env :: X.outer) (hf : X.env.frame = some X.env.locals) (hex : X.ex = []) (F : Fly X.prog X.w X.stack H H' B a C t s.heap h1)
    (fl : Heap.FlyingW B X.outer a (.ref C) (.ref t) h') (sm : h1.UpToSlots h') : Fly X.prog X.w X.outer X.H₀ H' B a C t X.s₀.heap h' := by
  have hS : frs X.stack = X.env.locals :: frs X.outer := by rw [hst]; exact z1T hf
  have hx : ∀ b, b ∉ X.ex := fun b => by rw [hex]; exact nin
  have ne : ∀ b o, X.s₀.heap.get? b = some o -> b ≠ X.env.locals := fun b o e => Nat.ne_of_lt (Nat.lt_of_lt_of_le (Heap.lt_size e) I.ok.above)
  have out : ∀ b o, X.s₀.heap.get? b = some o -> b ∉ frs X.outer -> b ∉ frs X.stack := fun b o e n hb => by
    rw [hS] at hb
    rcases List.mem_cons.mp hb with z | z
    . exact ne b o e z
    . exact n z
  have inn : ∀ b, b ∈ frs X.outer -> b ∈ frs X.stack := fun b hb => by rw [hS]; exact List.mem_cons_of_mem _ hb
  have kB : ∀ b o, X.s₀.heap.get? b = some o -> X.H₀ b = none -> b ∉ frs X.outer -> B.get? b = some o := fun b o e n nb =>
    F.keep b o (I.base.keep b o e n nb (hx b)) (I.base.free b o e n (hx b)) (out b o e nb)
  have tB : ∀ b o, X.s₀.heap.get? b = some o -> b ∉ frs X.outer -> ∃ o', B.get? b = some o' := fun b o e nb => by
    obtain ⟨o', e'⟩ := I.base.there b o e (hx b)
    exact F.thr b o' e' (out b o e nb)
  have sl : ∀ b o, X.s₀.heap.get? b = some o -> X.H₀ b = none -> b ∈ frs X.outer -> ∃ sl, h'.get? b = some { o with slots := sl } := fun b o e n hb => by
    obtain ⟨s1, e1⟩ := I.base.slot b o e n hb (hx b)
    obtain ⟨s2, e2⟩ := F.un.slot b _ e1 (I.base.free b o e n (hx b)) (inn b hb) nin
    obtain ⟨_, o', ho', hd⟩ := I.ok.funs.mem hb
    rw [e] at ho'
    cases ho'
    obtain ⟨s3, e3⟩ := sm b _ e2 hd
    exact ⟨s3, e3⟩
  refine ⟨⟨fun b o e n nb _ => fl.1 b o (kB b o e n nb), fun b o e n hb _ => sl b o e n hb, fun b o e n _ => ?_, fun b o e _ => ?_, fun b xs e => F.un.tups b xs (I.base.tups b xs e), fun b o u e => F.un.frzs b o u (I.base.frzs b o u e), fun b ps e => ?_⟩, kB, tB, F.hok, fl⟩
  . obtain ⟨s1, e1⟩ := I.base.any e n (hx b)
    exact F.un.free b _ e1 (I.base.free b o e n (hx b)) nin
  . by_cases hb : b ∈ frs X.outer
    . obtain ⟨s1, e1⟩ := sl b o e (I.ok.frf b hb) hb
      exact ⟨_, e1⟩
    . obtain ⟨o', e'⟩ := tB b o e hb
      exact ⟨o', fl.1 b o' e'⟩
  . obtain ⟨m1, e1⟩ := I.base.tbls b ps e
    obtain ⟨m2, e2⟩ := F.un.tbls b _ e1
    exact ⟨m1 ++ m2, by rw [e2, Array.append_assoc]⟩
theorem Fly.first {e C t : Addr} {vs : List Value} {h1 h' : Heap} (I : Inv X pins σ H s) (hst : X.stack = X.env :: X.outer) (hf : X.env.frame = some X.env.locals) (hex : X.ex = []) (hx : Heap.MadeExcOf s.heap h1 e (.ref C) vs)
    (fl : Heap.FlyingW (PySem.W.hideAll s.heap (frs X.stack)) X.outer e (.ref C) (.ref t) h') (sm : h1.UpToSlots h') : Fly X.prog X.w X.outer X.H₀ H (PySem.W.hideAll s.heap (frs X.stack)) e C t X.s₀.heap h' := by
  have hS : frs X.stack = X.env.locals :: frs X.outer := by rw [hst]; exact z1T hf
  have hxx : ∀ b, b ∉ X.ex := fun b => by rw [hex]; exact nin
  have ne : ∀ b o, X.s₀.heap.get? b = some o -> b ≠ X.env.locals := fun b o e => Nat.ne_of_lt (Nat.lt_of_lt_of_le (Heap.lt_size e) I.ok.above)
  have out : ∀ b o, X.s₀.heap.get? b = some o -> b ∉ frs X.outer -> b ∉ frs X.stack := fun b o e n hb => by
    rw [hS] at hb
    rcases List.mem_cons.mp hb with z | z
    . exact ne b o e z
    . exact n z
  have kB : ∀ b o, X.s₀.heap.get? b = some o -> X.H₀ b = none -> b ∉ frs X.outer -> (PySem.W.hideAll s.heap (frs X.stack)).get? b = some o := fun b o e n nb => PySem.W.hideAll_get _ (I.base.keep b o e n nb (hxx b)) (out b o e nb)
  have tB : ∀ b o, X.s₀.heap.get? b = some o -> b ∉ frs X.outer -> ∃ o', (PySem.W.hideAll s.heap (frs X.stack)).get? b = some o' := fun b o e nb => by
    obtain ⟨o', e'⟩ := I.base.there b o e (hxx b)
    exact ⟨o', PySem.W.hideAll_get _ e' (out b o e nb)⟩
  have sl : ∀ b o, X.s₀.heap.get? b = some o -> X.H₀ b = none -> b ∈ frs X.outer -> ∃ sl, h'.get? b = some { o with slots := sl } := fun b o e n hb => by
    obtain ⟨s1, e1⟩ := I.base.slot b o e n hb (hxx b)
    obtain ⟨_, o', ho', hd⟩ := I.ok.funs.mem hb
    rw [e] at ho'
    cases ho'
    obtain ⟨s3, e3⟩ := sm b _ (hx.keeps b _ e1) hd
    exact ⟨s3, e3⟩
  refine ⟨⟨fun b o e n nb _ => fl.1 b o (kB b o e n nb), fun b o e n hb _ => sl b o e n hb, fun b o e n _ => I.base.free b o e n (hxx b), fun b o e _ => ?_, fun b xs e => I.base.tups b xs e, fun b o u e => I.base.frzs b o u e, fun b ps e => I.base.tbls b ps e⟩, kB, tB, fun b u q => ?_, fl⟩
  . by_cases hb : b ∈ frs X.outer
    . obtain ⟨s1, e1⟩ := sl b o e (I.ok.frf b hb) hb
      exact ⟨_, e1⟩
    . obtain ⟨o', e'⟩ := tB b o e hb
      exact ⟨o', fl.1 b o' e'⟩
  . refine (I.hok b u q).stay (fun c v hc e => PySem.W.hideAll_get _ e fun hm => ?_) (fun _ z => z) fun _ _ z => z
    have n := I.stkFree c hm
    rcases hc with z | z
    . rw [z, q] at n
      cases n
    . rw [z] at n
      cases n
end
section
variable {P : Program} {w : World} {K : PySem.W.Frag} {mg : Str -> Option Value} {base : Heap} {N : List Str} {qual : Str} {scope : Scope} {f : Addr} {cd : Value} {A : Around} {outer : List Env} {s : Shared} {H : Hp} {E : XK}
end
def z9x (X : Cx) (E : XK) : Prop := ∀ (pins : List (Addr × Obj)) (σ : St) (H : Hp) (s : Shared) (h' : Heap) (e C : Addr) (vs : List Value), Inv X pins σ H s -> Heap.MadeExcOf s.heap h' e (.ref C) vs -> E (.ref C) none H -> X.xe (.ref e) { s with heap := h' }
abbrev z3y : List Value := [.type "ValueError", .type "Exception", .type "BaseException", .type "object"]
def XCls (K : PySem.W.Frag) (C : Addr) : Prop := PySem.W.excIn K C z3y "ValueError.__new__" = true
theorem XCls.obj {K : PySem.W.Frag} {C : Addr} {h : Heap} (X : K.In h) (q : XCls K C) : ∃ bm N nm qn bs hdct sn sub ab col dd k0 k1 k2 k3 k5 mN, h.get? C = some (excClassObj nm qn C N bs bm hdct sn sub ab col dd k0 k1 k2 k3 k5 "ValueError.__new__") /\ h.Ns N mN /\ mN "__init__" = none /\ OwnTail h z3y bm /\
    ∃ c0 d0 cd0 sl0, K.lookup C = some ⟨c0, d0, .cls cd0, sl0⟩ /\ cd0.mro = .ref C :: bm := by
  unfold XCls PySem.W.excIn at q
  split at q
  . rename_i dd cd sl ho
    split at q
    . rename_i C' bm k0 k1 k2 k3 n k5 hm hs
      simp only [Bool.and_eq_true, beq_iff_eq, Bool.not_eq_true'] at q
      obtain ⟨⟨⟨⟨⟨rfl, rfl⟩, hdel⟩, ht⟩, hok⟩, hni⟩ := q
      obtain ⟨nm, bs, mro, ns, qn, hd, sn, sub, ab, col, del⟩ := cd
      dsimp only at hm hdel hok hni
      subst hm hdel
      have hsl : sl = #[k0, k1, k2, k3, some (.builtin "ValueError.__new__"), k5] := by
        obtain ⟨l⟩ := sl
        simp only at hs
        rw [hs]
      subst hsl
      exact ⟨bm, ns, nm, qn, bs, hd, sn, sub, ab, col, dd, k0, k1, k2, k3, k5, _, X _ _ ho, .of_isNs (PySem.W.isNs_of_in X hok), PySem.W.nsMap_none_of_in X hok hni, PySem.W.tail_of_in X ht, _, _, _, _, ho, rfl⟩
    . cases q
  . cases q
section
variable {X : Cx} {E : XK} {x : Str} {np cpos pos : Pos} {e : Expr} {es : List Expr} {t : TA} {C : Addr}
def z9y (C : Addr) (E : XK) (t : TA) : TS := fun _ σ H => t σ H fun vs H1 => vs.length <= 1000 /\ E (.ref C) none H1
end
structure XC (K : PySem.W.Frag) (C : Addr) : Prop where
  cls : XCls K C
  ga : PySem.W.findIn K (.ref C) "__getattribute__" = some (some (.builtin "BaseException.__getattribute__"))
  gn : PySem.W.findIn K (.ref C) "__getattr__" = some none
  kc : PySem.W.findIn K (.ref C) "__class__" = some (some (.builtin "object.__class__"))
  kg : PySem.W.specialIn K (.builtin "object.__class__") "__get__" = some (some (.builtin "getset_descriptor.__get__"))
  kt : PySem.W.takesIn K (.builtin "object.__class__") = some true
  km : PySem.W.mroIn K C (.type "object") = some true
section
variable {prog : Program} {w : World} {A : Around} {E : Value -> Shared -> Prop} {s : Shared} {K : PySem.W.Frag} {x C : Addr} {ox : Obj}
theorem gaSlot : Slot "ValueError" "__getattribute__" "BaseException.__getattribute__" := F.attrBase_ValueError.ga
def ExcAt (x C : Addr) (h : Heap) : Prop := ∃ o, h.get? x = some o /\ o.cls = .ref C
theorem ExcAt.ty {M : Model} {h : Heap} (I : ExcAt x C h) : PySem.W.Looks M h (typeOf (.ref x)) (.ref C) := by
  obtain ⟨o, h1, h2⟩ := I
  have L : PySem.W.Looks M h (typeOf (.ref x)) o.cls := (PySem.W.Looks.ld h1).andThen .now
  rw [h2] at L
  exact L
end
section
variable {M : Model} {A : Around} {E : Value -> Shared -> Prop}
variable {nm q : Str} {C N : Addr} {bs bm : List Value} {hdct : Bool} {sn : List Str} {sub : List Value} {ab : Bool} {col : Option Bool} {dd : Option Addr} {k0 k1 k2 k3 k5 : Option Value} {newId : String}
variable {nm' q' : Str} {G N' : Addr} {bs' bm' : List Value} {hdct' : Bool} {sn' : List Str} {sub' : List Value} {ab' : Bool} {col' : Option Bool} {dd' : Option Addr} {k0' k1' k2' k3' k5' : Option Value} {newId' : String}
theorem z1J {h : Heap} {g : Array GenState} {d : Drawn} {t : Nat} {os : OsState} {e : Addr} {oe : Obj} {Q : Bool -> Shared -> Prop}
    (hC : h.get? C = some (excClassObj nm q C N bs bm hdct sn sub ab col dd k0 k1 k2 k3 k5 newId)) (hG : h.get? G = some (excClassObj nm' q' G N' bs' bm' hdct' sn' sub' ab' col' dd' k0' k1' k2' k3' k5' newId'))
    (he : h.get? e = some oe) (hcls : oe.cls = .ref C) (hbase : bm'.contains (.type "BaseException") = true) (hsub : (Value.ref C :: bm).contains (.ref G) = true)
    (hq : Q true ⟨h, g, d, t, os⟩) : wpAny M A (excMatches (.ref e) (.ref G)) Q E ⟨h, g, d, t, os⟩ := by
  have hcB : (Value.ref G :: bm').contains (.type "BaseException") = true := by rw [List.contains_cons, hbase, Bool.or_true]
  have f := tc_notTuple
  unfold excMatches
  repeat (first | (with_reducible refine wpAny_loadPart_at he ?_; rw [hcls]) | with_reducible refine wpAny_loadPart_at hG ?_ | (with_reducible refine wpAny_isSubtype_exc hG ?_; rw [hcB]) | (with_reducible refine wpAny_isSubtype_exc hC ?_; rw [hsub]) | wp_step)
  exact hq
end
section
variable {X : Cx} {pins : List (Addr × Obj)} {σ : St} {H : Hp} {s : Shared}
theorem z0l {M : Model} {A : Around} {E : Value -> Shared -> Prop} {i : Nat} {n : Str} {pos : Pos} {Q : Unit -> Shared -> Prop} (I : Inv X pins σ H s) (hN : X.N.Nodup) (hi : X.N[i]? = some n) (hk : X.env.scope.names.lookup n = some .local)
    (h : ∀ s', Inv X pins (σ.set i none) H s' -> Q () s') : wpAny M A (do bindName X.env n .none; unbindBehindTheSuite X.env n pos) Q E s := by
  obtain ⟨m, hn, hl⟩ := id I.loc
  have hcls : (X.env.scope.kind == .class || (X.env.scope.kind == .module && X.env.locals != X.env.globals)) = false := by rw [I.ok.kind]; rfl
  refine wpAny_nameGoes_keeps hk hn hcls fun h' v hn' hs => ?_
  obtain ⟨oL, _, _, hoL, _⟩ := id hn
  refine h _ ⟨I.ok, I.os, I.bare, ⟨fun b o e n' hb hx => ?_, fun b o e n' hb hx => ?_, I.base.free, fun b o e hx => ?_, I.base.tups, I.base.frzs, I.base.tbls⟩, ⟨_, hn', fun j y v' e1 e2 e3 => ?_⟩, fun y c e => ?_, I.free, I.freeC, fun p hp => ?_, fun b ob e => ?_, by simpa using I.len⟩
  . exact (hs.2 b (Nat.ne_of_lt (Nat.lt_of_lt_of_le (Heap.lt_size e) I.ok.above))).trans (I.base.keep b o e n' hb hx)
  . obtain ⟨sl, e1⟩ := I.base.slot b o e n' hb hx
    exact ⟨sl, (hs.2 b (Nat.ne_of_lt (Nat.lt_of_lt_of_le (Heap.lt_size e) I.ok.above))).trans e1⟩
  . obtain ⟨o', e1⟩ := I.base.there b o e hx
    exact ⟨o', (hs.2 b (Nat.ne_of_lt (Nat.lt_of_lt_of_le (Heap.lt_size e) I.ok.above))).trans e1⟩
  . have hj : j ≠ i := fun z => by
      rw [z] at e2
      have hiσ : i < σ.length := by rw [I.len]; exact (List.getElem?_eq_some_iff.mp hi).1
      rw [List.getElem?_set_self hiσ] at e2
      cases e2
    rw [List.getElem?_set_ne (Ne.symm hj)] at e2
    obtain ⟨u', r', q⟩ := hl j y v' e1 e2 e3
    refine ⟨u', r', ?_⟩
    rcases q with ⟨k, e⟩ | ⟨k, c, e, o, ho, hd⟩
    . refine .inl ⟨k, ?_⟩
      have : y ≠ n := fun e => hj (z29 hN e1 (e ▸ hi))
      simp [this, e]
    . exact .inr ⟨k, c, e, o, (hs.2 c (I.cne y c e)).trans ho, hd⟩
  . obtain ⟨v', o, ho, hd⟩ := I.cell y c e
    exact ⟨v', o, (hs.2 c (I.cne y c e)).trans ho, hd⟩
  . obtain ⟨e1, n1, ne, nf, d⟩ := I.pin p hp
    exact ⟨(hs.2 p.1 ne).trans e1, n1, ne, nf, d⟩
  . refine (I.hok b ob e).stay (fun c w' hc q => (hs.2 c ?_).trans q) (fun _ q => q) fun _ _ q => q
    rintro rfl
    have hfree := I.free
    rcases hc with z | z
    . rw [<- z, hfree] at e; cases e
    . rw [hfree] at z; cases z
end
theorem Fly.on {P : Program} {w : World} {st : List Env} {H H' : Hp} {B : Heap} {a C t : Addr} {h h1 h2 : Heap} (F : Fly P w st H H' B a C t h h1) (fl : Heap.FlyingW B st a (.ref C) (.ref t) h2) (sm : h1.UpToSlots h2) : Fly P w st H H' B a C t h h2 := by
  have sl : ∀ b o, h.get? b = some o -> H b = none -> b ∈ frs st -> ∃ sl, h2.get? b = some { o with slots := sl } := fun b o e n hb => by
    obtain ⟨s1, e1⟩ := F.un.slot b o e n hb nin
    obtain ⟨_, o', ho', hd⟩ := F.fl.2.2.1.mem hb
    rw [e1] at ho'
    cases ho'
    obtain ⟨s2, e2⟩ := sm b _ e1 hd
    exact ⟨s2, e2⟩
  refine ⟨⟨fun b o e n nb _ => fl.1 b o (F.keep b o e n nb), fun b o e n hb _ => sl b o e n hb, F.un.free, fun b o e _ => ?_, F.un.tups, F.un.frzs, F.un.tbls⟩, F.keep, F.thr, F.hok, fl⟩
  by_cases hb : b ∈ frs st
  . obtain ⟨o', e'⟩ := F.un.there b o e nin
    obtain ⟨_, o2, ho2, hd⟩ := F.fl.2.2.1.mem hb
    obtain ⟨s2, e2⟩ := sm b _ ho2 hd
    exact ⟨_, e2⟩
  . obtain ⟨o', e'⟩ := F.thr b o e hb
    exact ⟨o', fl.1 b o' e'⟩
theorem Fly.free {P : Program} {w : World} {st : List Env} {H H' : Hp} {B : Heap} {a C t : Addr} {h h1 : Heap} (F : Fly P w st H H' B a C t h h1) : H' a = none := by
  cases q : H' a with
  | none => rfl
  | some u =>
    have x := F.hok a u q
    have n : B.get? a = none := F.fl.2.1
    exfalso
    have some_of : ∃ o, B.get? a = some o := by
      clear q
      induction u with
      | lst xs => obtain ⟨_, _, _, _, e⟩ := x; exact ⟨_, e⟩
      | tup xs => obtain ⟨_, _, _, o, e, _⟩ := x; exact ⟨_, e⟩
      | dK kvs => obtain ⟨_, _, _, _, o, _, _, e, _⟩ := x; exact ⟨_, e⟩
      | dT kvs => obtain ⟨_, _, _, _, o, _, _, e, _⟩ := x; exact ⟨_, e⟩
      | set S n => obtain ⟨o, _, _, _, e, _⟩ := x; exact ⟨_, e⟩
      | ins C dx fs => obtain ⟨_, _, _, e, _⟩ := x; exact ⟨_, e⟩
      | own y => exact x
      | xd fs => obtain ⟨_, ⟨_, _, _, e, _⟩, _⟩ := x; exact ⟨_, e⟩
      | rng lo hi => obtain ⟨_, _, _, e⟩ := x; exact ⟨_, e⟩
      | frz ob u ih => obtain ⟨e, _⟩ := x; exact ⟨_, e⟩
      | tbl ps => exact ⟨_, (show B.get? a = some _ from x)⟩
      | met f y => exact ⟨_, (show B.get? a = some _ from x)⟩
      | ext φ => obtain ⟨_, ⟨_, e⟩, _⟩ := x; exact ⟨_, e⟩
    obtain ⟨o, e⟩ := some_of
    rw [n] at e
    cases e
abbrev Xh (X : Cx) (a : Addr) (oe : Obj) : Cx := { X with A := X.A.mark (some (.ref a)), calm := false, pn := X.pn ++ [(a, oe)], xe := fun _ _ => False }
section
variable {X : Cx} {pins : List (Addr × Obj)} {σ : St} {H : Hp} {s : Shared} {a : Addr} {oe : Obj}
theorem Cx.Ok.hand (ok : X.Ok) : (Xh X a oe).Ok :=
  ⟨ok.mod, ok.kind, ok.glob, ok.blt, ok.above, ok.inj, ok.has, ok.cab, (fun z => nomatch z), ok.frames, ok.stk, ok.exf, ok.bs, ok.bsz, ok.noex, ok.exfs, ok.funs, ok.frf⟩
theorem Inv.hand (I : Inv X pins σ H s) (e : s.heap.get? a = some oe) (n : H a = none) (ne : a ≠ X.env.locals) (nf : a ∉ X.fs) (d : ∀ v, oe.data ≠ .cell v) : Inv (Xh X a oe) pins σ H s :=
  ⟨I.ok.hand, I.os, I.bare, I.base, I.loc, I.cell, I.free, I.freeC, fun p hp => by
    rcases List.mem_append.mp hp with hp | hp
    . rcases List.mem_append.mp hp with hp | hp
      . exact I.pin p (List.mem_append_left _ hp)
      . rw [List.mem_singleton.mp hp]
        exact ⟨e, n, ne, nf, d⟩
    . exact I.pin p (List.mem_append_right _ hp), I.hok, I.len⟩
theorem Inv.unhand (ok : X.Ok) (I : Inv (Xh X a oe) pins σ H s) : Inv X pins σ H s :=
  ⟨ok, I.os, I.bare, I.base, I.loc, I.cell, I.free, I.freeC, fun p hp => by
    rcases List.mem_append.mp hp with hp | hp
    . exact I.pin p (List.mem_append_left _ (List.mem_append_left _ hp))
    . exact I.pin p (List.mem_append_right _ hp), I.hok, I.len⟩
def z9D : V -> Option Value
  | .ref a => some (.ref a)
  | .ty n => some (.type n)
  | _ => none
theorem z75 {y : V} {u v : Value} (h : z9D y = some u) (r : RelV y v) : v = u := by
  cases y with
  | ref a => cases h; exact r
  | ty n => cases h; exact r
  | _ => cases h
end
def zBR (K : PySem.W.Frag) (G : Addr) (sp : Sp) (dvs : List V) (t : TA) (i : Nat) (th : Addr -> Addr -> TS) : TS := fun D σ H => t σ H fun vs H1 => ∃ E : XK, sp (vs ++ dvs) H1 (fun _ H2 => D.nx σ H2) E /\
  ∀ Cv d H2, E Cv d H2 -> ∃ c, Cv = .ref c /\ XC K c /\ PySem.W.mroIn K c (.ref G) = some true /\ ∀ a, th a c { nx := fun σ' H' => D.nx (σ'.set i none) H', rt := D.rt, bk := fun σ' H' => D.bk (σ'.set i none) H', ct := fun σ' H' => D.ct (σ'.set i none) H' } (σ.set i (some (.ref a))) H2
section
variable {X : Cx} {k : Nat} {fa G : Addr} {fd : FuncData} {ps : List Str} {sp : Sp} {dvs : List V} {ds : List Value} {x gn n : Str} {p cp ep gp hp tp : Pos} {e : Expr} {es : List Expr} {t : TA} {b₀ : Stmt} {suite : List Stmt} {i : Nat} {th : Addr -> Addr -> TS}
theorem z5H {pins : List (Addr × Obj)} {D : Ends} {a : Addr} {oe : Obj} {f : Flow} {s : Shared} {E : Value -> Shared -> Prop} (ok : X.Ok) (hN : X.N.Nodup) (hi : X.N[i]? = some n) (hloc : X.env.scope.names.lookup n = some .local)
    (h : SP (Xh X a oe) pins { nx := fun σ' H' => D.nx (σ'.set i none) H', rt := D.rt, bk := fun σ' H' => D.bk (σ'.set i none) H', ct := fun σ' H' => D.ct (σ'.set i none) H' } f s) :
    wpAny (model X.prog X.w) X.A (do bindName X.env n .none; unbindBehindTheSuite X.env n hp) (fun _ s' => SP X pins D f s') E s := by
  cases f with
  | next => obtain ⟨σ', H', I, q⟩ := h; exact z0l (I.unhand ok) hN hi hloc fun s' I' => ⟨_, H', I', q⟩
  | brk => obtain ⟨σ', H', I, q⟩ := h; exact z0l (I.unhand ok) hN hi hloc fun s' I' => ⟨_, H', I', q⟩
  | cont => obtain ⟨σ', H', I, q⟩ := h; exact z0l (I.unhand ok) hN hi hloc fun s' I' => ⟨_, H', I', q⟩
  | ret u => obtain ⟨v, σ', H', I, r, q⟩ := h; exact z0l (I.unhand ok) hN hi hloc fun s' I' => ⟨v, _, H', I', r, q⟩
theorem z9z {pins : List (Addr × Obj)} {σ : St} {H1 H' : Hp} {s1 s' : Shared} {B : Heap} {a c t' : Addr} {D : Ends} {E : Value -> Shared -> Prop} (I : Inv X pins σ H1 s1) (hst : X.stack = X.env :: X.outer) (hf : X.env.frame = some X.env.locals)
    (hgG : Gl X gn) (hmG : X.mg gn = some (.ref G)) (hG : XC X.K G) (hN : X.N.Nodup) (hi : X.N[i]? = some n) (hloc : X.env.scope.names.lookup n = some .local)
    (hs : ∀ a oe c, oe.cls = .ref c -> XC X.K c -> PSs (Xh X a oe) (b₀ :: suite) (th a c)) (os : s'.os = s1.os) (bare : AllBare s'.gens) (F : Fly X.prog X.w X.stack H1 H' B a c t' s1.heap s'.heap) (Zc : XC X.K c) (ab : PySem.W.mroIn X.K c (.ref G) = some true)
    (q : th a c { nx := fun σ' H' => D.nx (σ'.set i none) H', rt := D.rt, bk := fun σ' H' => D.bk (σ'.set i none) H', ct := fun σ' H' => D.ct (σ'.set i none) H' } (σ.set i (some (.ref a))) H') (hdG : (gn == ("__debug__" : Str)) = false) :
    wpAny (model X.prog X.w) X.A (noteFrame (.ref a) X.env) (fun _ s₂ => wpAny (model X.prog X.w) X.A (setFlight (.ref a) none) (fun _ s₃ =>
      wpAny (model X.prog X.w) X.A (handleBy (.ref a) X.env [.ExceptHandler (some (.Name gn gp)) (some n) (b₀ :: suite) hp]) (SP X pins D) E s₃) E s₂) E s' := by
  have hfr : X.A.frames = some (X.env :: X.outer) := by rw [<- hst]; exact I.ok.frames
  have hfl : Heap.FlyingW B (X.env :: X.outer) a (.ref c) (.ref t') s'.heap := by rw [<- hst]; exact F.fl
  refine wpAny_looks_onW hfr hf hfl fun h₄ held₄ sm₄ => ?_
  refine wpAny_landsW held₄ fun h₅ fl₅ sm₅ => ?_
  have F₅ := F.on (by rw [hst]; exact fl₅) (sm₄.trans sm₅)
  have at5 : ∀ {h : Heap}, Fly X.prog X.w X.stack H1 H' B a c t' s1.heap h -> Inv X pins σ H' { s' with heap := h } := fun {h} Fh => I.call' (s' := { s' with heap := h }) os Fh.un (Fh.hok.kept Fh.fl.1) bare (fun b z => absurd z nin)
  have pinok : ∀ {h : Heap}, Fly X.prog X.w X.stack H1 H' B a c t' s1.heap h -> ∃ oe, h.get? a = some oe /\ oe.cls = .ref c /\ (∀ v, oe.data ≠ .cell v) /\ a ≠ X.env.locals /\ a ∉ X.fs := fun {h} Fh => by
    obtain ⟨_, _, ff, oe, vs, T, oT, ts, he, hcl, hdat, _⟩ := Fh.fl
    have nofr : ∀ b ∈ frs X.stack, b ≠ a := fun b hb z => by
      obtain ⟨_, o, ho, hd⟩ := ff.mem hb
      rw [z, he] at ho
      cases ho
      exact hd vs hdat
    refine ⟨oe, he, hcl.1, (fun v z => by rw [hdat] at z; cases z), fun z => nofr X.env.locals (by rw [hst, z1T hf]; exact List.mem_cons_self) z.symm, fun z => nofr a (by rw [hst, z1T hf]; exact List.mem_cons_of_mem _ z) rfl⟩
  have I₅ := at5 F₅
  obtain ⟨oe₅, e₅, c₅, d₅, l₅, f₅⟩ := pinok F₅
  have J₅ : Inv (Xh X a oe₅) pins σ H' { s' with heap := h₅ } := I₅.hand e₅ F₅.free l₅ f₅ d₅
  refine wpAny_handleBy_cons (codeAny_handlers_test (z1K (X := Xh X a oe₅) J₅ hgG hmG ?_ hdG)) (by intro z; cases z)
  obtain ⟨bm, N, nm, qn, bs, hdct, sn, sub, ab', col, dd, k0, k1, k2, k3, k5, mN, hC, hN', hni, T, c0, d0, cd0, sl0, ho, hmro⟩ := XCls.obj I₅.kIn Zc.cls
  obtain ⟨bm2, N2, nm2, qn2, bs2, hdct2, sn2, sub2, ab2, col2, dd2, j0, j1, j2, j3, j5, mN2, hC2, hN2, hni2, T2, _⟩ := XCls.obj I₅.kIn hG.cls
  have hsub : (Value.ref c :: bm).contains (.ref G) = true := by
    unfold PySem.W.mroIn PySem.W.clsIn at ab
    rw [ho] at ab
    dsimp only [Option.bind] at ab
    rw [hmro, if_neg (by simp)] at ab
    exact Option.some.inj ab
  obtain ⟨sh, sg, sd, stk, sos⟩ := s'
  refine z1J hC hC2 e₅ c₅ (T2.hasType (X := "BaseException") (b := true) (by decide +kernel)) hsub (codeAny_handlers_suite_as ?_)
  refine lands_againW (by rw [hst] at F₅; exact F₅.fl) fun h₆ fl₆ sm₆ => ?_
  have F₆ := F₅.on (by rw [hst]; exact fl₆) sm₆
  have I₆ := at5 F₆
  obtain ⟨oe, e₆, c₆, d₆, l₆, f₆⟩ := pinok F₆
  have J₆ : Inv (Xh X a oe) pins σ H' _ := I₆.hand e₆ F₆.free l₆ f₆ d₆
  refine z1a (X := Xh X a oe) (v := .ref a) J₆ hN hi (.inl hloc) rfl (fun s₇ J₇ => ?_) (.inr hloc)
  refine wpAny_mono (hs a oe c c₆ Zc pins s₇ _ H' _ J₇ q) (fun f s₈ h₈ => ?_) fun _ _ z => z.elim
  exact z5H I.ok hN hi hloc h₈
end
structure Owx (P : Program) (w : World) (K : PySem.W.Frag) (mg : Str -> Option Value) (base : Heap) (x : Str) (ps : List Str) (k : Nat) (sp : Sp) : Prop where
  ex : ∃ (f : Addr) (fd : FuncData), mg x = some (.ref f) /\ PySem.W.keepIn K (.ref f) = true /\ Binds K fd ps [] /\ FnOk P w K mg base (CX1 P w) k f fd ps sp
structure Ec (K : PySem.W.Frag) (mg : Str -> Option Value) (x : Str) (C : Addr) : Prop where
  m : mg x = some (.ref C)
  c : XC K C
section
variable {X : Cx} {k j : Nat} {ps : List Str} {sp : Sp} {x gn n : Str} {G : Addr} {p pos cp ep gp hp tp : Pos} {e : Expr} {es : List Expr} {t : TA} {E : XK} {b₀ : Stmt} {suite : List Stmt} {i : Nat} {th : Addr -> Addr -> TS}
end
section
variable {prog : Program} {w : World} {A : Around} {E : Value -> Shared -> Prop} {h : Heap} {g : Array GenState} {d : Drawn} {t : Nat} {os : OsState}
variable {nm q : Str} {C N : Addr} {bs bm bmB : List Value} {hdct : Bool} {sn : List Str} {sub : List Value} {ab : Bool} {col : Option Bool} {dd : Option Addr} {k0 k1 k2 k3 k5 : Option Value} {B newId initId : String}
abbrev z5I (C t : Addr) : Obj := { cls := .ref C, data := .fields #[.ref t, .none, .none, .none, .bool false, .none] }
end
inductive VeTail : List Value -> Prop
  | base : VeTail z3y
  | step {c : Addr} {r : List Value} : VeTail r -> VeTail (.ref c :: r)
theorem VeTail.passes (self : Value) {l : List Value} (t : VeTail l) : refuseLoop self "__setattr__" l = pure () := by
  induction t with
  | base => exact PySem.F.store_ValueError.passes self
  | step _ ih => rw [refuseLoop_ref]; exact ih
structure XE (K : PySem.W.Frag) (C : Addr) : Prop where
  ex : ∃ (dd : Option Addr) (cd : ClassData) (k0 k1 k2 k3 k5 : Option Value) (bm : List Value), K.lookup C = some ⟨.type "type", dd, .cls cd, #[k0, k1, k2, k3, some (.builtin "ValueError.__new__"), k5]⟩ /\ cd.mro = .ref C :: bm /\ cd.hasDel = false /\ cd.hasDict = true /\
    VeTail bm /\ PySem.W.tailIn K z3y bm = true /\ PySem.W.nsOkIn K cd.ns = true
  ga : PySem.W.findIn K (.ref C) "__getattribute__" = some (some (.builtin "BaseException.__getattribute__"))
  gn : PySem.W.findIn K (.ref C) "__getattr__" = some none
  sa : PySem.W.findIn K (.ref C) "__setattr__" = some (some (.builtin "object.__setattr__"))
  kc : PySem.W.findIn K (.ref C) "__class__" = some (some (.builtin "object.__class__"))
  kg : PySem.W.specialIn K (.builtin "object.__class__") "__get__" = some (some (.builtin "getset_descriptor.__get__"))
  kt : PySem.W.takesIn K (.builtin "object.__class__") = some true
  km : PySem.W.mroIn K C (.type "object") = some true
section
variable {K : PySem.W.Frag} {C : Addr}
theorem XE.obj {h : Heap} (X : K.In h) (Z : XE K C) : ∃ bm N nm qn bs sn sub ab col dd k0 k1 k2 k3 k5 mN, h.get? C = some (excClassObj nm qn C N bs bm true sn sub ab col dd k0 k1 k2 k3 k5 "ValueError.__new__") /\ h.Ns N mN /\ OwnTail h z3y bm /\ VeTail bm /\
    ∃ cd, PySem.W.clsIn K C = some cd /\ cd.mro = .ref C :: bm /\ cd.hasDict = true /\ cd.ns = N /\ ∃ d0 sl0, K.lookup C = some ⟨.type "type", d0, .cls cd, sl0⟩ := by
  obtain ⟨dd, cd, k0, k1, k2, k3, k5, bm, lk, hm, hdel, hdct, vt, ht, hok⟩ := Z.ex
  have hcls : PySem.W.clsIn K C = some cd := by unfold PySem.W.clsIn; rw [lk]
  have lk' := lk
  obtain ⟨nm, bs, mro, ns, qn, hd, sn, sub, ab, col, del⟩ := cd
  dsimp only at hm hdel hok hdct
  subst hm hdel hdct
  exact ⟨bm, ns, nm, qn, bs, sn, sub, ab, col, dd, k0, k1, k2, k3, k5, _, X _ _ lk, (.of_isNs (PySem.W.isNs_of_in X hok)), PySem.W.tail_of_in X ht, vt, _, hcls, rfl, rfl, rfl, _, _, lk'⟩
end
section
variable {prog : Program} {w : World} {A : Around} {E : Value -> Shared -> Prop} {s : Shared} {K : PySem.W.Frag} {x C : Addr}
theorem z3z {R : Result -> Shared -> Prop} (X : K.In s.heap) (Z : XE K C) (I : ExcAt x C s.heap) (h : R (.ok (.ret (.ref C))) s) :
    codeAny (model prog w) A (.call (.builtin "getset_descriptor.__get__") ⟨[.builtin "object.__class__", .ref x, .ref C], []⟩) R s := by
  obtain ⟨hh, g, d, t, os⟩ := s
  obtain ⟨bm, N, nm, qn, bs, sn, sub, ab, col, dd, k0, k1, k2, k3, k5, mN, hC, hN, T, _⟩ := XE.obj X Z
  obtain ⟨ox, hx, hc⟩ := I
  have ow : ".".intercalate ("object.__class__".cutAt '.').dropLast = "object" := by decide +kernel
  have hcO : (Value.ref C :: bm).contains (.type (".".intercalate ("object.__class__".cutAt '.').dropLast)) = true := by
    rw [ow, List.contains_cons, T.hasType (X := "object") (b := true) (by decide +kernel)]
    rfl
  have hT5 : (⟨hh, g, d, t, os⟩ : Shared).TypeIs (.builtin "object.__class__") "getset_descriptor" := F.typeOf_object_class
  refine codeAny_call_builtin F.slot_gs_get.plain F.entry_gs_get
    (F.slot_gs_get.check _ _ _ _ _ _ _ _ hT5 (F.args_gs_get _ _ _) ?_)
  repeat (any_goals (first
    | assumption
    | (with_reducible refine wpAny_loadPart_at hx ?_; rw [hc])
    | (with_reducible refine wpAny_isSubtype_exc hC ?_; rw [hcO])
    | wp_step))
  refine ⟨Code.quiet_builtin _ (by decide +kernel), codeAny_builtin F.entry_object_class ?_⟩
  repeat (any_goals (first
    | assumption
    | (with_reducible refine wpAny_loadPart_at hx ?_; rw [hc])
    | wp_step))
theorem z40 {Q : Option Value -> Shared -> Prop} (X : K.In s.heap) (Z : XE K C) (I : ExcAt x C s.heap) (h : Q (some (.ref C)) { s with toks := s.toks + 1 }) : wpAny (model prog w) A (getAttr? (.ref x) "__class__") Q E s := by
  obtain ⟨hh, g, d, t, os⟩ := s
  obtain ⟨bm, N, nm, qn, bs, sn, sub, ab, col, dd, k0, k1, k2, k3, k5, mN, hC, hN, T, _⟩ := XE.obj X Z
  have L0 := I.ty (M := model prog w)
  have L1 := PySem.W.looks_findIn (M := model prog w) X Z.ga
  have L2' := PySem.W.looks_findIn (M := model prog w) X Z.gn
  have L4 := PySem.W.looks_findIn (M := model prog w) X Z.kc
  have hk : builtinKind "BaseException.__getattribute__" = some .slot := by decide +kernel
  have hsplit : splitId "BaseException.__getattribute__" = some ("BaseException", "__getattribute__") := by decide +kernel
  have hcB : (Value.ref C :: bm).contains (.type "BaseException") = true := by
    rw [List.contains_cons, T.hasType (X := "BaseException") (b := true) (by decide +kernel)]
    rfl
  obtain ⟨ox, hx, hc⟩ := id I
  have ha := F.args_bexc_ga (.ref x) (.str "__class__" t)
  have hT5 : (⟨hh, g, d, t + 1, os⟩ : Shared).TypeIs (.builtin "object.__class__") "getset_descriptor" := F.typeOf_object_class
  have f5 := F.typeOf_object_class
  have f6 := F.slot_gs_get.lookup
  have f7 := F.slot_gs_set.lookup
  unfold getAttr? getAttrBy? getAttrBy
  refine wpAny_bind (wpAny_mkText (wpAny_bind ?_))
  refine wpAny_attempt (wpAny_holding (wpAny_bind ?_))
  refine L0.at (wpAny_bind (L1.at ?_))
  show wpAny _ _ (getAttrByItsOwn _ _ _ _ _ _) _ _ _
  unfold getAttrByItsOwn
  show wpAny _ _ (typeLookup (.ref C) "__getattr__" >>= _) _ _ _
  refine wpAny_bind (L2'.at ?_)
  refine wpAny_bind (wpAny_attempt (wpAny_holding ?_))
  show wpAny _ _ (boundAndCalled (.builtin "BaseException.__getattribute__") (.ref x) _) _ _ _
  unfold boundAndCalled
  refine wpAny_bind (wpAny_of_eq (gaSlot.bind _) ?_)
  refine wpAny_call (codeAny_call_builtin gaSlot.plain F.entry_bexc_ga ?_)
  simp only [checkBuiltinCall, hk, hsplit]
  refine wpAny_bind ?_
  unfold isInstance
  repeat (first
    | (with_reducible refine wpAny_loadPart_at hx ?_; rw [hc])
    | (with_reducible refine wpAny_isSubtype_exc hC ?_; rw [hcB])
    | wp_step)
  refine L4.at ?_
  repeat (any_goals (first | assumption | wp_step))
  refine z3z (s := ⟨hh, g, d, t + 1, os⟩) X Z I ?_
  repeat (any_goals (first | assumption | wp_step))
theorem z61 (Z : XE K C) : PySem.W.KitX K (.ref x) (.ref C) (ExcAt x C) where
  ty := fun _ _ _ I => I.ty
  it := fun M h X _ => by
    obtain ⟨_, _, _, _, _, _, _, _, _, _, _, _, _, _, _, _, _, _, _, _, cd0, _, _, _, _, d0, sl0, ho⟩ := XE.obj X Z
    intro A' Q' E' s' k q
    unfold isType loadHead
    exact wpAny_bind (wpAny_loadPart (k _ _ (X _ _ ho)) (wpAny_pure q))
  ne := fun h tp dd its n sl X htp => by
    obtain ⟨_, _, _, _, _, _, _, _, _, _, _, _, _, _, _, _, _, _, _, _, cd0, _, _, _, _, d0, sl0, ho⟩ := XE.obj X Z
    refine Bool.eq_false_iff.mpr fun q => ?_
    have e : C = tp := Value.ref.inj (beq_iff_eq.mp q)
    subst e
    have z := (X _ _ ho).symm.trans htp
    simp at z
  ca := fun X I k => z40 X Z I k
end
section
variable {prog : Program} {w : World} {A : Around} {E : Value -> Shared -> Prop} {s : Shared} {K : PySem.W.Frag} {x C : Addr}
theorem z2y {name : Str} {v : Value} {Q : Unit -> Shared -> Prop} {mA : Str -> Option Value} {ns : List Str} (X : K.In s.heap) (Z : XE K C) (hn : PySem.W.findIn K (.ref C) name = some none) (I : s.heap.Inst x C mA)
    (hq : ∀ h' tk', h'.Inst x C (fun y => if y = name then some v else mA y) ->
      (∀ b o, b ≠ x -> (∀ o₀ dx, s.heap.get? x = some o₀ -> o₀.dict = some dx -> b ≠ dx) -> s.heap.get? b = some o -> h'.get? b = some o) ->
      (∀ o₀, s.heap.get? x = some o₀ -> ∃ o₁, h'.get? x = some o₁ /\ o₁.cls = o₀.cls /\ o₁.data = o₀.data /\ o₁.slots = o₀.slots /\ (∀ dx, o₀.dict = some dx -> o₁.dict = some dx) /\ (o₀.dict = none -> o₁.dict = some s.heap.objs.size)) -> Q () { s with heap := h', toks := tk' }) (hw : Within mA ns) (hsz : ns.length <= 1000) :
    wpAny (model prog w) A (setAttr (.ref x) name v) Q E s := by
  obtain ⟨h, g, d, t, os⟩ := s
  obtain ⟨bm, N, nm, qn, bs, sn, sub, ab, col, dd, k0, k1, k2, k3, k5, mN, hC, hN, T, vt, cd, hcd, hmro, hdct, _⟩ := XE.obj X Z
  obtain ⟨o, hx, hc, hnc, hd⟩ := I
  have SF := PySem.F.store_ValueError
  have L0 := ExcAt.ty (M := model prog w) (x := x) (C := C) (h := h) ⟨o, hx, hc⟩
  have Ls := PySem.W.looks_findIn (M := model prog w) X Z.sa
  have Ln := PySem.W.looks_findIn (M := model prog w) X hn
  have f3 := SF.slot.bind (.ref x)
  unfold setAttr
  refine wpAny_bind (wpAny_mkText (wpAny_bind ?_))
  unfold callSpecial? specialOf
  refine wpAny_bind (wpAny_bind (L0.at (Ls.at ?_)))
  refine wpAny_holding ?_
  rw [f3]
  refine wpAny_bind (wpAny_pure ?_)
  refine wpAny_bind (wpAny_call ?_)
  have sub : PySem.W.Looks (model prog w) h (isInstance (.ref x) (.type "object")) true := L0.andThen (PySem.W.looks_mroIn X Z.km)
  refine codeAny_call_builtin SF.slot.plain SF.entry (@PySem.W.check_slot (model prog w) _ _ ⟨h, g, d, t + 1, os⟩ "object.__setattr__" "object" "__setattr__" (.ref x) [.str name t, v] [] _ SF.kind SF.split sub (SF.args (.ref x) (.str name t) v) ?_)
  show wpAny _ _ (Builtin.«object.__setattr__» ⟨[.ref x, .str name t, v], []⟩) _ _ _
  rw [PySem.W.osa_eq, refuse_eq]
  have hm : PySem.W.Looks (model prog w) h (mroOf (.ref C)) cd.mro := (PySem.W.looks_clsIn X hcd).andThen .now
  refine wpAny_bind (wpAny_bind (L0.at (wpAny_bind (hm.at ?_))))
  rw [hmro, (VeTail.step vt).passes]
  refine wpAny_pure (wpAny_bind (L0.at (wpAny_bind (Ln.at (wpAny_bind (wpAny_pure ?_))))))
  show wpAny _ _ (Builtin.ObjectAttr.storeInOwnDict (.ref x) (.ref C) (.str name t) name v _) _ _ _
  unfold Builtin.ObjectAttr.storeInOwnDict
  refine wpAny_bind (wpAny_pure ?_)
  show wpAny _ _ (instanceDict x true >>= _) _ _ _
  unfold instanceDict
  rcases hd with ⟨hdn, hmA⟩ | ⟨dx, hdx, hne, hns⟩
  . repeat (first | (with_reducible refine wpAny_loadPart_at hx ?_; rw [hc]) | with_reducible refine wpAny_loadPart_at hC ?_ | wp_step)
    rw [hdn, if_neg (by simp [typeHasDict])]
    have mk : ∀ {Q' : Option Addr -> Shared -> Prop} {E' : Value -> Shared -> Prop}, wpAny (model prog w) A.in1 (do
        let d <- alloc { cls := Value.type "dict", data := Data.dict #[] }
        update x fun o => { cls := o.cls, dict := some d, data := o.data, slots := o.slots }
        dictMade (Value.ref C) x d) Q' E' ⟨h, g, d, t + 1, os⟩ -> wpAny (model prog w) A.in1 (match o.data with
      | .cls c => pure none
      | _ => do
        let d <- alloc { cls := Value.type "dict", data := Data.dict #[] }
        update x fun o => { cls := o.cls, dict := some d, data := o.data, slots := o.slots }
        dictMade (Value.ref C) x d) Q' E' ⟨h, g, d, t + 1, os⟩ := fun {Q' E'} q => by
      split
      . rename_i c hcd'
        exact absurd hcd' (hnc c)
      . exact q
    refine mk ?_
    have hx₁ : (h.push { cls := .type "dict", data := .dict #[] }).get? x = some o := Heap.get?_push_of_some _ hx
    have hxs : x ≠ h.objs.size := Nat.ne_of_lt (Heap.lt_size hx)
    refine wpAny_bind (wpAny_alloc' ?_)
    refine wpAny_bind (wpAny_update' hx₁ ?_)
    refine wpAny_pure ?_
    have gd : ((h.push { cls := .type "dict", data := .dict #[] }).update x fun o => { cls := o.cls, dict := some h.objs.size, data := o.data, slots := o.slots }).get? h.objs.size = some { cls := .type "dict", data := .dict #[] } :=
      (Heap.get?_update_ne _ _ _ _ hxs.symm).trans (Heap.get?_push_at rfl rfl)
    have nd : ((h.push { cls := .type "dict", data := .dict #[] }).update x fun o => { cls := o.cls, dict := some h.objs.size, data := o.data, slots := o.slots }).Ns h.objs.size (fun _ => none) := ⟨_, #[], _, gd, rfl, fun e he => absurd he (by simp), fun _ => rfl⟩
    show wpAny _ _ (Builtin.ObjectAttr.storeInDict h.objs.size (.str name t) name v) _ _ _
    unfold Builtin.ObjectAttr.storeInDict Builtin.ObjectAttr.newKeyGuard
    refine wpAny_bind (wpAny_pure (wpAny_bind (wpAny_nsSet1 (Heap.Ns1.of_empty nd) fun h' hn' hs => ?_)))
    obtain ⟨oD, esD, epD, hoD, hdD, hcD⟩ := hn'.count (Within.cons name v Within.nil)
    refine wpAny_bind (wpAny_lookBehind hoD (by rw [hdD]; exact pastItsLine_dict (Nat.le_trans hcD (by rw [List.length_cons, List.length_nil, sizeLine_eq]; omega))) ?_)
    refine wpAny_pure (wpAny_pure (wpAny_pure ?_))
    have hx' : h'.get? x = some { cls := o.cls, dict := some h.objs.size, data := o.data, slots := o.slots } := by
      refine (hs.2 x hxs).trans (Heap.get?_update_self _ hx₁ ?_)
      have hfr := (Heap.get?_some_iff.mp hx).2
      obtain ⟨oc, od, odt, osl⟩ := o
      cases odt <;> first | rfl | exact hfr
    refine hq h' _ ⟨_, hx', hc, hnc, .inr ⟨h.objs.size, rfl, hxs.symm, ?_⟩⟩ (fun b ob hbx _ hb => (hs.2 b (Nat.ne_of_lt (Heap.lt_size hb))).trans ((Heap.get?_update_ne _ _ _ _ hbx).trans (Heap.get?_push_of_some _ hb))) fun o₀ h₀ => ?_
    . obtain ⟨o', es, ep, e1, e2, e3, eu, e4⟩ := hn'
      exact ⟨o', es, ep, e1, e2, e3, eu, fun y => by rw [e4 y]; by_cases hy : y = name <;> simp [hy, hmA]⟩
    . obtain rfl : o = o₀ := Option.some.inj (hx.symm.trans h₀)
      exact ⟨_, hx', rfl, rfl, rfl, (fun dx e => by rw [hdn] at e; cases e), fun _ => rfl⟩
  . repeat (first | (with_reducible refine wpAny_loadPart_at hx ?_; rw [hc]) | with_reducible refine wpAny_loadPart_at hC ?_ | wp_step)
    rw [hdx]
    refine wpAny_pure ?_
    show wpAny _ _ (Builtin.ObjectAttr.storeInDict dx (.str name t) name v) _ _ _
    unfold Builtin.ObjectAttr.storeInDict Builtin.ObjectAttr.newKeyGuard
    refine wpAny_bind (wpAny_pure (wpAny_bind (wpAny_nsSet1 hns fun h' hn' hs => ?_)))
    obtain ⟨oD, esD, epD, hoD, hdD, hcD⟩ := hn'.count (Within.cons name v hw)
    refine wpAny_bind (wpAny_lookBehind hoD (by rw [hdD]; exact pastItsLine_dict (Nat.le_trans hcD (by rw [List.length_cons, sizeLine_eq]; omega))) ?_)
    refine wpAny_pure (wpAny_pure (wpAny_pure ?_))
    refine hq h' _ ⟨o, (hs.2 x hne.symm).trans hx, hc, hnc, .inr ⟨dx, hdx, hne, hn'⟩⟩ (fun b ob _ hbd hb => (hs.2 b (hbd o dx hx hdx)).trans hb) fun o₀ h₀ => ?_
    obtain rfl : o = o₀ := Option.some.inj (hx.symm.trans h₀)
    exact ⟨o, (hs.2 x hne.symm).trans h₀, rfl, rfl, rfl, fun _ e => e, fun e => by rw [hdx] at e; cases e⟩
end
def Vs0 (vs : Array Value) : Prop := (∃ t, vs[0]? = some (.ref t)) /\ vs[1]? = some .none
def ErrO (x C : Addr) (d : Option Addr) (h : Heap) : Prop := ∃ o vs, h.get? x = some o /\ o.cls = .ref C /\ o.data = .fields vs /\ Vs0 vs /\ o.dict = d
def z41 (x C : Addr) (d : Option Addr) (h : Heap) : Prop := ∃ o vs, h.get? x = some o /\ o.cls = .ref C /\ o.data = .fields vs /\ o.dict = d
theorem ErrO.t {x C : Addr} {d : Option Addr} {h : Heap} (I : ErrO x C d h) : z41 x C d h := let ⟨o, vs, a, b, c, _, e⟩ := I; ⟨o, vs, a, b, c, e⟩
theorem Vs0.pos {vs : Array Value} (h : Vs0 vs) : 0 < vs.size := let ⟨⟨_, e⟩, _⟩ := h; (Array.getElem?_eq_some_iff.mp e).1
theorem Vs0.put {vs : Array Value} (h : Vs0 vs) (t : Addr) : Vs0 (vs.setIfInBounds 0 (.ref t)) := ⟨⟨t, by simp [h.pos]⟩, by rw [Array.getElem?_setIfInBounds_ne (by decide)]; exact h.2⟩
section
variable {prog : Program} {w : World} {A : Around} {E : Value -> Shared -> Prop} {s : Shared} {K : PySem.W.Frag} {x C : Addr}
theorem z5J {rest : List Value} {d : Option Addr} {Q : Value -> Shared -> Prop} (X : K.In s.heap) (Z : XE K C) (I : ErrO x C d s.heap) (hz : rest.length <= sizeLine)
    (h : ∀ h' : Heap, (∀ b o, b ≠ x -> s.heap.get? b = some o -> h'.get? b = some o) -> ErrO x C d h' -> Q .none { s with heap := h' }) : wpAny (model prog w) A (call (.builtin "ValueError.__init__") (.ref x :: rest)) Q E s := by
  obtain ⟨hh, g, dr, t, os⟩ := s
  obtain ⟨bm, N, nm, qn, bs, sn, sub, ab, col, dd, k0, k1, k2, k3, k5, mN, hC, hN, T, _⟩ := XE.obj X Z
  obtain ⟨o, vs, hx, hc, hd, hv0', hdi⟩ := I
  have hvs := hv0'.pos
  have FB := F.excBase_ValueError
  refine wpAny_call (codeAny_call_builtin FB.init.plain FB.initEntry (wpAny_check_init_subU FB T hC hx hc ?_))
  show wpAny _ _ (newTuple rest >>= fun tp => Builtin.BaseException.bexcPut (.ref x) 0 tp >>= fun _ => ret .none) _ _ _
  refine wpAny_bind (wpAny_newTuple ?_ hz)
  have hx1 : (hh.push { cls := .type "tuple", data := .seq rest.toArray }).get? x = some o := Heap.get?_push_of_some _ hx
  refine wpAny_bind ?_
  unfold Builtin.BaseException.bexcPut
  obtain ⟨v0, hv0⟩ : ∃ v0, vs[0]? = some v0 := ⟨_, getElem?_pos vs 0 hvs⟩
  refine wpAny_bind (wpAny_field hx1 hd hv0 ?_)
  refine wpAny_bind (wpAny_setField hx1 hd hvs ?_)
  have hfr : (Obj.mapFields (·.setIfInBounds 0 (.ref hh.objs.size)) o).isFreed = false := by
    obtain ⟨oc, od, odt, osl⟩ := o
    cases (show odt = .fields vs from hd)
    rfl
  have hx2 : ((hh.push { cls := .type "tuple", data := .seq rest.toArray }).update x (Obj.mapFields (·.setIfInBounds 0 (.ref hh.objs.size)))).get? x = some (Obj.mapFields (·.setIfInBounds 0 (.ref hh.objs.size)) o) := Heap.get?_update_self _ hx1 hfr
  have fin : Q .none ⟨(hh.push { cls := .type "tuple", data := .seq rest.toArray }).update x (Obj.mapFields (·.setIfInBounds 0 (.ref hh.objs.size))), g, dr, t, os⟩ := by
    refine h _ (fun b ob hb e => (Heap.get?_update_ne _ _ _ _ hb).trans (Heap.get?_push_of_some _ e)) ⟨_, vs.setIfInBounds 0 (.ref hh.objs.size), hx2, ?_⟩
    obtain ⟨oc, od, odt, osl⟩ := o
    cases (show odt = .fields vs from hd)
    exact ⟨hc, rfl, hv0'.put _, hdi⟩
  cases v0 with
  | ref a => exact wpAny_letGo (wpAny_pure fin)
  | _ => exact wpAny_pure (wpAny_pure fin)
end
section
variable {prog : Program} {w : World} {A : Around} {E : Value -> Shared -> Prop} {s : Shared} {K : PySem.W.Frag} {C : Addr}
abbrev z62 (h : Heap) (C : Addr) (rest : List Value) : Heap := (h.push { cls := .type "tuple", data := .seq rest.toArray }).push (z5I C h.objs.size)
theorem z1r {h : Heap} {rest : List Value} {b : Addr} {o : Obj} (e : h.get? b = some o) : (z62 h C rest).get? b = some o := Heap.get?_push_of_some _ (Heap.get?_push_of_some _ e)
theorem z5K {h : Heap} {rest : List Value} : ErrO (h.objs.size + 1) C none (z62 h C rest) := ⟨z5I C h.objs.size, _, by heap_get, rfl, rfl, ⟨⟨_, rfl⟩, rfl⟩, rfl⟩
theorem z63 {rest : List Value} {fI : Value} {Q : Value -> Shared -> Prop} (X : K.In s.heap) (Z : XE K C) (hi : PySem.W.findIn K (.ref C) "__init__" = some (some fI)) (hb : ∀ x : Addr, PySem.W.Looks (model prog w) (z62 s.heap C rest) (bindSpecial fI (.ref x)) (fI, [.ref x])) (hz : rest.length <= sizeLine)
    (h : wpAny (model prog w) (A.under (.builtin "type.__call__" ⟨.ref C :: rest, []⟩)) (call fI (.ref (s.heap.objs.size + 1) :: rest)) (fun r s' => r = .none /\ Q (.ref (s.heap.objs.size + 1)) s') E { s with heap := z62 s.heap C rest }) :
    wpAny (model prog w) A (call (.ref C) rest) Q E s := by
  obtain ⟨hh, g, dr, t, os⟩ := s
  obtain ⟨bm, N, nm, qn, bs, sn, sub, ab, col, dd, k0, k1, k2, k3, k5, mN, hC, hN, T, _⟩ := XE.obj X Z
  have FB := F.excBase_ValueError
  have f1 := tc_lookup
  have f2 := tc_bind (.ref C)
  have hT : (⟨hh, g, dr, t, os⟩ : Shared).TypeIs (.ref C) "type" := ⟨_, hC, rfl⟩
  have body : ∀ {Q' : PySem.Fin -> Shared -> Prop} {A' : Around}, wpAny (model prog w) A' (call fI (.ref (hh.objs.size + 1) :: rest)) (fun r s' => r = .none /\ Q' (.done (.ret (.ref (hh.objs.size + 1)))) s') E ⟨z62 hh C rest, g, dr, t, os⟩ ->
      wpAny (model prog w) A' (Builtin.«type.__call__» ⟨.ref C :: rest, []⟩) Q' E ⟨hh, g, dr, t, os⟩ := by
    intro Q' A' hq
    repeat (first
      | with_reducible refine wpAny_loadPart_at hC ?_
      | with_reducible refine wpAny_madeBy_exc hC ?_
      | wp_step)
    refine codeAny_call_builtin_code (Code.quiet_builtin _ FB.quiet) (wpAny_check_new_subU FB FB.hasB T hC ?_)
    refine codeAny_exc_new_subU FB FB.hasB FB T hC ?_ hz
    show wpAny _ _ _ _ _ _
    have hC1 := z1r (C := C) (rest := rest) hC
    have X1 : K.In (z62 hh C rest) := X.keeps fun b o e => z1r e
    have hX : (z62 hh C rest).get? (hh.objs.size + 1) = some (z5I C hh.objs.size) := by heap_get
    have hcC : (Value.ref C :: bm).contains (.ref C) = true := by simp
    unfold isInstance
    repeat (first
      | with_reducible refine wpAny_loadPart_at hX ?_
      | (with_reducible refine wpAny_isSubtype_exc hC1 ?_; rw [hcC])
      | wp_step)
    show wpAny _ _ (typeLookup (.ref C) _) _ _ _
    refine (PySem.W.looks_findIn X1 hi).at ?_
    refine wpAny_holding (wpAny_bind ((hb (hh.objs.size + 1)).at ?_))
    refine wpAny_bind (wpAny_mono hq (fun r s' hr => ?_) fun _ _ z => z)
    obtain ⟨rfl, hQ⟩ := hr
    wp_walk
    exact hQ
  refine wpAny_call (codeAny_of_tree ?_)
  show wpAny _ _ (callAny (.ref C) _) _ _ _
  repeat (any_goals (first
    | assumption
    | with_reducible refine wpAny_loadPart_at hC ?_
    | wp_step))
  refine ⟨rfl, ?_⟩
  exact codeAny_call_builtin_at (Code.quiet_builtin _ (by decide +kernel)) entry_typeCall (wpAny_check_type_call_sub hC (body h))
end
def z3k (a : Addr) (fs : List (Str × V)) (h : Heap) : Prop := ∃ mA, h.Ns1 a mA /\ (∀ f, RelO (fs.lookup f) (mA f)) /\ PySem.Within mA (fs.map (·.1))
theorem z1c {prog : Program} {w : World} {H : Hp} {h : Heap} {x C : Addr} {d : Option Addr} (I : ErrO x C d h) : ObjOk prog w H h x (.ext (ErrO x C d)) :=
  ⟨I, (let ⟨o, _, e, _⟩ := I; ⟨o, e⟩), fun _ _ y k => let ⟨o, vs, e, r⟩ := y; ⟨o, vs, k o e, r⟩⟩
theorem z3l {prog : Program} {w : World} {H : Hp} {h : Heap} {a : Addr} {fs : List (Str × V)} (I : z3k a fs h) : ObjOk prog w H h a (.ext (z3k a fs)) :=
  ⟨I, (let ⟨_, ⟨o, _, _, e, _⟩, _⟩ := I; ⟨o, e⟩), fun _ _ y k => let ⟨mA, ⟨o, es, ep, e, r⟩, q⟩ := y; ⟨mA, ⟨o, es, ep, k o e, r⟩, q⟩⟩
theorem z64 {prog : Program} {w : World} {H : Hp} {h : Heap} {x C : Addr} {d : Option Addr} (I : z41 x C d h) : ObjOk prog w H h x (.ext (z41 x C d)) :=
  ⟨I, (let ⟨o, _, e, _⟩ := I; ⟨o, e⟩), fun _ _ y k => let ⟨o, vs, e, r⟩ := y; ⟨o, vs, k o e, r⟩⟩
def HasE (H : Hp) (x C : Addr) (d : Option Addr) : Prop := H x = some (.ext (ErrO x C d)) \/ H x = some (.ext (z41 x C d))
def ErrAt (H : Hp) (x C : Addr) (fs : List (Str × V)) : Prop :=
  (fs = [] /\ HasE H x C none) \/ ∃ dx, dx ≠ x /\ HasE H x C (some dx) /\ H dx = some (.ext (z3k dx fs))
theorem HasE.mono {H H' : Hp} {x C : Addr} {d : Option Addr} (s : Same H H') (h : HasE H x C d) : HasE H' x C d := h.imp (s _ _) (s _ _)
theorem ErrAt.mono {H H' : Hp} {x C : Addr} {fs : List (Str × V)} (s : Same H H') (h : ErrAt H x C fs) : ErrAt H' x C fs := by
  rcases h with ⟨e, h⟩ | ⟨dx, n, h1, h2⟩
  . exact .inl ⟨e, h.mono s⟩
  . exact .inr ⟨dx, n, h1.mono s, s _ _ h2⟩
section
variable {X : Cx} {pins : List (Addr × Obj)} {σ : St} {H : Hp} {s : Shared}
theorem Inv.errO {x C : Addr} {d : Option Addr} (I : Inv X pins σ H s) (e : H x = some (.ext (ErrO x C d))) : ErrO x C d s.heap := (show ObjOk X.prog X.w H s.heap x (.ext (ErrO x C d)) from I.hok x _ e).1
theorem Inv.errT {x C : Addr} {d : Option Addr} (I : Inv X pins σ H s) (e : HasE H x C d) : z41 x C d s.heap := by
  rcases e with e | e
  . exact (I.errO e).t
  . exact (show ObjOk X.prog X.w H s.heap x (.ext (z41 x C d)) from I.hok x _ e).1
theorem Inv.errD {a : Addr} {fs : List (Str × V)} (I : Inv X pins σ H s) (e : H a = some (.ext (z3k a fs))) : z3k a fs s.heap := (show ObjOk X.prog X.w H s.heap a (.ext (z3k a fs)) from I.hok a _ e).1
theorem Inv.err {x C : Addr} {fs : List (Str × V)} (I : Inv X pins σ H s) (h : ErrAt H x C fs) : ∃ mA, s.heap.Inst x C mA /\ (∀ f, RelO (fs.lookup f) (mA f)) /\ PySem.Within mA (fs.map (·.1)) := by
  rcases h with ⟨rfl, h⟩ | ⟨dx, n, h1, h2⟩
  . obtain ⟨o, vs, e, c, d, hd⟩ := I.errT h
    exact ⟨fun _ => none, ⟨o, e, c, (fun z q => by rw [d] at q; cases q), .inl ⟨hd, fun _ => rfl⟩⟩, fun f => trivial, PySem.Within.nil⟩
  . obtain ⟨o, vs, e, c, d, hd⟩ := I.errT h1
    obtain ⟨mA, hn, r, hw⟩ := I.errD h2
    exact ⟨mA, ⟨o, e, c, (fun z q => by rw [d] at q; cases q), .inr ⟨dx, hd, n, hn⟩⟩, r, hw⟩
theorem Inv.excAt {x C : Addr} {fs : List (Str × V)} (I : Inv X pins σ H s) (h : ErrAt H x C fs) : ExcAt x C s.heap := by
  rcases h with ⟨rfl, h⟩ | ⟨dx, n, h, _⟩
  . obtain ⟨o, vs, e, c, _⟩ := I.errT h
    exact ⟨o, e, c⟩
  . obtain ⟨o, vs, e, c, _⟩ := I.errT h
    exact ⟨o, e, c⟩
theorem z5L : CallR X (.builtin "isinstance") (fun xs H Q => ∃ x C fs y u b, xs = [.ref x, y] /\ ErrAt H x C fs /\ XE X.K C /\ z9D y = some u /\ PySem.W.kitOne X.K (.ref C) u = some b /\ Q (.bl b) H) := by
  intro pins s σ H xs us Q I r h
  obtain ⟨x, C, fs, y, u, b, rfl, hx, Z, hy, e, q⟩ := h
  obtain ⟨v, w', rfl, rx, ry⟩ := vals2 r
  cases (show v = Value.ref x from rx)
  cases (z75 hy ry)
  exact PySem.W.kia_one (z61 Z) I.kIn (I.excAt hx) e (fun z => nomatch z) fun tk => ⟨.bl b, H, I.tok tk, rfl, q⟩
def zAn (K : PySem.W.Frag) (te : TE) (f : Str) : TE := fun σ H Q => te σ H fun v H1 => ∃ x C fs z, v = .ref x /\ ErrAt H1 x C fs /\ XE K C /\ PySem.W.findIn K (.ref C) f = some none /\ fs.lookup f = some z /\ Q z H1
def z9E (K : PySem.W.Frag) (ta tv : TE) (f : Str) : TS := fun D σ H => tv σ H fun y H1 => ta σ H1 fun v H2 => ∃ x C, v = .ref x /\ H2 x = some (.ext (ErrO x C none)) /\ XE K C /\ PySem.W.findIn K (.ref C) f = some none /\
  ∀ d, H2 d = none -> d ≠ x -> D.nx σ (upd (upd H2 x (.ext (ErrO x C (some d)))) d (.ext (z3k d [(f, y)])))
theorem z76 {o value : Expr} {ta tv : TE} {f : Str} {pos pos' : Pos} (ha : PE X o ta) (hv : PE X value tv) (hs : swapsWith value (some (.Attribute o f pos')) pos.line X.env = pure false) : PS X (.Assign [.Attribute o f pos'] value pos) (z9E X.K ta tv f) := by
  intro pins s σ H D I h
  refine plainObj_wpAny_Assign_Attribute (thn (hv pins s σ H _ I h) fun u s1 ⟨y, H1, I1, ry, q⟩ => thn (ha pins s1 σ H1 _ I1 q) fun ov s2 ⟨v, H2, I2, rv, x, C, ev, hx, Z, hn, q2⟩ => ?_) hs
  subst ev
  obtain rfl : ov = Value.ref x := rv
  obtain ⟨mA, hi, rl, hw⟩ := I2.err (.inl ⟨rfl, .inl hx⟩ : ErrAt H2 x C [])
  have hmA : ∀ g, mA g = none := fun g => by
    have r := rl g
    cases hm : mA g with
    | none => rfl
    | some z => rw [hm] at r; exact r.elim
  refine z2y I2.kIn Z hn hi (fun h' tk' hi' hk hso => ?_) hw (by show 0 <= 1000; decide)
  obtain ⟨o0, vs, e0, c0, d0, hvs, hd0⟩ := I2.errO hx
  obtain ⟨o1, g1, g2, g3, _, _, g6⟩ := hso o0 e0
  have g6 := g6 hd0
  have hxlt : x < s2.heap.objs.size := Heap.lt_size e0
  have hdx : s2.heap.objs.size ≠ x := Nat.ne_of_gt hxlt
  have hfree : H2 s2.heap.objs.size = none := I2.hok.fresh (Nat.le_refl _)
  have keep : ∀ b u, b ≠ x -> s2.heap.get? b = some u -> h'.get? b = some u := fun b u hb e => hk b u hb (fun o₀ dx e1 e2 => by
    rw [e0] at e1
    cases e1
    rw [hd0] at e2
    cases e2) e
  have EO : ErrO x C (some s2.heap.objs.size) h' := ⟨o1, vs, g1, g2.trans c0, g3.trans d0, hvs, g6⟩
  have J1 : Inv X pins σ (upd H2 x (.ext (ErrO x C (some s2.heap.objs.size)))) { s2 with heap := h', toks := tk' } := I2.write (x := x) (e := x) (by rw [hx]; trivial) (.inl rfl) keep ⟨_, g1⟩ (z1c EO)
  have ED : z3k s2.heap.objs.size [(f, y)] h' := by
    obtain ⟨o2, k1, k2, _, k4⟩ := hi'
    rw [g1] at k1
    cases k1
    rcases k4 with ⟨z, _⟩ | ⟨dx, z1, z2, z3⟩
    . rw [g6] at z; cases z
    . rw [g6] at z1
      cases z1
      refine ⟨_, z3, fun g => ?_, ?_⟩
      . rw [List.lookup_cons]
        by_cases hg : g = f
        . subst hg
          simp only [beq_self_eq_true, if_true]
          exact ry
        . rw [beq_eq_false_iff_ne.mpr hg]
          simp only [hg, if_false, hmA]
          trivial
      . exact Within.cons f u (ns := []) (by
          have : mA = fun _ => none := funext hmA
          rw [this]
          exact Within.nil)
  have Fd := I2.fpOk (H' := upd H2 x (.ext (ErrO x C (some s2.heap.objs.size)))) (b := s2.heap.objs.size) (Nat.le_refl _) (by rw [z0A hdx]; exact hfree)
  have J2 := J1.adopt (h' := h') (tk := tk') (o := .ext (z3k s2.heap.objs.size [(f, y)])) Fd (fun _ _ _ e => e) (let ⟨_, ⟨o, _, _, e, _⟩, _⟩ := ED; ⟨o, e⟩) (z3l ED)
  exact ⟨σ, _, J2, q2 _ hfree hdx⟩
def z9F (K : PySem.W.Frag) (ta tv : TE) (f : Str) : TS := fun D σ H => tv σ H fun y H1 => ta σ H1 fun v H2 => ∃ x C dx fs, v = .ref x /\ dx ≠ x /\ H2 x = some (.ext (ErrO x C (some dx))) /\ H2 dx = some (.ext (z3k dx fs)) /\ fs.length <= 900 /\ XE K C /\ PySem.W.findIn K (.ref C) f = some none /\
  D.nx σ (upd H2 dx (.ext (z3k dx ((f, y) :: fs))))
theorem z77 {o value : Expr} {ta tv : TE} {f : Str} {pos pos' : Pos} (ha : PE X o ta) (hv : PE X value tv) (hs : swapsWith value (some (.Attribute o f pos')) pos.line X.env = pure false) : PS X (.Assign [.Attribute o f pos'] value pos) (z9F X.K ta tv f) := by
  intro pins s σ H D I h
  refine plainObj_wpAny_Assign_Attribute (thn (hv pins s σ H _ I h) fun u s1 ⟨y, H1, I1, ry, q⟩ => thn (ha pins s1 σ H1 _ I1 q) fun ov s2 ⟨v, H2, I2, rv, x, C, dx, fs, ev, hne, hx, hdx, hfs, Z, hn, q2⟩ => ?_) hs
  subst ev
  obtain rfl : ov = Value.ref x := rv
  obtain ⟨o0, vs, e0, c0, d0, hvs, hd0⟩ := I2.errO hx
  obtain ⟨mA, hns, rl, hw⟩ := I2.errD hdx
  have hi : s2.heap.Inst x C mA := ⟨o0, e0, c0, (fun z q => by rw [d0] at q; cases q), .inr ⟨dx, hd0, hne, hns⟩⟩
  refine z2y I2.kIn Z hn hi (fun h' tk' hi' hk hso => ?_) hw (by rw [List.length_map]; omega)
  obtain ⟨o1, g1, g2, g3, g4, g5, _⟩ := hso o0 e0
  have g5' := g5 dx hd0
  have hx1 : h'.get? x = some o0 := by
    obtain ⟨c1, d1, da1, sl1⟩ := o1
    obtain ⟨c2, d2, da2, sl2⟩ := o0
    have q2' : c1 = c2 := g2
    have q3 : da1 = da2 := g3
    have q4 : sl1 = sl2 := g4
    have q5 : d1 = d2 := (show d1 = some dx from g5').trans (show d2 = some dx from hd0).symm
    subst q2' q3 q4 q5
    exact g1
  have keep : ∀ b u, b ≠ dx -> s2.heap.get? b = some u -> h'.get? b = some u := fun b u hb e => by
    by_cases hbx : b = x
    . subst hbx
      rw [e0] at e
      cases e
      exact hx1
    . exact hk b u hbx (fun o₀ d' e1 e2 => by
        rw [e0] at e1
        cases e1
        rw [hd0] at e2
        cases e2
        exact hb) e
  have ED : z3k dx ((f, y) :: fs) h' := by
    obtain ⟨o2, k1, k2, _, k4⟩ := hi'
    rw [hx1] at k1
    cases k1
    rcases k4 with ⟨z, _⟩ | ⟨d', z1, z2, z3⟩
    . rw [hd0] at z; cases z
    . rw [hd0] at z1
      cases z1
      refine ⟨_, z3, fun g => ?_, Within.cons f u hw⟩
      rw [List.lookup_cons]
      by_cases hg : g = f
      . subst hg
        simp only [beq_self_eq_true, if_true]
        exact ry
      . rw [beq_eq_false_iff_ne.mpr hg]
        simp only [hg, if_false]
        exact rl g
  exact ⟨σ, _, I2.write (x := dx) (e := dx) (by rw [hdx]; trivial) (.inl rfl) keep (let ⟨_, ⟨o, _, _, e, _⟩, _⟩ := ED; ⟨o, e⟩) (z3l ED), q2⟩
end
def PF (X : Cx) (e : Expr) (t : St -> Hp -> Prop) : Prop := ∀ (pins : List (Addr × Obj)) (s : Shared) (σ : St) (H : Hp), Inv X pins σ H s -> t σ H ->
  wpAny (model X.prog X.w) X.A (eval e X.env) (fun v s' => ∃ y u, v = .str y u /\ y.length <= 100000 /\ Inv X pins σ H s') X.xe s
def z7R : V -> Prop
  | .non => True
  | .int a => a.natAbs.log2 < 1920
  | _ => False
section
variable {X : Cx}
theorem z5M {z : Str} {j : Nat} {pos : Pos} : PF X (.Constant (.str z) j pos) (fun _ _ => z.length <= 100000) := fun pins s σ H I h => Calls.Constant_str ⟨z, _, rfl, h, I.tok _⟩
theorem z8A {e : Expr} {te : TE} {pos : Pos} (he : PE X e te) : PF X (.FormattedValue e (-1) none pos) (fun σ H => te σ H fun v H' => z7R v /\ H' = H) := by
  intro pins s σ H I h
  refine wpAny_FormattedValue_plain (thn (he pins s σ H _ I h) fun u s1 ⟨v, H1, I1, rv, hf, e1⟩ => ?_)
  subst e1
  cases v with
  | non =>
    cases (show u = Value.none from rv)
    exact wpAny_formatField_none ⟨_, _, rfl, by decide, I1.tok _⟩
  | int a =>
    obtain ⟨t, rfl⟩ := rv
    have hl : a.natAbs.log2 < 1920 := hf
    refine wpAny_formatField_int hl ⟨_, _, rfl, ?_, I1.tok _⟩
    have := int_text_length_le (k := 1920) (by decide) hl
    rw [PySem.ofString_length]
    omega
  | _ => exact hf.elim
theorem z78 {e : Expr} {te : TE} {pos : Pos} (he : PE X e te) : PF X (.FormattedValue e 114 none pos) (fun σ H => te σ H fun v H' => (∃ z, v = .str z /\ (reprText z).length <= 100000) /\ H' = H) := by
  intro pins s σ H I h
  refine wpAny_FormattedValue_repr (thn (he pins s σ H _ I h) fun u s1 ⟨v, H1, I1, rv, ⟨z, ez, hz⟩, e1⟩ => ?_)
  subst e1 ez
  obtain ⟨t, rfl⟩ := (show ∃ t, u = Value.str z t from rv)
  have hz' : (reprText z).length <= sizeLine := Nat.le_trans hz (by decide)
  refine wpAny_pyReprObj_str ?_ hz'
  exact wpAny_formatField_str ⟨_, _, rfl, hz, I1.tok _⟩ ⟨_, _, rfl, hz, I1.tok _⟩ hz'
def PFs (X : Cx) (es : List Expr) (t : St -> Hp -> Prop) : Prop := ∀ (pins : List (Addr × Obj)) (σ : St) (H : Hp), t σ H -> ∀ (s : Shared) (acc : Str) (Q : Str -> Shared -> Prop), Inv X pins σ H s -> acc.length + 100000 * es.length <= sizeLine ->
  (∀ out s', Inv X pins σ H s' -> out.length <= sizeLine -> Q out s') -> Joins (model X.prog X.w) X.A X.xe (evalEach es X.env) acc Q s
theorem z79 : PFs X [] (fun _ _ => True) := fun _ _ _ _ s acc Q I hz h => h acc s I (by simpa using hz)
theorem z1d {e : Expr} {es : List Expr} {t u : St -> Hp -> Prop} (he : PF X e t) (hr : PFs X es u) (hev : evalEach (e :: es) X.env = eval e X.env :: evalEach es X.env := by rfl) : PFs X (e :: es) (fun σ H => t σ H /\ u σ H) := by
  intro pins σ H ⟨h1, h2⟩ s acc Q I hz h
  rw [hev]
  rw [List.length_cons] at hz
  refine thn (he pins s σ H I h1) fun v s1 ⟨y, tk, ev, hy, I1⟩ => ⟨y, tk, ev, ?_, ?_⟩
  . rw [strLen_append]
    omega
  . exact hr pins σ H h2 s1 (acc ++ y) Q I1 (by rw [strLen_append]; omega) h
def z9G (t : St -> Hp -> Prop) : TE := fun σ H Q => t σ H /\ ∀ z, Q (.str z) H
theorem z7A {v₁ v₂ : Expr} {rest : List Expr} {pos : Pos} {t : St -> Hp -> Prop} (h : PFs X (v₁ :: v₂ :: rest) t) (hl : rest.length <= 100 := by decide) : PE X (.JoinedStr (v₁ :: v₂ :: rest) pos) (z9G t) := by
  intro pins s σ H Q I ⟨ht, hq⟩
  refine wpAny_JoinedStr (h pins σ H ht s Str.empty _ I ?_ fun out s' I' ho => ⟨ho, ⟨.str out, H, I'.tok _, ⟨_, rfl⟩, hq out⟩⟩)
  have e0 : Str.empty.length = 0 := by decide
  rw [e0, List.length_cons, List.length_cons, sizeLine_eq]
  omega
structure Gi (K : PySem.W.Frag) (G : Addr) : Prop where
  sp : PySem.W.specialIn K (.ref G) "__getattribute__" = some (some (.builtin "type.__getattribute__"))
  rd : PySem.W.readsIn K G (.type "type") = true
  fd : PySem.W.findCls K (.ref G) (.type "type") "__init__" = some (.val (.builtin "ValueError.__init__"))
def z8B (K : PySem.W.Frag) (t : TA) : TE := fun σ H Q => t σ H fun vs H2 => ∃ x C d y, vs = [.ref x, y] /\ H2 x = some (.ext (ErrO x C d)) /\ XE K C /\ Q .non H2
theorem z8C {H : Hp} {a : Addr} {o : HO} (h : H a = some o) : upd H a o = H := by
  funext b
  unfold upd
  split
  . rename_i e; rw [e, h]
  . rfl
theorem z65 {gn : Str} {G : Addr} {e : Expr} {es : List Expr} {t : TA} {p1 p2 p3 : Pos} {pl : Sem Bool} (hg : Gl X gn) (hm : X.mg gn = some (.ref G)) (Z : Gi X.K G) (ha : PA X (e :: es) t) (hd : (gn == ("__debug__" : Str)) = false := by decide)
    (hs : starEach (e :: es) X.env = (false, eval e X.env) :: starEach es X.env := by rfl) (hplain : (backTo p3 (starEach es X.env)).any (·.1) = false := by rfl)
    (ht : eval (.Call (.Attribute (.Name gn p1) "__init__" p2) (e :: es) [] p3) X.env = (do
      let ov <- eval (.Name gn p1) X.env
      standAt p2.atName
      let (f, first) <- holding [ov] (getMethod ov "__init__" pl)
      callWith p3 f first (backTo p3 (starEach (e :: es) X.env)) (backToKw p3 (keywordEach [] X.env))) := by rfl) :
    PE X (.Call (.Attribute (.Name gn p1) "__init__" p2) (e :: es) [] p3) (z8B X.K t) := by
  intro pins s σ H Q I h
  refine PySem.W.methodCall_KW (pl := pl) (z1K I hg hm ?_ hd) ht
  refine PySem.W.method_cls I.kIn Z.sp ?_
  refine PySem.W.cls_value I.kIn Z.rd Z.fd rfl ?_
  have hA := ha p3 pins _ σ H _ (I.tok (s.toks + 1)) h
  rw [hs] at hA ⊢
  refine Calls.callWith_builtin (by show (false || (backTo p3 (starEach es X.env)).any (·.1)) = false; rw [hplain] <;> rfl) (Calls.evalArgs_plain ?_)
  refine thn hA fun us s1 ⟨vs, H2, I1, r, x, C, d, y, ev, hx, ZC, q⟩ => ?_
  subst ev
  obtain ⟨u1, u2, rfl, r1, r2⟩ := vals2 r
  cases (show u1 = Value.ref x from r1)
  refine z5J I1.kIn ZC (I1.errO hx) (by show 1 <= sizeLine; decide) fun h' hk ho => ?_
  have J := I1.write (x := x) (e := x) (t' := s1.toks) (by rw [hx]; trivial) (.inl rfl) (fun b u hb z => hk b u hb z) (let ⟨o, _, z, _⟩ := ho; ⟨o, z⟩) (z1c ho)
  rw [z8C hx] at J
  exact ⟨.non, H2, J, rfl, q⟩
structure Ei (K : PySem.W.Frag) (C fI : Addr) : Prop where
  x : XE K C
  kp : PySem.W.keepIn K (.ref C) = true
  fi : PySem.W.findIn K (.ref C) "__init__" = some (some (.ref fI))
  fn : PySem.W.typeIn K (.ref fI) = some (.type "function")
def zBS (C : Addr) (sp : Sp) (t : TA) : TE := fun σ H Q => t σ H fun vs H1 => vs.length <= 1000 /\ ∀ x, H1 x = none -> sp (.ref x :: vs) (upd H1 x (.ext (ErrO x C none))) (fun v H2 => v = .non /\ Q (.ref x) H2) E0
theorem Inv.newErr {pins : List (Addr × Obj)} {σ : St} {H : Hp} {s : Shared} {C : Addr} {us : List Value} (I : Inv X pins σ H s) : Inv X pins σ (upd H (s.heap.objs.size + 1) (.ext (ErrO (s.heap.objs.size + 1) C none))) { s with heap := z62 s.heap C us, toks := s.toks } :=
  I.laid (t' := s.toks) (fun b u e => z1r e) (Nat.le_succ _) (z1c z5K)
structure Eo (K : PySem.W.Frag) (C : Addr) : Prop where
  x : XE K C
  kp : PySem.W.keepIn K (.ref C) = true
  fi : PySem.W.findIn K (.ref C) "__init__" = some (some (.builtin "ValueError.__init__"))
def zBT (C : Addr) (t : TA) : TE := fun σ H Q => t σ H fun vs H1 => vs.length <= 1000 /\ ∀ x, H1 x = none -> Q (.ref x) (upd H1 x (.ext (ErrO x C none)))
end
section
variable {X : Cx}
def zBU (K : PySem.W.Frag) : R2 := fun x y H Q => ∃ (a b : Addr) (bs : List Bool), x = .ref a /\ y = .ref b /\ SqL K H a (bs.map V.bl) /\ SqL K H b (bs.map V.bl) /\ Q (.bl false) H
end
def veB : List Value -> Bool
  | .ref _ :: r => veB r
  | [.type a, .type b, .type c, .type d] => a == "ValueError" && b == "Exception" && c == "BaseException" && d == "object"
  | _ => false
theorem z3m : ∀ {l : List Value}, veB l = true -> VeTail l
  | .ref c :: r, e => .step (z3m (l := r) e)
  | [.type a, .type b, .type c, .type d], e => by
    simp only [veB, Bool.and_eq_true, beq_iff_eq] at e
    obtain ⟨⟨⟨rfl, rfl⟩, rfl⟩, rfl⟩ := e
    exact .base
def xeB (K : PySem.W.Frag) (C : Addr) : Bool :=
  (match K.lookup C with
  | some ⟨.type "type", _, .cls cd, ⟨[_, _, _, _, some (.builtin n), _]⟩⟩ => (match cd.mro with
    | .ref C' :: bm => decide (C' = C) && (n == "ValueError.__new__" && (cd.hasDel == false && (cd.hasDict && (veB bm && (PySem.W.tailIn K z3y bm && PySem.W.nsOkIn K cd.ns)))))
    | _ => false)
  | _ => false) &&
  (PySem.W.findIn K (.ref C) "__getattribute__" == some (some (.builtin "BaseException.__getattribute__")) && (PySem.W.findIn K (.ref C) "__getattr__" == some none && (PySem.W.findIn K (.ref C) "__setattr__" == some (some (.builtin "object.__setattr__")) &&
  (PySem.W.findIn K (.ref C) "__class__" == some (some (.builtin "object.__class__")) && (PySem.W.specialIn K (.builtin "object.__class__") "__get__" == some (some (.builtin "getset_descriptor.__get__")) && (PySem.W.takesIn K (.builtin "object.__class__") == some true &&
  (PySem.W.mroIn K C (.type "object") == some true && PySem.W.keepIn K (.ref C))))))))
theorem z5N {K : PySem.W.Frag} {C : Addr} (h : xeB K C = true) : XE K C /\ PySem.W.keepIn K (.ref C) = true := by
  unfold xeB at h
  simp only [Bool.and_eq_true, beq_iff_eq] at h
  obtain ⟨h0, h1, h2, h3, h4, h5, h6, h7, h8⟩ := h
  refine ⟨⟨?_, h1, h2, h3, h4, h5, h6, h7⟩, h8⟩
  split at h0
  . rename_i dd cd k0 k1 k2 k3 n k5 lk
    split at h0
    . rename_i C' bm hm
      simp only [Bool.and_eq_true, beq_iff_eq, decide_eq_true_eq] at h0
      obtain ⟨rfl, rfl, e1, e2, e3, e4, e5⟩ := h0
      exact ⟨dd, cd, k0, k1, k2, k3, k5, bm, lk, hm, e1, e2, z3m e3, e4, e5⟩
    . cases h0
  . cases h0
def z6V (K : PySem.W.Frag) (cs : List Addr) (G : Addr) : Bool :=
  (List.range cs.length).all fun i => ((List.range cs.length).all fun j => PySem.W.kitOne K (.ref (cs.getD i 0)) (.ref (cs.getD j 0)) == some (decide (i = j))) &&
    (PySem.W.kitOne K (.ref (cs.getD i 0)) (.ref G) == some true && PySem.W.kitOne K (.ref (cs.getD i 0)) (.type "ValueError") == some true)
structure Kits (K : PySem.W.Frag) (cs : List Addr) (G : Addr) (i : Nat) : Prop where
  one : ∀ j, j < cs.length -> PySem.W.kitOne K (.ref (cs.getD i 0)) (.ref (cs.getD j 0)) = some (decide (i = j))
  g : PySem.W.kitOne K (.ref (cs.getD i 0)) (.ref G) = some true
  v : PySem.W.kitOne K (.ref (cs.getD i 0)) (.type "ValueError") = some true
theorem z5O {K : PySem.W.Frag} {cs : List Addr} {G : Addr} (h : z6V K cs G = true) : ∀ i, i < cs.length -> Kits K cs G i := fun i hi => by
  have h1 := List.all_eq_true.mp h i (List.mem_range.mpr hi)
  simp only [Bool.and_eq_true, beq_iff_eq] at h1
  exact ⟨fun j hj => by simpa using List.all_eq_true.mp h1.1 j (List.mem_range.mpr hj), h1.2.1, h1.2.2⟩
structure Oe (P : Program) (w : World) (K : PySem.W.Frag) (mg : Str -> Option Value) (base : Heap) (x : Str) (C : Addr) (ps : List Str) (k : Nat) (sp : Sp) : Prop where
  ex : ∃ (fI : Addr) (fd : FuncData), mg x = some (.ref C) /\ Ei K C fI /\ Binds K fd ps [] /\ FnOk P w K mg base CX0 k fI fd ps sp
structure Oo (K : PySem.W.Frag) (mg : Str -> Option Value) (x : Str) (C : Addr) : Prop where
  m : mg x = some (.ref C)
  e : Eo K C
section
variable {X : Cx} {k j : Nat} {ps : List Str} {sp : Sp} {x : Str} {C : Addr} {p pos : Pos} {e : Expr} {es : List Expr} {t : TA}
end
def zBV (C : Addr) (f : Str) : Sp := fun vs H Q _ => ∃ x v, vs = [.ref x, v] /\ H x = some (.ext (ErrO x C none)) /\ z7R v /\ ∀ d, H d = none -> d ≠ x -> Q .non (upd (upd H x (.ext (ErrO x C (some d)))) d (.ext (z3k d [(f, v)])))
def zA0 (C : Addr) (f g : Str) : Sp := fun vs H Q _ => ∃ x z v, vs = [.ref x, .str z, v] /\ H x = some (.ext (ErrO x C none)) /\ (reprText z).length <= 100000 /\ z7R v /\
  ∀ d, H d = none -> d ≠ x -> Q .non (upd (upd H x (.ext (ErrO x C (some d)))) d (.ext (z3k d [(g, v), (f, .str z)])))
def fld (n : Int) (t : V) (w : Str) : List (List (Str × V)) := [[("row", t)], [("at", .int n), ("sign", .str w)], [("word", .int n)], [("number", .int n)], [("row", .int n)], [("at", t)], [("part", .int n)], [("owed", .int n)], [], [], [], [], [], [], []]
structure Errs (H : Hp) (l : Addr) (xs cs : List Addr) (fs : List (List (Str × V))) : Prop where
  lst : H l = some (.lst (xs.map V.ref))
  len : xs.length = 15
  one : ∀ i, i < 15 -> ErrAt H (xs.getD i 0) (cs.getD i 0) (fs.getD i [])
theorem Errs.mono {H H' : Hp} {l : Addr} {xs cs : List Addr} {fs : List (List (Str × V))} (s : Same H H') (h : Errs H l xs cs fs) : Errs H' l xs cs fs := ⟨s _ _ h.lst, h.len, fun i hi => (h.one i hi).mono s⟩
theorem Errs.get {H : Hp} {l : Addr} {xs cs : List Addr} {fs : List (List (Str × V))} (h : Errs H l xs cs fs) {i : Nat} (hi : i < 15) : atI (xs.map V.ref) ((i : Nat) : Int) = some (.ref (xs.getD i 0)) := by
  refine z0d ?_
  have : i < xs.length := by have := h.len; omega
  rw [List.getElem?_map, List.getElem?_eq_getElem this, List.getD_eq_getElem?_getD, List.getElem?_eq_getElem this]
  rfl
def ths (i : Nat) : List Bool := (List.range 15).map fun j => decide (i = j)
def zA1 (cs : List Addr) : Sp := fun vs H Q _ => ∃ n t w, vs = [.int n, t, .str w] /\ z7R (.int n) /\ z7R t /\ (reprText w).length <= 100000 /\ ∀ l xs H', Same H H' -> Errs H' l xs cs (fld n t w) -> Q (.ref l) H'
def z9H (cs : List Addr) : Sp := fun vs H Q _ => ∃ x i fs, vs = [.ref x] /\ i < 15 /\ ErrAt H x (cs.getD i 0) fs /\ ∀ l H', Same H H' -> H' l = some (.lst ((ths i).map V.bl)) -> Q (.ref l) H'
def z8V (cs : List Addr) : Sp := fun vs H Q _ => ∃ l xs n t w, vs = [.ref l, .int n, t, .str w] /\ Errs H l xs cs (fld n t w) /\ z7R t /\ ∀ H', Same H H' -> Q (.bl true) H'
def DK {α : Type} : Sem α -> Prop
  | .pure _ | .raise _ | .unsupported _ | .finish _ | .register .. | .yield .. | .fork .. | .await .. => True
  | .rule _ k | .at _ k | .point _ k => DK (k ())
  | .load _ _ k => ∀ o, DK (k o)
  | .update _ _ f k => (∀ o : Obj, (f o).dict = o.dict) /\ DK (k ())
  | .loadIfAlive _ k => ∀ o, DK (k o)
  | .alloc _ k => ∀ a, DK (k a)
  | .fresh k => ∀ t, DK (k t)
  | .ask k => ∀ x, DK (k x)
  | .choose _ _ k => ∀ n, DK (k n)
  | .os _ _ k => ∀ r, DK (k r)
  | .call .. | .resume .. => False
  | .handled _ k => ∀ x, DK (k x)
  | .genState _ k => ∀ x, DK (k x)
  | .newGen _ k => ∀ n, DK (k n)
  | .stack k => ∀ l, DK (k l)
  | .thread k => ∀ n, DK (k n)
def RK (h h' : Heap) : Prop := ∀ (b : Addr) (o : Obj), h.objs[b]? = some o -> ∃ o', h'.objs[b]? = some o' /\ o'.dict = o.dict
theorem RK.refl (h : Heap) : RK h h := fun _ o e => ⟨o, e, rfl⟩
theorem RK.trans {a b c : Heap} (x : RK a b) (y : RK b c) : RK a c := fun p o e =>
  let ⟨_, e1, d1⟩ := x p o e; let ⟨o2, e2, d2⟩ := y p _ e1; ⟨o2, e2, d2.trans d1⟩
theorem RK.push (h : Heap) (u : Obj) : RK h (h.push u) := fun b o e => ⟨o, by
  obtain ⟨objs, l⟩ := h
  show (objs.push u)[b]? = some o
  have e' : objs[b]? = some o := e
  have : b < objs.size := (Array.getElem?_eq_some_iff.mp e').1
  rw [Array.getElem?_push_lt this]
  rw [Array.getElem?_eq_getElem this] at e'
  exact e', rfl⟩
theorem RK.update (h : Heap) (a : Addr) (f : Obj -> Obj) (hf : ∀ o : Obj, (f o).dict = o.dict) : RK h (h.update a f) := fun b o e => by
  obtain ⟨objs, l⟩ := h
  have e' : objs[b]? = some o := e
  by_cases z : a = b
  . subst z
    exact ⟨f o, by show (objs.modify a f)[a]? = _; rw [Array.getElem?_modify, if_pos rfl, e']; rfl, hf o⟩
  . exact ⟨o, by show (objs.modify a f)[b]? = _; rw [Array.getElem?_modify, if_neg z]; exact e', rfl⟩
theorem RK.get {h h' : Heap} (r : RK h h') {b : Addr} {o o' : Obj} (e : h.get? b = some o) (e' : h'.get? b = some o') : o'.dict = o.dict := by
  have raw : ∀ {g : Heap} {u : Obj}, g.get? b = some u -> g.objs[b]? = some u := fun {g u} q => by
    unfold Heap.get? at q
    split at q
    . cases q
    . exact q
  obtain ⟨o1, e1, d1⟩ := r b o (raw e)
  rw [raw e'] at e1
  cases e1
  exact d1
theorem z9I {α : Type} {M : Model} {Γ : PySem.Ctx} : ∀ (t : Sem α) {Q : α -> Pos -> Shared -> Prop} {E : Value -> Pos -> Shared -> Prop} {p : Pos} {s : Shared}, DK t -> Sem.wp M Γ t Q E p s ->
    Sem.wp M Γ t (fun a p' s' => Q a p' s' /\ RK s.heap s'.heap) (fun e p' s' => E e p' s' /\ RK s.heap s'.heap) p s := by
  intro t
  induction t with
  | pure a => intro Q E p s _ h; exact ⟨h, RK.refl _⟩
  | raise e => intro Q E p s _ h; exact ⟨h, RK.refl _⟩
  | unsupported w => intro Q E p s _ h; exact h
  | finish e => intro Q E p s _ h; exact h
  | rule t k ih => intro Q E p s d h; exact ih () d h
  | «at» q k ih => intro Q E p s d h; exact ih () d h
  | load a q k ih => intro Q E p s d h; obtain ⟨o, e, h⟩ := h; exact ⟨o, e, ih o (d o) h⟩
  | update a q f k ih =>
    intro Q E p s d h
    refine ⟨h.1, ?_⟩
    have r := RK.update s.heap a f d.1
    exact Sem.wp_mono M Γ _ (fun _ _ _ z => ⟨z.1, r.trans z.2⟩) (fun _ _ _ z => ⟨z.1, r.trans z.2⟩) _ _ (ih () d.2 h.2)
  | alloc o k ih =>
    intro Q E p s d h
    have r := RK.push s.heap o
    exact Sem.wp_mono M Γ _ (fun _ _ _ z => ⟨z.1, r.trans z.2⟩) (fun _ _ _ z => ⟨z.1, r.trans z.2⟩) _ _ (ih _ (d _) h)
  | loadIfAlive a k ih => intro Q E p s d h; exact ih _ (d _) h
  | point l k ih => intro Q E p s d h; exact ih () d h
  | register a k ih => intro Q E p s d h; exact h
  | fresh k ih => intro Q E p s d h; exact ih _ (d _) h
  | ask k ih => intro Q E p s d h; exact ih _ (d _) h
  | choose a n k ih => intro Q E p s d h; exact ⟨h.1, ih _ (d _) h.2⟩
  | os a l k ih => intro Q E p s d h; exact ih _ (d _) h
  | call c a g l k ih => intro Q E p s d h; exact d.elim
  | handled o k ih => intro Q E p s d h; exact ih _ (d _) h
  | newGen c k ih => intro Q E p s d h; exact ih _ (d _) h
  | genState g k ih => intro Q E p s d h; obtain ⟨st, e, h⟩ := h; exact ⟨st, e, ih _ (d _) h⟩
  | resume g r l k ih => intro Q E p s d h; exact d.elim
  | yield v g l k ih => intro Q E p s d h; exact h
  | stack k ih => intro Q E p s d h; exact ih _ (d _) h
  | fork c k ih => intro Q E p s d h; exact h
  | thread k ih => intro Q E p s d h; exact ih _ (d _) h
  | await a k ih => intro Q E p s d h; exact h
theorem z2z {α : Type} {M : Model} {A : Around} {E : Value -> Shared -> Prop} {s : Shared} {t : Sem α} {Q : α -> Shared -> Prop} (d : DK t) (h : wpAny M A t Q E s) : wpAny M A t (fun a s' => Q a s' /\ RK s.heap s'.heap) (fun e s' => E e s' /\ RK s.heap s'.heap) s :=
  fun Γ p hΓ => z9I t d (h Γ p hΓ)
theorem z7B {α β : Type} : ∀ (t : Sem α) (f : α -> Sem β), DK t -> (∀ a, DK (f a)) -> DK (t.bind f) := by
  intro t f
  induction t with
  | pure a => intro _ h; exact h a
  | raise e => intro _ _; trivial
  | unsupported w => intro _ _; trivial
  | finish e => intro _ _; trivial
  | rule t k ih => intro d h; exact ih () d h
  | «at» q k ih => intro d h; exact ih () d h
  | load a q k ih => intro d h o; exact ih o (d o) h
  | update a q g k ih => intro d h; exact ⟨d.1, ih () d.2 h⟩
  | alloc o k ih => intro d h a; exact ih a (d a) h
  | loadIfAlive a k ih => intro d h o; exact ih o (d o) h
  | point l k ih => intro d h; exact ih () d h
  | register a k ih => intro _ _; trivial
  | fresh k ih => intro d h o; exact ih o (d o) h
  | ask k ih => intro d h o; exact ih o (d o) h
  | choose a n k ih => intro d h o; exact ih o (d o) h
  | os a l k ih => intro d h o; exact ih o (d o) h
  | call c a g l k ih => intro d h; exact d.elim
  | handled o k ih => intro d h o; exact ih o (d o) h
  | newGen c k ih => intro d h o; exact ih o (d o) h
  | genState g k ih => intro d h o; exact ih o (d o) h
  | resume g r l k ih => intro d h; exact d.elim
  | yield v g l k ih => intro _ _; trivial
  | stack k ih => intro d h o; exact ih o (d o) h
  | fork c k ih => intro _ _; trivial
  | thread k ih => intro d h o; exact ih o (d o) h
  | await a k ih => intro _ _; trivial
theorem z0I {α β : Type} {t : Sem α} {f : α -> Sem β} (d : DK t) (h : ∀ a, DK (f a)) : DK (t >>= f) := z7B t f d h
theorem z0X {α : Type} (a : α) : DK (pure a : Sem α) := trivial
theorem z1U {α : Type} (w : String) : DK (unsupported w : Sem α) := trivial
theorem z3L (a : Addr) : DK (load a) := fun _ => trivial
theorem z3n : DK stack := fun _ => trivial
theorem z1w (f : Array Value -> Array Value) (o : Obj) : (Obj.mapFields f o).dict = o.dict := by
  obtain ⟨c, d, dt, sl⟩ := o
  cases dt <;> rfl
theorem z1e (v : Value) (i : Nat) : DK (field v i) := by
  unfold field
  refine z0I ?_ fun a => ?_
  . unfold fieldsOf
    split
    . refine z0I (z3L _) fun o => ?_
      split
      . exact z0X _
      . exact z1U _
    . exact z1U _
  . split
    . exact z0X _
    . exact z1U _
theorem z1x (a : Addr) (i : Nat) (v : Value) : DK (updateField a i v) := by
  unfold updateField
  refine z0I (z3L _) fun o => ?_
  split
  . split
    . exact ⟨z1w _, trivial⟩
    . exact z1U _
  . exact z1U _
theorem z1M (v : Value) (i : Nat) (x : Value) : DK (setField v i x) := by
  unfold setField
  split
  . exact z1x _ _ _
  . exact z1U _
theorem z1C (e : Value) (f : Option Addr) : DK (setFlight e f) := by
  unfold setFlight
  refine z0I (z1e _ _) fun tb => ?_
  split
  . exact z1M _ _ _
  . exact z0X _
theorem z3M (a b c d e : Value) (pl : List Value) : DK (EntryCells.newEntry a b c d e pl) := by
  unfold EntryCells.newEntry newFields newObj
  generalize ([a, b, c, d, e] ++ (if pl.isEmpty then List.replicate 6 Value.none else pl)).toArray = arr
  dsimp only
  by_cases h : arr.size > sizeLine + 2
  . rw [if_pos h]
    trivial
  . rw [if_neg h]
    exact fun _ => trivial
theorem z66 : DK underTheClaimsCaller := fun _ => trivial
theorem z5P (env : Env) (outer : List Env) : DK (behindIsImport env outer) := by
  unfold behindIsImport
  split
  . exact z0X _
  . split
    . exact z0X _
    . exact z0I (z1e _ _) fun _ => z0X _
theorem z7C (env : Env) (b : Bool) (l : List Env) : DK (keptBack env b l) := by
  cases l with
  | nil =>
    show DK (if env.scope.isGenerator || env.scope.isCoroutine then pure Value.none else do return if <- underTheClaimsCaller then Value.notImplemented else Value.none)
    split
    . exact z0X _
    . exact z0I z66 fun _ => z0X _
  | cons c l => exact z0X _
theorem z3o : ∀ l : List Env, DK (readyFrames l)
  | [] => trivial
  | env :: outer => by
    unfold readyFrames
    split
    . refine z0I (z3L _) fun o => ?_
      split
      . exact z0X _
      . refine z0I (z5P _ _) fun b => z0I (z7C _ _ _) fun v => z0I ?_ fun _ => z3o outer
        exact ⟨fun _ => rfl, trivial⟩
    . exact z1U _
theorem z42 (env : Env) : DK (PySem.frameOf env) := by
  unfold PySem.frameOf
  refine z0I (z0I z3n fun _ => z0X _) fun l => z0I ?_ fun r => ?_
  . generalize l.dropWhile (·.frame != env.frame) = l'
    cases l' with
    | nil => exact z0X _
    | cons e l' => exact z0I (z3o _) fun _ => z0X _
  . split
    . exact z0X _
    . exact z1U _
theorem z67 (f : Addr) (b : Bool) : DK (entryPlaceOf f b) := by
  unfold entryPlaceOf
  refine z0I z3n fun l => ?_
  split <;> exact z0X _
theorem z5Q (e : Value) (env : Env) : DK (noteFrame e env) := by
  have tail : ∀ f head, DK (do setField e 1 (<- EntryCells.newEntry head (<- PySem.frameOf env) .none (rawInt f) .none (<- entryPlaceOf f (head != .none)))) := fun f head =>
    z0I (z42 _) fun _ => z0I (z67 _ _) fun _ => z0I (z3M _ _ _ _ _ _) fun _ => z1M _ _ _
  unfold noteFrame
  split
  . refine z0I (z1e _ _) fun head => ?_
    split
    . refine z0I (z1e _ _) fun x => ?_
      split
      . exact z0X _
      . exact z0I (z1M _ _ _) fun _ => tail _ _
    . exact tail _ _
  . exact z1U _
theorem z27 (env : Env) (e : Value) : DK (leaving env e) := z0I (z5Q _ _) fun _ => z1C _ _
def del (H : Hp) (a : Addr) : Hp := fun b => if b = a then none else H b
theorem z68 {H : Hp} {a : Addr} : del H a a = none := if_pos rfl
theorem z6W {H : Hp} {a b : Addr} (h : b ≠ a) : del H a b = H b := if_neg h
theorem z69 {H : Hp} {a b : Addr} (h : H b = none) : del H a b = none := by
  unfold del
  split
  . rfl
  . exact h
def CX2 (P : Program) (w : World) : CXT := fun st H s E e s' => ∃ (a t C : Addr) (B : Heap) (H' : Hp) (d : Option Addr), e = .ref a /\ s'.os = s.os /\ AllBare s'.gens /\ s.heap.objs.size <= a /\ Fly P w st H H' B a C t s.heap s'.heap /\ (∃ o, s'.heap.get? a = some o /\ o.dict = d) /\ E (.ref C) d H'
section
variable {X : Cx} {pins : List (Addr × Obj)} {σ : St} {H H' : Hp} {s : Shared}
theorem Fly.firstE {x C t : Addr} {d : Option Addr} {h' : Heap} (I : Inv X pins σ H s) (hst : X.stack = X.env :: X.outer) (hf : X.env.frame = some X.env.locals) (hex : X.ex = []) (hx : H x = some (.ext (ErrO x C d))) (hsz : X.s₀.heap.objs.size <= x)
    (fl : Heap.FlyingW (PySem.W.hideAll s.heap (x :: frs X.stack)) X.outer x (.ref C) (.ref t) h') (sm : s.heap.UpToSlots h') : Fly X.prog X.w X.outer X.H₀ (del H x) (PySem.W.hideAll s.heap (x :: frs X.stack)) x C t X.s₀.heap h' := by
  have hS : frs X.stack = X.env.locals :: frs X.outer := by rw [hst]; exact z1T hf
  have hxx : ∀ b, b ∉ X.ex := fun b => by rw [hex]; exact nin
  have ne : ∀ b o, X.s₀.heap.get? b = some o -> b ≠ X.env.locals := fun b o e => Nat.ne_of_lt (Nat.lt_of_lt_of_le (Heap.lt_size e) I.ok.above)
  have nx : ∀ b o, X.s₀.heap.get? b = some o -> b ≠ x := fun b o e => Nat.ne_of_lt (Nat.lt_of_lt_of_le (Heap.lt_size e) hsz)
  have out : ∀ b o, X.s₀.heap.get? b = some o -> b ∉ frs X.outer -> b ∉ x :: frs X.stack := fun b o e n hb => by
    rcases List.mem_cons.mp hb with z | hb
    . exact nx b o e z
    rw [hS] at hb
    rcases List.mem_cons.mp hb with z | z
    . exact ne b o e z
    . exact n z
  have kB : ∀ b o, X.s₀.heap.get? b = some o -> X.H₀ b = none -> b ∉ frs X.outer -> (PySem.W.hideAll s.heap (x :: frs X.stack)).get? b = some o := fun b o e n nb => PySem.W.hideAll_get _ (I.base.keep b o e n nb (hxx b)) (out b o e nb)
  have tB : ∀ b o, X.s₀.heap.get? b = some o -> b ∉ frs X.outer -> ∃ o', (PySem.W.hideAll s.heap (x :: frs X.stack)).get? b = some o' := fun b o e nb => by
    obtain ⟨o', e'⟩ := I.base.there b o e (hxx b)
    exact ⟨o', PySem.W.hideAll_get _ e' (out b o e nb)⟩
  have sl : ∀ b o, X.s₀.heap.get? b = some o -> X.H₀ b = none -> b ∈ frs X.outer -> ∃ sl, h'.get? b = some { o with slots := sl } := fun b o e n hb => by
    obtain ⟨s1, e1⟩ := I.base.slot b o e n hb (hxx b)
    obtain ⟨_, o', ho', hd⟩ := I.ok.funs.mem hb
    rw [e] at ho'
    cases ho'
    obtain ⟨s3, e3⟩ := sm b _ e1 hd
    exact ⟨s3, e3⟩
  have dn : ∀ {b : Addr} {u : HO}, H b = some u -> (∀ φ, u ≠ .ext φ) -> del H x b = some u := fun {b u} e n => by
    rw [z6W]
    . exact e
    . rintro rfl
      rw [hx] at e
      cases e
      exact n _ rfl
  refine ⟨⟨fun b o e n nb _ => fl.1 b o (kB b o e n nb), fun b o e n hb _ => sl b o e n hb, fun b o e n _ => z69 (I.base.free b o e n (hxx b)), fun b o e _ => ?_, fun b xs e => dn (I.base.tups b xs e) (fun φ z => nomatch z), fun b o u e => dn (I.base.frzs b o u e) (fun φ z => nomatch z),
    fun b ps e => let ⟨m, q⟩ := I.base.tbls b ps e; ⟨m, dn q (fun φ z => nomatch z)⟩⟩, kB, tB, fun b u q => ?_, fl⟩
  . by_cases hb : b ∈ frs X.outer
    . obtain ⟨s1, e1⟩ := sl b o e (I.ok.frf b hb) hb
      exact ⟨_, e1⟩
    . obtain ⟨o', e'⟩ := tB b o e hb
      exact ⟨o', fl.1 b o' e'⟩
  . have hbx : b ≠ x := fun z => by rw [z, z68] at q; cases q
    rw [z6W hbx] at q
    refine (I.hok b u q).stay (fun c v hc e => PySem.W.hideAll_get _ e fun hm => ?_) (fun _ z => dn z (fun φ z => nomatch z)) fun _ _ z => dn z (fun φ z => nomatch z)
    rcases List.mem_cons.mp hm with rfl | hm
    . rcases hc with z | z
      . exact hbx z.symm
      . rw [hx] at z; cases z
    . have n := I.stkFree c hm
      rcases hc with z | z
      . rw [z, q] at n
        cases n
      . rw [z] at n
        cases n
end
section
variable {P : Program} {w : World} {K : PySem.W.Frag} {mg : Str -> Option Value} {base : Heap} {N : List Str} {qual : Str} {scope : Scope} {f : Addr} {cd : Value} {A : Around} {outer : List Env} {s : Shared} {H : Hp} {E : XK}
theorem z7D : z21 (CX2 P w) (z4a (CX2 P w) P w K mg base N qual scope f cd A outer s H E) E := by
  intro pins σ H1 s1 e s' I h
  obtain ⟨a, t, C, B, H', d, rfl, os, bare, sz, F, ⟨o, eo, ed⟩, q⟩ := h
  show wpAny (model P w) (A.deeper (envOfC qual scope s.heap.objs.size f cd)) (leaving (envOfC qual scope s.heap.objs.size f cd) (.ref a)) _ _ s'
  refine wpAny_mono (z2z (z27 _ _) (wpAny_leaves_onW (E := fun _ _ => False) (Q := fun _ s'' => ∃ h', s'' = { s' with heap := h' } /\ Heap.FlyingW B outer a (.ref C) (.ref t) h' /\ s'.heap.UpToSlots h') I.ok.frames rfl F.fl fun h' fl sm => ⟨h', rfl, fl, sm⟩)) (fun _ s'' h2 => ?_) fun _ _ z => z.1.elim
  obtain ⟨⟨h', rfl, fl, sm⟩, rk⟩ := h2
  obtain ⟨o', eo', _⟩ := fl.there
  exact ⟨a, t, C, B, H', d, rfl, os.trans I.os, bare, Nat.le_trans I.sz sz, Fly.leave I rfl rfl rfl F fl sm, ⟨o', eo', (rk.get eo eo').trans ed⟩, q⟩
theorem z8D {X : Cx} : z21 (CX2 P w) X E0 := fun _ _ _ _ _ _ _ h => by
  obtain ⟨_, _, _, _, _, _, _, _, _, _, _, _, h⟩ := h
  exact h.elim
def z5R (X : Cx) (E : XK) : Prop := ∀ (pins : List (Addr × Obj)) (σ : St) (H : Hp) (s : Shared) (x C : Addr) (d : Option Addr), Inv X pins σ H s -> H x = some (.ext (ErrO x C d)) -> X.s₀.heap.objs.size <= x -> E (.ref C) d (del H x) -> X.xe (.ref x) s
theorem z7E : z5R (z4a (CX2 P w) P w K mg base N qual scope f cd A outer s H E) E := by
  intro pins σ H1 s1 x C d I hx hsz q
  have hin : ∀ env ∈ (envOfC qual scope s.heap.objs.size f cd :: outer), ∀ b, env.frame = some b -> b ∈ x :: frs (envOfC qual scope s.heap.objs.size f cd :: outer) := fun env he b hb => List.mem_cons_of_mem _ (List.mem_filterMap.mpr ⟨env, he, hb⟩)
  obtain ⟨o, vs, eo, hc, hd, ⟨⟨t, h0⟩, h1⟩, hdi⟩ := I.errO hx
  show wpAny (model P w) (A.deeper (envOfC qual scope s.heap.objs.size f cd)) (leaving (envOfC qual scope s.heap.objs.size f cd) (.ref x)) _ _ s1
  refine wpAny_mono (z2z (z27 _ _) (wpAny_leaving_firstW (E := fun _ _ => False) (base := PySem.W.hideAll s1.heap (x :: frs (envOfC qual scope s.heap.objs.size f cd :: outer)))
    (Q := fun _ s'' => ∃ h', s'' = { s1 with heap := h' } /\ Heap.LeftW (PySem.W.hideAll s1.heap (x :: frs (envOfC qual scope s.heap.objs.size f cd :: outer))) (envOfC qual scope s.heap.objs.size f cd :: outer) x o.cls (.ref t) s1.heap h')
    I.ok.frames (PySem.W.funFrames_hide I.stack hin) rfl eo (fun b o z => PySem.W.of_hideAll _ z) (PySem.W.hideAll_none _ List.mem_cons_self) hd h1 h0 fun h' hL => ⟨h', rfl, hL⟩)) (fun _ s'' h2 => ?_) fun _ _ z => z.1.elim
  obtain ⟨⟨h', rfl, k1, ⟨_, _, k2⟩, k3, k4⟩, rk⟩ := h2
  rw [hc] at k3
  have fl : Heap.FlyingW (PySem.W.hideAll s1.heap (x :: frs (envOfC qual scope s.heap.objs.size f cd :: outer))) outer x (.ref C) (.ref t) h' := ⟨k1, PySem.W.hideAll_none _ List.mem_cons_self, k2, k3⟩
  obtain ⟨o', eo', _⟩ := fl.there
  exact ⟨x, t, C, _, _, d, rfl, I.os, I.bare, hsz, Fly.firstE I rfl rfl rfl hx hsz fl k4, ⟨o', eo', (rk.get eo eo').trans hdi⟩, q⟩
end
section
variable {X : Cx} {pins : List (Addr × Obj)} {σ : St}
theorem z2O {s : Shared} {m : Sem Value} {Q : Flow -> Shared -> Prop} {E : Value -> Shared -> Prop} {M : Model} {A : Around} {env : Env} {K : PySem.W.Frag} (hh : A.handled = none)
    (h : wpAny M A m (fun v s1 => ∃ x C d, v = .ref x /\ K.In s1.heap /\ XE K C /\ ErrO x C d s1.heap /\ E (.ref x) s1) E s) : wpAny M A (raiseStmt env (some m) none) Q E s := by
  unfold raiseStmt
  refine wpAny_bind (wpAny_mono h (fun v s1 h1 => ?_) fun _ _ z => z)
  obtain ⟨x, C, d, rfl, X, Z, ⟨o, vs, eo, hc, hd, ⟨⟨t, h0⟩, h1⟩, hdi⟩, hE⟩ := h1
  obtain ⟨bm, N, nm, qn, bs, sn, sub, ab, col, dd, k0, k1, k2, k3, k5, mN, hC, hN, T, _⟩ := XE.obj X Z
  have hcB : (Value.ref C :: bm).contains (.type "BaseException") = true := by
    rw [List.contains_cons, T.hasType (X := "BaseException") (b := true) (by decide +kernel)]
    rfl
  obtain ⟨hp, g, dr, tk, os⟩ := s1
  obtain ⟨oc, od, odt, osl⟩ := o
  cases (show oc = .ref C from hc)
  cases (show odt = .fields vs from hd)
  have f1 : ∀ {Q' : Unit -> Shared -> Prop}, Q' () ⟨hp, g, dr, tk, os⟩ -> wpAny M A (setFlight (.ref x) none) Q' E ⟨hp, g, dr, tk, os⟩ := fun {Q'} q => by
    unfold setFlight
    refine wpAny_bind (wpAny_field eo rfl h1 ?_)
    rw [if_neg (by decide)]
    exact wpAny_pure q
  repeat (first | with_reducible refine wpAny_loadPart_at eo ?_ | with_reducible refine wpAny_loadPart_at hC ?_ | (with_reducible refine wpAny_isSubtype_exc hC ?_; rw [hcB]) | (with_reducible refine wpAny_bind (f1 ?_)) | wp_step)
  exact wpAny_raiseNew_none hh hE
def z9J (C : Addr) (sp : Sp) (t : TA) (E : XK) : TS := fun _ σ H => t σ H fun vs H1 => vs.length <= 1000 /\ ∀ x, H1 x = none -> sp (.ref x :: vs) (upd H1 x (.ext (ErrO x C none))) (fun v H2 => v = .non /\ ∃ d, H2 x = some (.ext (ErrO x C d)) /\ E (.ref C) d (del H2 x)) E0
def z5S (C : Addr) (t : TA) (E : XK) : TS := fun _ σ H => t σ H fun vs H1 => vs.length <= 1000 /\ E (.ref C) none H1
end
abbrev X2h (X : Cx) (a : Addr) : Cx := { X with A := X.A.mark (some (.ref a)), calm := false, xe := fun _ _ => False }
section
variable {X : Cx} {pins : List (Addr × Obj)} {σ : St} {H : Hp} {s : Shared} {a : Addr}
theorem Cx.Ok.hand2 (ok : X.Ok) : (X2h X a).Ok :=
  ⟨ok.mod, ok.kind, ok.glob, ok.blt, ok.above, ok.inj, ok.has, ok.cab, (fun z => nomatch z), ok.frames, ok.stk, ok.exf, ok.bs, ok.bsz, ok.noex, ok.exfs, ok.funs, ok.frf⟩
theorem Inv.hand2 (I : Inv X pins σ H s) : Inv (X2h X a) pins σ H s := ⟨I.ok.hand2, I.os, I.bare, I.base, I.loc, I.cell, I.free, I.freeC, I.pin, I.hok, I.len⟩
theorem Inv.unhand2 (ok : X.Ok) (I : Inv (X2h X a) pins σ H s) : Inv X pins σ H s := ⟨ok, I.os, I.bare, I.base, I.loc, I.cell, I.free, I.freeC, I.pin, I.hok, I.len⟩
abbrev z7F (D : Ends) (i : Nat) : Ends := { nx := fun σ' H' => D.nx (σ'.set i none) H', rt := D.rt, bk := fun σ' H' => D.bk (σ'.set i none) H', ct := fun σ' H' => D.ct (σ'.set i none) H' }
theorem z43 {D : Ends} {f : Flow} {E : Value -> Shared -> Prop} {i : Nat} {n : Str} {hp : Pos} (ok : X.Ok) (hN : X.N.Nodup) (hi : X.N[i]? = some n) (hloc : X.env.scope.names.lookup n = some .local)
    (h : SP (X2h X a) pins (z7F D i) f s) : wpAny (model X.prog X.w) X.A (do bindName X.env n .none; unbindBehindTheSuite X.env n hp) (fun _ s' => SP X pins D f s') E s := by
  cases f with
  | next => obtain ⟨σ', H', I, q⟩ := h; exact z0l (I.unhand2 ok) hN hi hloc fun s' I' => ⟨_, H', I', q⟩
  | brk => obtain ⟨σ', H', I, q⟩ := h; exact z0l (I.unhand2 ok) hN hi hloc fun s' I' => ⟨_, H', I', q⟩
  | cont => obtain ⟨σ', H', I, q⟩ := h; exact z0l (I.unhand2 ok) hN hi hloc fun s' I' => ⟨_, H', I', q⟩
  | ret u => obtain ⟨v, σ', H', I, r, q⟩ := h; exact z0l (I.unhand2 ok) hN hi hloc fun s' I' => ⟨v, _, H', I', r, q⟩
end
section
variable {X : Cx} {G : Addr} {gn n : Str} {gp hp tp ep : Pos} {b₀ : Stmt} {suite : List Stmt} {i : Nat} {th : TS}
theorem z7G {pins : List (Addr × Obj)} {σ : St} {H1 H' : Hp} {s1 s' : Shared} {B : Heap} {a c t' : Addr} {d : Option Addr} {D : Ends} {E : Value -> Shared -> Prop} (I : Inv X pins σ H1 s1) (hst : X.stack = X.env :: X.outer) (hf : X.env.frame = some X.env.locals)
    (hgG : Gl X gn) (hmG : X.mg gn = some (.ref G)) (hG : XE X.K G) (hN : X.N.Nodup) (hi : X.N[i]? = some n) (hloc : X.env.scope.names.lookup n = some .local)
    (hs : ∀ a, PSs (X2h X a) (b₀ :: suite) th) (os : s'.os = s1.os) (bare : AllBare s'.gens) (sz : s1.heap.objs.size <= a) (F : Fly X.prog X.w X.stack H1 H' B a c t' s1.heap s'.heap) (hdct : ∃ o, s'.heap.get? a = some o /\ o.dict = d)
    (Zc : XE X.K c) (ab : PySem.W.mroIn X.K c (.ref G) = some true) (q : th (z7F D i) (σ.set i (some (.ref a))) (upd H' a (.ext (z41 a c d)))) (hdG : (gn == ("__debug__" : Str)) = false) :
    wpAny (model X.prog X.w) X.A (noteFrame (.ref a) X.env) (fun _ s₂ => wpAny (model X.prog X.w) X.A (setFlight (.ref a) none) (fun _ s₃ =>
      wpAny (model X.prog X.w) X.A (handleBy (.ref a) X.env [.ExceptHandler (some (.Name gn gp)) (some n) (b₀ :: suite) hp]) (SP X pins D) E s₃) E s₂) E s' := by
  have hfr : X.A.frames = some (X.env :: X.outer) := by rw [<- hst]; exact I.ok.frames
  have hfl : Heap.FlyingW B (X.env :: X.outer) a (.ref c) (.ref t') s'.heap := by rw [<- hst]; exact F.fl
  obtain ⟨o0, eo0, ed0⟩ := hdct
  refine wpAny_mono (z2z (z5Q _ _) (wpAny_looks_onW (E := fun _ _ => False) (Q := fun _ s'' => ∃ h', s'' = { s' with heap := h' } /\ Heap.HeldW B (X.env :: X.outer) a (.ref c) (.ref t') X.env.locals h' /\ s'.heap.UpToSlots h') hfr hf hfl fun h' x y => ⟨h', rfl, x, y⟩)) (fun _ s'' h2 => ?_) fun _ _ z => z.1.elim
  obtain ⟨⟨h₄, rfl, held₄, sm₄⟩, rk₄⟩ := h2
  refine wpAny_mono (z2z (z1C _ _) (wpAny_landsW (E := fun _ _ => False) (s := { s' with heap := h₄ }) (Q := fun _ s'' => ∃ h', s'' = { s' with heap := h' } /\ Heap.FlyingW B (X.env :: X.outer) a (.ref c) (.ref t') h' /\ h₄.UpToSlots h') held₄ fun h' x y => ⟨h', rfl, x, y⟩)) (fun _ s'' h2 => ?_) fun _ _ z => z.1.elim
  obtain ⟨⟨h₅, rfl, fl₅, sm₅⟩, rk₅⟩ := h2
  have F₅ := F.on (by rw [hst]; exact fl₅) (sm₄.trans sm₅)
  have at5 : ∀ {h : Heap}, Fly X.prog X.w X.stack H1 H' B a c t' s1.heap h -> Inv X pins σ H' { s' with heap := h } := fun {h} Fh => I.call' (s' := { s' with heap := h }) os Fh.un (Fh.hok.kept Fh.fl.1) bare (fun b z => absurd z nin)
  have I₅ := at5 F₅
  obtain ⟨oe₅, e₅, c₅⟩ := F₅.fl.there
  have J₅ : Inv (X2h X a) pins σ H' { s' with heap := h₅ } := I₅.hand2
  refine wpAny_handleBy_cons (codeAny_handlers_test (z1K (X := X2h X a) J₅ hgG hmG ?_ hdG)) (by intro z; cases z)
  obtain ⟨bm, N, nm, qn, bs, sn, sub, ab', col, dd, k0, k1, k2, k3, k5, mN, hC, hN', T, _, cd0, hcd, hmro, _⟩ := XE.obj I₅.kIn Zc
  obtain ⟨bm2, N2, nm2, qn2, bs2, sn2, sub2, ab2, col2, dd2, j0, j1, j2, j3, j5, mN2, hC2, hN2, T2, _⟩ := XE.obj I₅.kIn hG
  have hsub : (Value.ref c :: bm).contains (.ref G) = true := by
    unfold PySem.W.mroIn at ab
    rw [hcd] at ab
    dsimp only [Option.bind] at ab
    rw [hmro, if_neg (by simp)] at ab
    exact Option.some.inj ab
  obtain ⟨sh, sg, sd, stk, sos⟩ := s'
  refine z1J hC hC2 e₅ c₅ (T2.hasType (X := "BaseException") (b := true) (by decide +kernel)) hsub (codeAny_handlers_suite_as ?_)
  refine wpAny_mono (z2z (z1C _ _) (lands_againW (E := fun _ _ => False) (s := ⟨h₅, sg, sd, stk, sos⟩) (Q := fun _ s'' => ∃ h', s'' = ⟨h', sg, sd, stk, sos⟩ /\ Heap.FlyingW B (X.env :: X.outer) a (.ref c) (.ref t') h' /\ h₅.UpToSlots h') (by rw [hst] at F₅; exact F₅.fl) fun h' x y => ⟨h', rfl, x, y⟩)) (fun _ s'' h2 => ?_) fun _ _ z => z.1.elim
  obtain ⟨⟨h₆, rfl, fl₆, sm₆⟩, rk₆⟩ := h2
  have F₆ := F₅.on (by rw [hst]; exact fl₆) sm₆
  have I₆ := at5 F₆
  obtain ⟨_, _, _, oe, vs, _, _, _, e₆, c₆, d₆, _⟩ := F₆.fl
  have rk := (rk₄.trans rk₅).trans rk₆
  have ET : z41 a c d h₆ := ⟨oe, vs, e₆, c₆.1, d₆, (rk.get eo0 e₆).trans ed0⟩
  have J₆ : Inv X pins σ (upd H' a (.ext (z41 a c d))) ⟨h₆, sg, sd, stk, sos⟩ := I₆.adopt (I.fpOk sz F₆.free) (fun _ _ _ e => e) ⟨oe, e₆⟩ (z64 ET)
  refine z1a (X := X2h X a) (v := .ref a) J₆.hand2 hN hi (.inl hloc) rfl (fun s₇ J₇ => ?_) (.inr hloc)
  refine wpAny_mono (hs a pins s₇ _ _ _ J₇ q) (fun f s₈ h₈ => ?_) fun _ _ z => z.elim
  exact z43 I.ok hN hi hloc h₈
abbrev TEx := St -> Hp -> VK -> XK -> Prop
def PEx (X : Cx) (e : Expr) (t : TEx) : Prop := ∀ (pins : List (Addr × Obj)) (s : Shared) (σ : St) (H : Hp) (Q : VK) (E : XK), Inv X pins σ H s -> t σ H Q E ->
  wpAny (model X.prog X.w) X.A (eval e X.env) (EP X pins σ Q) (fun ev s' => ∃ H1 s1, Inv X pins σ H1 s1 /\ CX2 X.prog X.w X.stack H1 s1 E ev s') s
def z6X (sp : Sp) (dvs : List V) (t : TA) : TEx := fun σ H Q E => t σ H fun vs H1 => sp (vs ++ dvs) H1 Q E
theorem z6A {k : Nat} {fa : Addr} {fd : FuncData} {ps : List Str} {sp : Sp} {dvs : List V} {ds : List Value} {x : Str} {p cp : Pos} {e : Expr} {es : List Expr} {t : TA} (F : FnOk X.prog X.w X.K X.mg X.base (CX2 X.prog X.w) k fa fd ps sp) (hr : Room k X.A) (hg : Gl X x) (hm : X.mg x = some (.ref fa)) (hk : PySem.W.keepIn X.K (.ref fa) = true) (hb : Binds X.K fd ps ds) (hd : Vals dvs ds)
    (ha : PA X.nox (e :: es) t) (hdb : (x == ("__debug__" : Str)) = false := by decide) (he : starEach (e :: es) X.env = (false, eval e X.env) :: starEach es X.env := by rfl) (hpl : (backTo cp (starEach es X.env)).any (·.1) = false := by rfl) :
    PEx X (.Call (.Name x p) (e :: es) [] cp) (z6X sp dvs t) := by
  intro pins s σ H Q E I h
  refine wpAny_Call_Name_kw (z1K I hg hm ?_ hdb)
  refine PySem.W.callWith_K (h₀ := X.base) I.ok.mod.kin hk ?_ he hpl
  refine wpAny_mono (ha cp pins s σ H _ (I.wish _) h) (fun us s1 ⟨vs, H1, I1, r, hsp⟩ => ⟨I1.kIn, ?_⟩) fun _ _ z => z.elim
  have I1' : Inv X pins σ H1 s1 := I1.unwish
  have r2 : Vals (vs ++ dvs) (us ++ ds) := r.append hd
  have hl : (us ++ ds).length = ps.length := by rw [<- r2.length]; exact F.len _ _ _ _ hsp
  refine wpAny_call (codeAny_mono (F.run X.A X.stack s1 H1 ⟨us, []⟩ (us ++ ds) (vs ++ dvs) _ E hr I1'.env0 (hb s1 us I1'.kIn hl) r2 hsp) fun rr s' hr' => ?_)
  cases rr with
  | error ev => exact ⟨H1, s1, I1', hr'⟩
  | ok fl =>
    cases fl with
    | ret u => exact I1'.after hr'
    | next => exact False.elim hr'
    | brk => exact False.elim hr'
    | cont => exact False.elim hr'
def hE (K : PySem.W.Frag) (G : Addr) (i : Nat) (th : TS) (D : Ends) (σ : St) (E : XK) : Prop := ∀ Cv d H2, E Cv d H2 -> ∃ c, Cv = .ref c /\ XE K c /\ PySem.W.mroIn K c (.ref G) = some true /\ ∀ a, H2 a = none -> th (z7F D i) (σ.set i (some (.ref a))) (upd H2 a (.ext (z41 a c d)))
def z9K (K : PySem.W.Frag) (G : Addr) (t : TEx) (i : Nat) (th : TS) : TS := fun D σ H => ∃ E : XK, t σ H (fun _ H2 => D.nx σ H2) E /\ hE K G i th D σ E
def zAo (K : PySem.W.Frag) (G : Addr) (t : TEx) (j i : Nat) (th : TS) : TS := fun D σ H => ∃ E : XK, t σ H (fun v H2 => D.nx (σ.set j (some v)) H2) E /\ hE K G i th D σ E
structure Gc (K : PySem.W.Frag) (mg : Str -> Option Value) (x : Str) (G : Addr) : Prop where
  m : mg x = some (.ref G)
  e : XE K G
variable {e : Expr} {t : TEx}
theorem z7H (ht : PEx X e t) (hst : X.stack = X.env :: X.outer) (hf : X.env.frame = some X.env.locals) (hgG : Gl X gn) (Z : Gc X.K X.mg gn G) (hN : X.N.Nodup) (hi : X.N[i]? = some n) (hloc : X.env.scope.names.lookup n = some .local)
    (hs : ∀ a, PSs (X2h X a) (b₀ :: suite) th) (hdG : (gn == ("__debug__" : Str)) = false := by decide) (hsw : swapsWith e none ep.line X.env = pure false := by rfl) :
    PS X (.Try [.Expr e ep] [.ExceptHandler (some (.Name gn gp)) (some n) (b₀ :: suite) hp] [] [] tp) (z9K X.K G t i th) := by
  intro pins s σ H D I h
  obtain ⟨E, h, hh⟩ := h
  refine wpAny_Try_except (wpAny_execs_cons (wpAny_Expr_any ?_ I.quiet hsw))
  refine wpAny_mono (ht pins s σ H _ E I h) (fun u s1 ⟨v, H1, I1, _, q⟩ => wpAny_execs_nil (wpAny_execs_nil ⟨σ, H1, I1, q⟩)) fun ev s' ⟨H1, s1, I1, h2⟩ => ?_
  obtain ⟨a, t', C, B, H', d, rfl, os, bare, sz, Fl, hd, q⟩ := h2
  obtain ⟨c, ec, Zc, ab, q⟩ := hh _ _ _ q
  cases ec
  exact z7G I1 hst hf hgG Z.m Z.e hN hi hloc hs os bare sz Fl hd Zc ab (q a Fl.free) hdG
end
structure Ow2 (P : Program) (w : World) (K : PySem.W.Frag) (mg : Str -> Option Value) (base : Heap) (x : Str) (ps : List Str) (k : Nat) (sp : Sp) : Prop where
  ex : ∃ (f : Addr) (fd : FuncData), mg x = some (.ref f) /\ PySem.W.keepIn K (.ref f) = true /\ Binds K fd ps [] /\ FnOk P w K mg base (CX2 P w) k f fd ps sp
theorem Df.ow2 {P : Program} {w : World} {K : PySem.W.Frag} {mg : Str -> Option Value} {base : Heap} {x : Str} {st : Stmt} {ps : List Str} {f : Addr} {fd : FuncData} {k : Nat} {sp : Sp} (D : Df K mg x st ps f fd) (F : FnOk P w K mg base (CX2 P w) k f fd ps sp) :
    Ow2 P w K mg base x ps k sp := ⟨f, fd, D.m, D.F.kp, D.b, F⟩
theorem Fun.ok2 {P : Program} {w : World} {K : PySem.W.Frag} {mg : Str -> Option Value} {base : Heap} {x qual : Str} {st : Stmt} {f : Addr} {fd : FuncData} {N ps : List Str} {k : Nat} {sp : Sp} (F : Fun K x qual st f fd) (S : FnScope N ps (z02 st)) (len : ∀ vs H Q E, sp vs H Q E -> vs.length = ps.length)
    (hbody : ∀ (cdv : Value) (A : Around) (outer : List Env) (s : Shared) (H : Hp) (vs : List V) (Q : VK) (E : XK), Room k (A.deeper (envOfC qual (z02 st) s.heap.objs.size f cdv)) -> sp vs H Q E ->
      ∃ t, PSs (z4a (CX2 P w) P w K mg base N qual (z02 st) f cdv A outer s H E) (z0B st) t /\ t { nx := fun _ H' => Q .non H', rt := Q } (start N vs) H) : FnOk P w K mg base (CX2 P w) (k + 1) f fd ps sp := by
  obtain ⟨oc, od, kV, doc, pm, an, cdv, ct, osl, rfl, lk, hcd⟩ := F.ex
  exact z5m lk hcd S len fun A outer s H vs Q E hr hsp => hbody cdv A outer s H vs Q E hr hsp
section
variable {X : Cx} {k j : Nat} {ps : List Str} {sp : Sp} {x : Str} {p pos : Pos} {e : Expr} {es : List Expr} {t : TA} {E : XK}
theorem z3p (O : Ow2 X.prog X.w X.K X.mg X.base x ps k sp) (hr : Room j X.A) (hg : Gl X x) (ha : PA X (e :: es) t) (hk : k <= j := by decide) (hdb : (x == ("__debug__" : Str)) = false := by decide)
    (he : starEach (e :: es) X.env = (false, eval e X.env) :: starEach es X.env := by rfl) (hpl : (backTo pos (starEach es X.env)).any (·.1) = false := by rfl) :
    PE X (.Call (.Name x p) (e :: es) [] pos) (z3w sp [] E0 t) := by
  obtain ⟨f, fd, m, kp, b, F⟩ := O.ex
  exact z2E F (hr.mono hk) hg m kp b .nil z8D ha hdb he hpl
theorem z2P (O : Ow2 X.prog X.w X.K X.mg X.base x ps k sp) (hr : Room j X.A) (hx : z21 (CX2 X.prog X.w) X E) (hg : Gl X x) (ha : PA X (e :: es) t) (hk : k <= j := by decide) (hdb : (x == ("__debug__" : Str)) = false := by decide)
    (he : starEach (e :: es) X.env = (false, eval e X.env) :: starEach es X.env := by rfl) (hpl : (backTo pos (starEach es X.env)).any (·.1) = false := by rfl) :
    PE X (.Call (.Name x p) (e :: es) [] pos) (z3w sp [] E t) := by
  obtain ⟨f, fd, m, kp, b, F⟩ := O.ex
  exact z2E F (hr.mono hk) hg m kp b .nil hx ha hdb he hpl
theorem z6B (O : Ow2 X.prog X.w X.K X.mg X.base x ps k sp) (hr : Room j X.A) (hg : Gl X x) (ha : PA X.nox (e :: es) t) (hk : k <= j := by decide) (hdb : (x == ("__debug__" : Str)) = false := by decide)
    (he : starEach (e :: es) X.env = (false, eval e X.env) :: starEach es X.env := by rfl) (hpl : (backTo pos (starEach es X.env)).any (·.1) = false := by rfl) :
    PEx X (.Call (.Name x p) (e :: es) [] pos) (z6X sp [] t) := by
  obtain ⟨f, fd, m, kp, b, F⟩ := O.ex
  exact z6A F (hr.mono hk) hg m kp b .nil ha hdb he hpl
end
section
variable {X : Cx} {pins : List (Addr × Obj)} {σ : St}
theorem z7I {H : Hp} {a : Addr} {o : HO} (h : H a = none) : del (upd H a o) a = H := by
  funext b
  unfold del
  split
  . rename_i e; rw [e, h]
  . rename_i e; exact z0A e
theorem z5T {x : Str} {C : Addr} {e : Expr} {es : List Expr} {t : TA} {p cp pos : Pos} {E : XK} (R : z5R X E) (hc : X.calm = true) (O : Oo X.K X.mg x C) (hg : Gl X x) (ha : PA X (e :: es) t)
    (hdb : (x == ("__debug__" : Str)) = false := by decide) (he : starEach (e :: es) X.env = (false, eval e X.env) :: starEach es X.env := by rfl) (hpl : (backTo cp (starEach es X.env)).any (·.1) = false := by rfl) :
    PS X (.Raise (some (.Call (.Name x p) (e :: es) [] cp)) none pos) (z5S C t E) := by
  intro pins s σ H D I h
  have h' : t σ H fun vs H1 => vs.length <= 1000 /\ E (.ref C) none H1 := h
  show wpAny (model X.prog X.w) X.A (do standAt pos; raiseStmt X.env (some (do let v <- eval (.Call (.Name x p) (e :: es) [] cp) X.env; standAt pos; pure v)) none) _ _ s
  refine wpAny_bind (wpAny_standAt (z2O (K := X.K) (I.ok.hd hc) (wpAny_bind ?_)))
  refine wpAny_Call_Name_kw (z1K I hg O.m ?_ hdb)
  refine PySem.W.callWith_K (h₀ := X.base) I.ok.mod.kin O.e.kp (thn (ha cp pins s σ H _ I h') fun us s1 ⟨vs, H1, I1, r, hz, q⟩ => ⟨I1.kIn, ?_⟩) he hpl
  have hf := I1.hok.fresh (Nat.le_succ s1.heap.objs.size)
  have hus : us.length <= sizeLine := by rw [<- r.length]; exact Nat.le_of_lt (z0k hz)
  have I2 := Inv.newErr (C := C) (us := us) I1
  refine z63 I1.kIn O.e.x O.e.fi (fun y => PySem.W.Looks.of_pure (F.excBase_ValueError.init.bind _)) hus ?_
  refine z5J (s := { s1 with heap := z62 s1.heap C us }) I2.kIn O.e.x z5K hus fun h' hk ho => ⟨rfl, wpAny_bind (wpAny_standAt (wpAny_pure ?_))⟩
  have J := I2.write (x := s1.heap.objs.size + 1) (e := s1.heap.objs.size + 1) (t' := s1.toks) (by rw [upd_same]; trivial) (.inl rfl) (fun b u hb z => hk b u hb z) (let ⟨o, _, z, _⟩ := ho; ⟨o, z⟩) (z1c ho)
  rw [z4H] at J
  refine ⟨s1.heap.objs.size + 1, C, none, rfl, J.kIn, O.e.x, ho, R _ _ _ _ _ _ _ J upd_same (Nat.le_trans I1.sz (Nat.le_succ _)) ?_⟩
  rw [z7I hf]
  exact q
end
structure Om (P : Program) (w : World) (K : PySem.W.Frag) (mg : Str -> Option Value) (base : Heap) (CX : CXT) (C : Addr) (m : Str) (ps : List Str) (dvs : List V) (k : Nat) (sp : Sp) : Prop where
  ex : ∃ (f : Addr) (fd : FuncData) (ds : List Value), Cls K C /\ Meth K C m f /\ Binds K fd ps ds /\ Vals dvs ds /\ FnOk P w K mg base CX k f fd ps sp
structure Oc (P : Program) (w : World) (K : PySem.W.Frag) (mg : Str -> Option Value) (base : Heap) (CX : CXT) (x : Str) (C : Addr) (ps : List Str) (dvs : List V) (k : Nat) (sp : Sp) : Prop where
  ex : ∃ (f : Addr) (fd : FuncData) (ds : List Value), mg x = some (.ref C) /\ Mk K C f /\ Binds K fd ps ds /\ Vals dvs ds /\ FnOk P w K mg base CX k f fd ps sp
def zA2 (C : Addr) (m : Str) (sp : Sp) (dvs : List V) (ta : TE) (t : TA) : TEx := fun σ H Q E => ta σ H fun x H1 => ∃ a dx fs, x = .ref a /\ H1 a = some (.ins C dx fs) /\ fs.lookup m = none /\ t σ H1 fun vs H2 => sp (x :: (vs ++ dvs)) H2 Q E
def zA3 (C : Addr) (sp : Sp) (dvs : List V) (t : TA) : TEx := fun σ H Q E => t σ H fun vs H1 => ∀ x dx, H1 x = none -> H1 dx = none -> dx ≠ x ->
  sp (.ref x :: (vs ++ dvs)) (upd (upd H1 dx (.own x)) x (.ins C dx [])) (fun v H2 => v = .non /\ Q (.ref x) H2) E
section
variable {X : Cx} {CX : CXT} {k j : Nat} {C : Addr} {ps : List Str} {sp : Sp} {dvs : List V} {E : XK} {x m : Str} {p pos apos : Pos} {e o : Expr} {es : List Expr} {ta : TE} {t : TA}
end
theorem FunD.ok2 {P : Program} {w : World} {K : PySem.W.Frag} {mg : Str -> Option Value} {base : Heap} {x qual : Str} {st : Stmt} {f T : Addr} {fd : FuncData} {N ps : List Str} {k : Nat} {sp : Sp} (F : FunD K x qual st f fd T) (S : FnScope N ps (z02 st)) (len : ∀ vs H Q E, sp vs H Q E -> vs.length = ps.length)
    (hbody : ∀ (cdv : Value) (A : Around) (outer : List Env) (s : Shared) (H : Hp) (vs : List V) (Q : VK) (E : XK), Room k (A.deeper (envOfC qual (z02 st) s.heap.objs.size f cdv)) -> sp vs H Q E ->
      ∃ t, PSs (z4a (CX2 P w) P w K mg base N qual (z02 st) f cdv A outer s H E) (z0B st) t /\ t { nx := fun _ H' => Q .non H', rt := Q } (start N vs) H) : FnOk P w K mg base (CX2 P w) (k + 1) f fd ps sp := by
  obtain ⟨oc, od, kV, doc, pm, an, cdv, ct, osl, rfl, lk, hcd⟩ := F.ex
  exact z5m lk hcd S len fun A outer s H vs Q E hr hsp => hbody cdv A outer s H vs Q E hr hsp
section
variable {X : Cx} {a : Addr}
theorem z28 : CallR (X2h X a) (.builtin "isinstance") (fun xs H Q => ∃ x C fs y u b, xs = [.ref x, y] /\ ErrAt H x C fs /\ XE X.K C /\ z9D y = some u /\ PySem.W.kitOne X.K (.ref C) u = some b /\ Q (.bl b) H) := z5L
end
end L2
namespace L2
open PySem PySem.Spec PyProof.Rows G
def z6C : Sp := fun vs H Q _ => ∃ st sp R bt : Int, vs = [.int st, .int sp, .int R, .int bt] /\ -2000000000 <= sp /\ sp <= 2000000000 /\ 0 <= R /\ R <= 1000000000 /\ Q (.int (z84 st sp R bt)) H
def z9L : Sp := fun vs H Q _ => ∃ st n R : Int, vs = [.int st, .int n, .int R] /\ 1 <= R /\ R <= 1000 /\ 0 <= st /\ st <= R /\ -1000 <= n /\ n <= 1000 /\ Q (.int (z3K R (st + n))) H
def z9M (K : PySem.W.Frag) : Sp := fun vs H Q _ => ∃ (a : Addr) (ns : List Int) (k : Int), vs = [.ref a, .int k] /\ SqL K H a (ns.map V.int) /\ 0 <= k /\ k < 1000 /\ ∀ r, 0 <= r -> r <= 1000000000 -> Q (.int r) H
def z8W (K : PySem.W.Frag) : Sp := fun vs H Q _ => ∃ (a : Addr) (ns : List Int) (k R : Int), vs = [.ref a, .int k, .int R] /\ SqL K H a (ns.map V.int) /\ 0 <= k /\ k < 1000 /\ 0 <= R /\ ∀ r, 0 <= r -> r <= R -> Q (.int r) H
def z3q (K : PySem.W.Frag) : Sp := fun vs H Q _ => ∃ (a : Addr) (ns : List Int) (k : Int), vs = [.ref a, .int k] /\ SqL K H a (ns.map V.int) /\ 0 <= k /\ k < 1000 /\ ∀ z, -1000000000 <= z -> z <= 1000000000 -> Q (.int z) H
def z9N (K : PySem.W.Frag) : Sp := fun vs H Q _ => ∃ (a : Addr) (ns : List Int) (k : Int), vs = [.ref a, .int k] /\ SqL K H a (ns.map V.int) /\ 0 <= k /\ k < 1000 /\ ∀ z, 0 <= z -> Q (.int z) H
def z8X : Sp := fun vs H Q _ => ∃ st sp R bt : Int, vs = [.int st, .int sp, .int R, .int bt] /\ -1000000000 <= sp /\ sp <= 1000000000 /\ 0 <= R /\ R <= 1000000000 /\ 0 <= st /\ st <= R /\ 0 <= bt /\ Q (.bl true) H
structure Goer where
  w : Nat
  h : Nat
  rows : List (List (Option Int))
  x : Int
  y : Int
  dx : Int
  dy : Int
structure Goer.Ok (g : Goer) : Prop where
  rect : Rect g.w g.h g.rows
  x0 : -2000000000 <= g.dx
  x1 : g.dx <= 2000000000
  y0 : -2000000000 <= g.dy
  y1 : g.dy <= 2000000000
def GoAt (H : Hp) (t : Addr) (g : Goer) : Prop := ∃ p, H t = some (.tup [.ref p, .int g.x, .int g.y, .int g.dx, .int g.dy]) /\ PicAt H p g.w g.rows
theorem GoAt.mono {H H' : Hp} {t : Addr} {g : Goer} (s : Same H H') (h : GoAt H t g) : GoAt H' t g := by
  obtain ⟨p, h1, h2⟩ := h
  exact ⟨p, s _ _ h1, h2.mono s⟩
def Goer.on (g : Goer) (W Hh : Int) : Prop := 0 <= g.x /\ g.x <= W - g.w /\ 0 <= g.y /\ g.y <= Hh - g.h
def Goer.at (g : Goer) (W Hh bt : Int) : Int × Int := (z84 g.x g.dx (W - g.w) bt, z84 g.y g.dy (Hh - g.h) bt)
def z6Y (cn : Addr) : Sp := fun vs H Q E => ∃ (t : Addr) (g : Goer) (W Hh bt : Int), vs = [.ref t, .int W, .int Hh, .int bt] /\ GoAt H t g /\ g.Ok /\ W <= 1000 /\ Hh <= 1000 /\
  (g.on W Hh -> ∀ s H', Same H H' -> H' s = some (.tup [.int (g.at W Hh bt).1, .int (g.at W Hh bt).2]) -> Q (.ref s) H') /\ (¬ g.on W Hh -> ∀ H', Same H H' -> E (.ref cn) none H')
def z8Y (K : PySem.W.Frag) : Sp := fun vs H Q _ => ∃ (a : Addr) (ns : List Int), vs = [.ref a] /\ SqL K H a (ns.map V.int) /\ ∀ (w h : Int) t H', Same H H' -> H' t = some (.tup [.int w, .int h]) -> 1 <= w -> w <= 64 -> 1 <= h -> h <= 64 -> Q (.ref t) H'
def zA4 : Sp := fun vs H Q _ => ∃ (t : Addr) (g : Goer) (W Hh bt : Int), vs = [.ref t, .int W, .int Hh, .int bt] /\ GoAt H t g /\ g.Ok /\ W <= 1000 /\ Hh <= 1000 /\ ¬ g.on W Hh /\ ∀ H', Same H H' -> Q (.bl true) H'
def z8Z : Sp := fun vs H Q _ => ∃ (t r s : Addr) (g : Goer) (W Hh bt : Int), vs = [.ref t, .ref r, .ref s, .int bt] /\ GoAt H t g /\ g.Ok /\ W <= 1000 /\ Hh <= 1000 /\ g.on W Hh /\ H r = some (.tup [.int (W - g.w), .int (Hh - g.h)]) /\ H s = some (.tup [.int W, .int Hh]) /\ ∀ H', Same H H' -> Q (.bl true) H'
def zA5 (K : PySem.W.Frag) : Sp := fun vs H Q _ => ∃ (a t r s : Addr) (ns : List Int) (g : Goer) (W Hh : Int), vs = [.ref a, .ref t, .ref r, .ref s] /\ SqL K H a (ns.map V.int) /\ GoAt H t g /\ g.Ok /\ W <= 1000 /\ Hh <= 1000 /\ g.on W Hh /\ H r = some (.tup [.int (W - g.w), .int (Hh - g.h)]) /\ H s = some (.tup [.int W, .int Hh]) /\
  ∀ u t' s' (g' : Goer) (W' Hh' : Int) H', Same H H' -> H' u = some (.tup [.ref t', .ref s']) -> GoAt H' t' g' -> g'.Ok -> H' s' = some (.tup [.int W', .int Hh']) -> W' <= 1000 -> Hh' <= 1000 -> ¬ g'.on W' Hh' -> Q (.ref u) H'
end L2
namespace L2
open PySem PySem.Spec PyProof.Rows G
def Goer.plc (g : Goer) (W Hh bt : Int) : Plc := ⟨g.w, g.h, g.rows, (g.at W Hh bt).1, (g.at W Hh bt).2⟩
def ftZ (g1 g2 : Goer) (W Hh : Int) (n : Nat) : Option (List Int) := (List.range n).findSome? fun (k : Nat) => (z1X (g1.plc W Hh k) (g2.plc W Hh k)).map fun zs => (k : Int) :: zs
theorem z1V (g1 g2 : Goer) (W Hh : Int) (n : Nat) : ftZ g1 g2 W Hh (n + 1) = (ftZ g1 g2 W Hh n).or ((z1X (g1.plc W Hh n) (g2.plc W Hh n)).map fun zs => (n : Int) :: zs) := by
  unfold ftZ
  rw [List.range_succ, List.findSome?_append]
  congr 1
  rw [List.findSome?_cons]
  cases (z1X (g1.plc W Hh n) (g2.plc W Hh n)).map fun zs => (n : Int) :: zs with
  | none => rfl
  | some _ => rfl
theorem z1f {g1 g2 : Goer} {W Hh : Int} : ∀ {n : Nat}, (∀ k : Nat, k < n -> z1X (g1.plc W Hh k) (g2.plc W Hh k) = none) -> ftZ g1 g2 W Hh n = none
  | 0, _ => rfl
  | n + 1, h => by
    rw [z1V, z1f fun k hk => h k (by omega), h n (by omega)]
    rfl
theorem z2Q {g1 g2 : Goer} {W Hh : Int} {k : Nat} {zs : List Int} (h : ∀ j : Nat, j < k -> z1X (g1.plc W Hh j) (g2.plc W Hh j) = none) (e : z1X (g1.plc W Hh k) (g2.plc W Hh k) = some zs) : ∀ {n : Nat}, k < n -> ftZ g1 g2 W Hh n = some ((k : Int) :: zs)
  | 0, hk => absurd hk (Nat.not_lt_zero _)
  | n + 1, hk => by
    rw [z1V]
    by_cases c : k < n
    . rw [z2Q h e c]
      rfl
    . have : k = n := by omega
      subst this
      rw [z1f h, e]
      rfl
theorem z6D (g1 g2 : Goer) (W Hh : Int) (n : Nat) : ftZ g1 g2 W Hh n = ftZ g2 g1 W Hh n := by
  induction n with
  | zero => rfl
  | succ n ih => rw [z1V, z1V, ih, z5E]
theorem z3N {g1 g2 : Goer} {W Hh : Int} : ∀ {n : Nat} (zs : List Int), ftZ g1 g2 W Hh n = some zs -> zs.length = 3
  | 0, zs, e => nomatch e
  | n + 1, zs, e => by
    rw [z1V] at e
    cases h : ftZ g1 g2 W Hh n with
    | some ws =>
      rw [h] at e
      cases e
      exact z3N _ h
    | none =>
      rw [h] at e
      cases h2 : z1X (g1.plc W Hh n) (g2.plc W Hh n) with
      | none => rw [h2] at e; cases e
      | some ws =>
        rw [h2] at e
        cases e
        have := z2N ws h2
        simp [this]
def z3r (cn : Addr) : Sp := fun vs H Q E => ∃ (t : Addr) (g : Goer) (W Hh bt : Int), vs = [.ref t, .int W, .int Hh, .int bt] /\ GoAt H t g /\ g.Ok /\ W <= 1000 /\ Hh <= 1000 /\
  (g.on W Hh -> ∀ s H', Same H H' -> PlAt H' s (g.plc W Hh bt) -> Q (.ref s) H') /\ (¬ g.on W Hh -> ∀ H', Same H H' -> E (.ref cn) none H')
def z3O (cn : Addr) : Sp := fun vs H Q E => ∃ (s t : Addr) (g1 g2 : Goer) (W Hh : Int) (m : Nat), vs = [.ref s, .ref t, .int W, .int Hh, .int (m : Int)] /\ GoAt H s g1 /\ GoAt H t g2 /\ g1.Ok /\ g2.Ok /\ W <= 1000 /\ Hh <= 1000 /\ m <= 1000 /\
  (g1.on W Hh -> g2.on W Hh -> ∀ v H', Same H H' -> BoxV H' v (ftZ g1 g2 W Hh (m + 1)) -> Q v H') /\ (¬ (g1.on W Hh /\ g2.on W Hh) -> ∀ H', Same H H' -> E (.ref cn) none H')
def LGoAt (H : Hp) (t : Addr) (g : Goer) : Prop := ∃ l ps, H t = some (.tup [.ref l, .int g.x, .int g.y, .int g.dx, .int g.dy]) /\ RowsAt H l ps g.rows
theorem LGoAt.mono {H H' : Hp} {t : Addr} {g : Goer} (s : Same H H') (h : LGoAt H t g) : LGoAt H' t g := by
  obtain ⟨l, ps, h1, h2⟩ := h
  exact ⟨l, ps, s _ _ h1, h2.mono s⟩
def z8E (H : Hp) (s : Addr) (W Hh : Int) : Prop := H s = some (.tup [.int W, .int Hh])
def z8F : Sp := fun vs H Q _ => ∃ (t s : Addr) (g : Goer) (W Hh bt : Int), vs = [.ref t, .ref s, .int bt] /\ LGoAt H t g /\ g.Ok /\ z8E H s W Hh /\ W <= 1000 /\ Hh <= 1000 /\ g.on W Hh /\ ∀ u H', Same H H' -> LPlAt H' u (g.plc W Hh bt) -> Q (.ref u) H'
def z3s : Sp := fun vs H Q _ => ∃ (s t sd : Addr) (g1 g2 : Goer) (W Hh : Int) (m : Nat), vs = [.ref s, .ref t, .ref sd, .int (m : Int)] /\ LGoAt H s g1 /\ LGoAt H t g2 /\ g1.Ok /\ g2.Ok /\ z8E H sd W Hh /\ W <= 1000 /\ Hh <= 1000 /\ m <= 1000 /\ g1.on W Hh /\ g2.on W Hh /\
  ∀ v H', Same H H' -> BoxV H' v (ftZ g1 g2 W Hh (m + 1)) -> Q v H'
def z5U (K : PySem.W.Frag) : Sp := fun vs H Q _ => ∃ (a sd : Addr) (ns : List Int) (k W Hh side : Int), vs = [.ref a, .int k, .ref sd, .int side] /\ SqL K H a (ns.map V.int) /\ 0 <= k /\ k < 100 /\ z8E H sd W Hh /\ 3 <= W /\ 3 <= Hh /\ 1 <= side /\ side <= 3 /\
  ∀ t g H', Same H H' -> LGoAt H' t g -> g.Ok -> g.on W Hh -> Q (.ref t) H'
def z2R : Sp := fun vs H Q _ => ∃ (t : Addr) (g : Goer), vs = [.ref t] /\ LGoAt H t g /\ g.Ok /\ ∀ u H', Same H H' -> GoAt H' u g -> Q (.ref u) H'
def z5V : Sp := fun vs H Q _ => ∃ (s t sd : Addr) (g1 g2 : Goer) (W Hh : Int) (m : Nat), vs = [.ref s, .ref t, .ref sd, .int (m : Int)] /\ GoAt H s g1 /\ GoAt H t g2 /\ g1.Ok /\ g2.Ok /\ z8E H sd W Hh /\ W <= 1000 /\ Hh <= 1000 /\ m <= 1000 /\ ¬ (g1.on W Hh /\ g2.on W Hh) /\ ∀ H', Same H H' -> Q (.bl true) H'
def z5W (K : PySem.W.Frag) : Sp := fun vs H Q _ => ∃ (a t sd : Addr) (ns : List Int) (g : Goer) (W Hh : Int), vs = [.ref a, .ref t, .ref sd] /\ SqL K H a (ns.map V.int) /\ LGoAt H t g /\ g.Ok /\ z8E H sd W Hh /\ g.on W Hh /\
  ∀ u (g' : Goer) H', Same H H' -> GoAt H' u g' -> g'.Ok -> ¬ g'.on W Hh -> Q (.ref u) H'
end L2
local macro_rules | `(tactic| walk_at "r1") => `(tactic| first
  | refine ⟨_, rfl, ?_⟩
  | refine ⟨_, _, rfl, rfl, ?_⟩
  | refine ⟨rfl, ?_⟩
  | refine ⟨(by show (0 : Int) < _; first | decide | omega), ?_⟩
  | refine ⟨⟨(by first | decide | omega), (by first | decide | omega)⟩, ?_⟩
  | refine ⟨L2.mulL (by first | decide | omega) (by first | decide | omega), ?_⟩
  | refine ⟨L2.mulR (by first | decide | omega) (by first | decide | omega), ?_⟩
  | refine ⟨L2.powS (by first | decide | omega) (by first | decide | omega) (by first | decide | omega), ?_⟩
  | refine ⟨L2.szV (by simp), ?_⟩)
local macro_rules | `(tactic| walk_at "rs") => `(tactic| repeat walk_at "r1")
namespace K44
open PySem PyProof.Rows L2 G
def z1P (i : Nat) : Stmt := PySem.Challenge.pw_glowboard_k44_the_first_touch.main.body.getD i (.Pass ⟨0, 0, 0, 0⟩)
abbrev z0t : Stmt := z1P 5
abbrev z13 : Stmt := z1P 6
abbrev z0Y : Stmt := z1P 7
abbrev z14 : Stmt := z1P 8
abbrev z0Z : Stmt := z1P 10
abbrev z0u : Stmt := z1P 11
abbrev z2S : Stmt := z1P 12
abbrev z0v : Stmt := z1P 14
abbrev z15 : Stmt := z1P 15
abbrev z1N : Stmt := z1P 17
abbrev z16 : Stmt := z1P 18
abbrev z0V : Stmt := z1P 19
abbrev z0w : Stmt := z1P 21
abbrev z0f : Stmt := z1P 22
abbrev z0g : Stmt := z1P 23
abbrev z0h : Stmt := z1P 24
abbrev z0m : Stmt := z1P 25
abbrev z0x : Stmt := z1P 26
abbrev z17 : Stmt := z1P 27
abbrev z0i : Stmt := z1P 28
abbrev z0j : Stmt := z1P 29
abbrev z0y : Stmt := z1P 30
abbrev z1O : Stmt := z1P 31
abbrev z18 : Stmt := z1P 32
abbrev z0a : Stmt := z1P 33
abbrev z0n : Stmt := z1P 34
abbrev z0W : Stmt := z1P 35
abbrev z19 : Stmt := z1P 36
abbrev z1y : Stmt := z1P 37
structure Blt (mg : Str -> Option Value) : Prop where
  f_len : mg "len" = none
  f_range : mg "range" = none
  f_enumerate : mg "enumerate" = none
  f_reversed : mg "reversed" = none
  f_isinstance : mg "isinstance" = none
  f_int : mg "int" = none
  f_bool : mg "bool" = none
  f_tuple : mg "tuple" = none
  f_all : mg "all" = none
structure Cl (K : PySem.W.Frag) (mg : Str -> Option Value) (c_GlowError c_NoSpot c_NoSign : Addr) : Prop where
  m_GlowError : mg "GlowError" = some (.ref c_GlowError)
  gi : Gi K c_GlowError
  x_GlowError : XE K c_GlowError
  tup : PySem.W.kitOne K (.type "tuple") (.ref c_GlowError) = some false
  ab : ∀ c ∈ ([c_NoSpot, c_NoSign] : List Addr), PySem.W.mroIn K c (.ref c_GlowError) = some true
  m_NoSpot : mg "NoSpot" = some (.ref c_NoSpot)
  x_NoSpot : XE K c_NoSpot
  m_NoSign : mg "NoSign" = some (.ref c_NoSign)
  x_NoSign : XE K c_NoSign
  f_NoSign_sign : PySem.W.findIn K (.ref c_NoSign) "sign" = some none
  f_NoSign_at : PySem.W.findIn K (.ref c_NoSign) "at" = some none
  kt : ∀ i, i < 2 -> Kits K [c_NoSpot, c_NoSign] c_GlowError i
section
variable {P : Program} {w : World} {K : PySem.W.Frag} {mg : Str -> Option Value} {base : Heap}
abbrev z1F : Stmt := inClass (z1P 2) 0
theorem z5X : FnScope ["self", "sign", "at"] ["self", "sign", "at"] (z02 z1F) := ⟨rfl, rfl, rfl, by decide +kernel, rfl, by decide +kernel, by decide +kernel⟩
theorem z5Y {c_GlowError c_NoSpot c_NoSign : Addr} (Z : Cl K mg c_GlowError c_NoSpot c_NoSign) {f : Addr} {fd : FuncData} (D : Fun K "__init__" "NoSign.__init__" z1F f fd) : FnOk P w K mg base CX0 1 f fd ["self", "sign", "at"] (zA0 c_NoSign "sign" "at") := by
  refine D.ok z5X (fun vs H Q E h => ?_) (fun cdv A outer s H vs Q E hr h => ?_)
  . obtain ⟨x, z, v, rfl, _⟩ := h
    rfl
  obtain ⟨x, z, v, rfl, hx, hz, hv, q⟩ := h
  refine ⟨_, z03 (z2B (z65 rfl Z.m_GlowError Z.gi (z00 (pv 0) (z00 (z7A (z1d z5M (z1d (z78 (pv 1)) (z1d z5M (z1d (z8A (pv 2)) z79))))) z04)))) (z03 (z76 (pv 0) (pv 1) rfl) (z05 (z77 (pv 0) (pv 2) rfl))), ?_⟩
  refine ⟨_, rfl, ⟨by decide, ⟨_, rfl, ⟨z, rfl, hz⟩, rfl⟩, by decide, ⟨_, rfl, hv, rfl⟩, trivial⟩, fun z' => ⟨x, c_NoSign, none, _, rfl, hx, Z.x_NoSign, ?_⟩⟩
  refine ⟨_, rfl, _, rfl, x, c_NoSign, rfl, hx, Z.x_NoSign, Z.f_NoSign_sign, fun d nd hd => ?_⟩
  refine ⟨_, rfl, _, rfl, x, c_NoSign, d, _, rfl, hd, by rw [z0A (Ne.symm hd), upd_same], upd_same, by show 1 <= 900; decide, Z.x_NoSign, Z.f_NoSign_at, ?_⟩
  rw [z4H]
  exact q d nd hd
end
section
variable {P : Program} {w : World} {K : PySem.W.Frag} {mg : Str -> Option Value} {base : Heap}
theorem z44 : FnScope ["_law_script", "_law_k", "_law_prime", "_law_many"] ["_law_script", "_law_k", "_law_prime", "_law_many"] (z02 z0w) := ⟨rfl, rfl, rfl, by decide +kernel, rfl, by decide +kernel, by decide +kernel⟩
theorem z45 {f : Addr} {fd : FuncData} (D : Df K mg "_law_draw" z0w ["_law_script", "_law_k", "_law_prime", "_law_many"] f fd) (B : Blt mg) :
    Ow P w K mg base "_law_draw" ["_law_script", "_law_k", "_law_prime", "_law_many"] 1 (z1W K) := by
  refine D.ow (D.F.ok z44 (fun vs H Q E h => ?_) (fun cdv A outer s H vs Q E hr h => ?_))
  . obtain ⟨a, ns, k, p, m, rfl, _⟩ := h
    rfl
  obtain ⟨a, ns, k, p, m, rfl, hS, k0, k1, hp, hm, q⟩ := h
  refine ⟨_, (z03 (z0q (z0Q z39 (z0L z0H rfl B.f_len boot_len (z00 (pv 0) z04)) z01 (z0T _)) (z05 (z0G z01)) z0N)
    (z05 (z0G (z08 z1H (z08 z1H (z08 z10 (z08 z0M (z0C z0o (pv 0) (z08 z1H (pv 1) (z0L z0H rfl B.f_len boot_len (z00 (pv 0) z04))) (fun _ _ => rfl)) (z08 z10 (pv 1) (pv 1))) z01) (pv 2)) (pv 3))))), ?_⟩
  refine ⟨_, rfl, a, _, rfl, .inl hS, ?_⟩
  walk_at "rs"
  refine z1t (fun c => ?_) (fun c => ?_)
  . exact q 0 (by decide) hm
  . have hl : 0 < ns.length := by
      rw [List.length_map] at c
      have : (ns.length : Int) ≠ 0 := fun e => c (by rw [e])
      omega
    obtain ⟨z, hz⟩ := z4u hl k
    refine ⟨_, rfl, _, rfl, _, rfl, a, _, rfl, .inl hS, _, _, rfl, rfl, (by rw [List.length_map]; show (0 : Int) < (ns.length : Int); omega), a, _, _, _, rfl, rfl, hS, hz, ?_⟩
    walk_at "rs"
    exact q _ (Int.emod_nonneg _ (by omega)) (Int.emod_lt_of_pos _ hm)
theorem z3P : FnScope ["_law_script", "_law_k", "_law_many"] ["_law_script", "_law_k", "_law_many"] (z02 z0f) := ⟨rfl, rfl, rfl, by decide +kernel, rfl, by decide +kernel, by decide +kernel⟩
theorem z3Q {f : Addr} {fd : FuncData} (D : Df K mg "_law_great" z0f ["_law_script", "_law_k", "_law_many"] f fd) (B : Blt mg) :
    Ow P w K mg base "_law_great" ["_law_script", "_law_k", "_law_many"] 1 (z4v K) := by
  refine D.ow (D.F.ok z3P (fun vs H Q E h => ?_) (fun cdv A outer s H vs Q E hr h => ?_))
  . obtain ⟨a, ns, k, m, rfl, _⟩ := h
    rfl
  obtain ⟨a, ns, k, m, rfl, hS, k0, k1, hm, q⟩ := h
  refine ⟨_, (z03 (z0q (z0Q z39 (z0L z0H rfl B.f_len boot_len (z00 (pv 0) z04)) z01 (z0T _)) (z05 (z0G z01)) z0N)
    (z05 (z0G (z08 z1H (z08 z6w (z08 z0M (z08 z1H (z0C z0o (pv 0) (z08 z1H (pv 1) (z0L z0H rfl B.f_len boot_len (z00 (pv 0) z04))) (fun _ _ => rfl)) (z08 z2Z z01 z01)) (pv 1)) (z08 z2Z z01 z01)) (pv 2))))), ?_⟩
  refine ⟨_, rfl, a, _, rfl, .inl hS, ?_⟩
  walk_at "rs"
  refine z1t (fun c => ?_) (fun c => ?_)
  . exact q 0 (by decide) hm
  . have hl : 0 < ns.length := by
      rw [List.length_map] at c
      have : (ns.length : Int) ≠ 0 := fun e => c (by rw [e])
      omega
    obtain ⟨z, hz⟩ := z4u hl k
    refine ⟨_, rfl, _, rfl, _, rfl, a, _, rfl, .inl hS, _, _, rfl, rfl, (by rw [List.length_map]; show (0 : Int) < (ns.length : Int); omega), a, _, _, _, rfl, rfl, hS, hz, ?_⟩
    walk_at "rs"
    have a1 := Int.emod_nonneg z (show (10 : Int) ^ Int.toNat 30 ≠ 0 by decide)
    have a2 := Int.emod_lt_of_pos z (show (0 : Int) < 10 ^ Int.toNat 30 by decide)
    have a3 : (10 : Int) ^ Int.toNat 30 + 1000000 < 2 ^ 1000 := by decide
    have a4 : ((2 ^ 1000 : Nat) : Int) = 2 ^ 1000 := by decide
    refine ⟨⟨by omega, by decide⟩, ?_⟩
    walk_at "rs"
    exact q _ (Int.emod_nonneg _ (by omega)) (Int.emod_lt_of_pos _ hm)
theorem z3R : FnScope ["_law_found"] ["_law_found"] (z02 z0g) := ⟨rfl, rfl, rfl, by decide +kernel, rfl, by decide +kernel, by decide +kernel⟩
theorem z3S {f : Addr} {fd : FuncData} (D : Df K mg "_law_whole" z0g ["_law_found"] f fd) (B : Blt mg) :
    Ow P w K mg base "_law_whole" ["_law_found"] 1 z4y := by
  refine D.ow (D.F.ok z3R (fun vs H Q E h => ?_) (fun cdv A outer s H vs Q E hr h => ?_))
  . obtain ⟨x, T, rfl, _⟩ := h
    rfl
  obtain ⟨x, T, rfl, hT, q⟩ := h
  refine ⟨_, (z05 (z0G (z6I (z0L z2H rfl B.f_isinstance boot_isinstance (z00 (pv 0) (z00 (z38 (v := .ty "int") rfl B.f_int boot_int rfl) z04))) (z6H (z6J (z0L z2H rfl B.f_isinstance boot_isinstance (z00 (pv 0) (z00 (z38 (v := .ty "bool") rfl B.f_bool boot_bool rfl) z04)))))))), ?_⟩
  refine ⟨x, rfl, x, "int", T, rfl, by decide, hT, _, rfl, ?_⟩
  have e := z3B T (z4i hT)
  cases hi : z6l T "int" with
  | true =>
    rw [hi, if_pos rfl] at e
    refine z6j ⟨x, rfl, x, "bool", T, rfl, by decide, hT, _, rfl, ?_⟩
    rw [e]
    exact q
  | false =>
    rw [hi, if_neg (by decide)] at e
    refine z6O ?_
    rw [e]
    exact q
theorem sc_lawshade : FnScope ["_law_script", "_law_k", "_law_shade_here"] ["_law_script", "_law_k"] (z02 z0h) := ⟨rfl, rfl, rfl, by decide +kernel, rfl, by decide +kernel, by decide +kernel⟩
theorem z3T {f : Addr} {fd : FuncData} (D : Df K mg "_law_shade" z0h ["_law_script", "_law_k"] f fd)
    (O_lawdraw : Ow P w K mg base "_law_draw" ["_law_script", "_law_k", "_law_prime", "_law_many"] 1 (z1W K)) (B : Blt mg) :
    Ow P w K mg base "_law_shade" ["_law_script", "_law_k"] 2 (z5A K) := by
  refine D.ow (D.F.ok sc_lawshade (fun vs H Q E h => ?_) (fun cdv A outer s H vs Q E hr h => ?_))
  . obtain ⟨a, ns, k, rfl, _⟩ := h
    rfl
  obtain ⟨a, ns, k, rfl, hS, k0, k1, q⟩ := h
  refine ⟨_, (z03 (z0E (i := 2) sc_lawshade.nd rfl (Or.inl rfl) (z0F O_lawdraw hr rfl (z00 (pv 0) (z00 (pv 1) (z00 z01 (z00 z01 z04))))))
    (z03 (z0q (z0Q z7g (pv 2) z01 (z0T _)) (z05 (z0G z0z)) z0N)
    (z05 (z0G (pv 2))))), ?_⟩
  walk_at "rs"
  refine ⟨a, ns, k, _, _, rfl, hS, k0, by omega, (by decide), (by decide), fun r r0 r1 => ?_⟩
  walk_at "rs"
  refine z1t (fun c => ?_) (fun c => ?_)
  . exact q none (fun z e => nomatch e)
  . walk_at "rs"
    exact q (some r) (fun z e => by cases e; omega)
theorem sc_lawrows : FnScope ["_law_script", "_law_k", "_law_wide", "_law_high", "_law_rows_here", "_law_y"] ["_law_script", "_law_k", "_law_wide", "_law_high"] (z02 z0m) := ⟨rfl, rfl, rfl, by decide +kernel, rfl, by decide +kernel, by decide +kernel⟩
theorem z46 {f : Addr} {fd : FuncData} (D : Df K mg "_law_rows" z0m ["_law_script", "_law_k", "_law_wide", "_law_high"] f fd)
    (O_lawshade : Ow P w K mg base "_law_shade" ["_law_script", "_law_k"] 2 (z5A K)) (B : Blt mg) :
    Ow P w K mg base "_law_rows" ["_law_script", "_law_k", "_law_wide", "_law_high"] 3 (z6Q K) := by
  refine D.ow (D.F.ok sc_lawrows (fun vs H Q E h => ?_) (fun cdv A outer s H vs Q E hr h => ?_))
  . obtain ⟨a, ns, k, w, h, rfl, _⟩ := h
    rfl
  obtain ⟨a, ns, k, wd, hg, rfl, hS, k0, k1, w1, w2, h1, h2, q⟩ := h
  refine ⟨_, (z03 (z0E (i := 4) sc_lawrows.nd rfl (Or.inl rfl) (z20 z04))
    (z03 (z1G PassesOwn.never rfl (z0b rfl B.f_range (z00 (pv 3) z04)) (z0K (i := 5) sc_lawrows.nd rfl (Or.inr rfl)) (z05 (z2B (z6h PySem.F.plainAttrs_list PySem.F.slot_list_append PySem.F.type_list_append z1h (pv 4) (z00 (z4m (locs := ["_law_x"]) (ix := [0, 1, 5]) rfl (BlkSc.look (dsc := z02 z0m) (N := ["_law_script", "_law_k", "_law_wide", "_law_high", "_law_rows_here", "_law_y"]) rfl rfl (by decide +kernel)) (z0b rfl B.f_range (z00 (pv 2) z04)) (fun _ _ _ _ _ _ => (z0K (i := 0) (by decide +kernel : (["_law_x", "_law_script", "_law_k", "_law_y"] : List Str).Nodup) rfl (Or.inl rfl))) (fun _ _ _ _ _ _ => z2I) (fun _ _ _ _ _ _ => (z0F O_lawshade hr rfl (z00 (pv 1) (z00 (z08 z0M (z08 z0M (pv 2) (z08 z10 z01 (pv 3))) (pv 0)) z04))))) z04)))))
    (z05 (z0G (pv 4))))), ?_⟩
  walk_at "rs"
  intro l nl
  refine ⟨_, rfl, _, rfl, (z2V (by omega) (by omega)).1, (z2V (by omega) (by omega)).2, ?_⟩
  refine z12 (n := hg.toNat) (fun y σ H2 => ∃ ps rows v5, σ = [some (.ref a), some (.int k), some (.int wd), some (.int hg), some (.ref l), v5] /\ RowsB H H2 l ps rows /\ rows.length = y /\ ∀ r ∈ rows, r.length = wd.toNat /\ Cells r)
    ⟨[], [], none, rfl, z6r (Same.refl _) nl, rfl, (fun _ hr => nomatch hr)⟩ ?_ ?_
  . rintro y σ H2 hy ⟨ps, rows, v5, rfl, RB, hlen, hrow⟩
    have hpl := RB.rat.len
    refine ⟨_, rfl, .inl ⟨rfl, _, SqL.of RB.rat.lst⟩, _, rfl, _, rfl, (z2V (by omega) (by omega)).1, (z2V (by omega) (by omega)).2, ?_⟩
    refine z2J (n := wd.toNat) (fun i σ zs H3 => ∃ v r, σ = [v, some (.ref a), some (.int k), some (.int (0 + (y : Int)))] /\ zs = r.map z0P /\ r.length = i /\ Cells r /\ H3 = H2) ⟨none, [], rfl, rfl, rfl, (fun _ h => nomatch h), rfl⟩ (Nat.le_of_lt (z0k (by omega))) ?_ ?_ ?_ ?_ ?_
    . rintro i σ zs H3 ⟨v, r, _, rfl, hr, _⟩
      rw [List.length_map, hr]
    . rintro σ zs H3 _
      show wd.toNat <= wd.toNat
      exact Nat.le_refl _
    . intro i σ zs H3 hi _
      show i < wd.toNat
      exact hi
    . rintro i σ zs H3 x H' Z hi ⟨v, r, rfl, rfl, hr, hc, rfl⟩ ⟨rfl, rfl⟩ hZ
      walk_at "rs"
      refine ⟨a, ns, _, rfl, RB.same.seq hS, by omega, by omega, fun c hcell => ?_⟩
      refine hZ _ _ _ ⟨_, r ++ [c], rfl, by rw [List.map_append]; rfl, by rw [List.length_append, hr]; rfl, fun d hd => ?_, rfl⟩
      rcases List.mem_append.mp hd with e | e
      . exact hc d e
      . rw [List.mem_singleton.mp e]
        exact hcell
    . rintro σ zs H3 ⟨v, r, rfl, rfl, hr, hc, rfl⟩ p np
      have npl : p ≠ l := fun e => by
        have := RB.rat.lst
        rw [<- e, np] at this
        cases this
      have npp : p ∉ ps := fun hp => by
        obtain ⟨i, hi, e⟩ := List.mem_iff_getElem.mp hp
        have := RB.rat.row i p (rows[i]'(by omega)) (by rw [List.getElem?_eq_getElem hi, e]) (List.getElem?_eq_getElem _)
        rw [np] at this
        cases this
      have np0 : H p = none := RB.same.free np
      have RB1 := RB.put (o := .lst (r.map z0P)) np0 npl npp
      refine ⟨l, _, _, rfl, rfl, RB1.rat.lst, by rw [List.length_map]; exact z0k (by omega), ?_⟩
      refine ⟨ps ++ [p], rows ++ [r], _, rfl, RB1.push np0 npl upd_same, by rw [List.length_append, hlen]; rfl, fun r' hr' => ?_⟩
      rcases List.mem_append.mp hr' with e | e
      . exact hrow r' e
      . rw [List.mem_singleton.mp e]
        exact ⟨hr, hc⟩
  . rintro σ H2 ⟨ps, rows, v5, rfl, RB, hlen, hrow⟩
    refine ⟨_, rfl, ?_⟩
    exact q l ps rows H2 RB.same RB.fl (fun p hp => (RB.fp p hp).1) RB.rat ⟨hlen, by omega, by omega, by omega, by omega, hrow⟩
theorem sc_lawbits : FnScope ["_law_rows_here", "_law_paints", "_law_masks", "_law_row", "_law_paint", "_law_mask", "_law_cell"] ["_law_rows_here"] (z02 z0x) := ⟨rfl, rfl, rfl, by decide +kernel, rfl, by decide +kernel, by decide +kernel⟩
theorem z47 {f : Addr} {fd : FuncData} (D : Df K mg "_law_bits" z0x ["_law_rows_here"] f fd) (B : Blt mg) :
    Ow P w K mg base "_law_bits" ["_law_rows_here"] 1 z3b := by
  refine D.ow (D.F.ok sc_lawbits (fun vs H Q E h => ?_) (fun cdv A outer s H vs Q E hr h => ?_))
  . obtain ⟨l, ps, rows, w, h, rfl, _⟩ := h
    rfl
  obtain ⟨l, ps, rows, wd, hg, rfl, RA, R, q⟩ := h
  refine ⟨_, (z03 (z0E (i := 1) sc_lawbits.nd rfl (Or.inl rfl) (z20 z04))
    (z03 (z0E (i := 2) sc_lawbits.nd rfl (Or.inl rfl) (z20 z04))
    (z03 (z1G PassesOwn.never rfl (z6b (pv 0)) (z0K (i := 3) sc_lawbits.nd rfl (Or.inl rfl)) (z03 (z0E (i := 4) sc_lawbits.nd rfl (Or.inl rfl) z01)
    (z03 (z0E (i := 5) sc_lawbits.nd rfl (Or.inl rfl) z01)
    (z03 (z1G PassesOwn.never rfl (z7s rfl B.f_reversed (z00 (pv 3) z04)) (z0K (i := 6) sc_lawbits.nd rfl (Or.inl rfl)) (z03 (z0E (i := 4) sc_lawbits.nd rfl (Or.inl rfl) (z08 z10 (pv 4) z01))
    (z03 (z0E (i := 5) sc_lawbits.nd rfl (Or.inl rfl) (z08 z10 (pv 5) z01))
    (z05 (z0q (z0Q z1L (pv 6) z0z (z0T _)) (z03 (z0E (i := 4) sc_lawbits.nd rfl (Or.inl rfl) (z08 z0M (pv 4) (pv 6)))
    (z05 (z0E (i := 5) sc_lawbits.nd rfl (Or.inl rfl) (z08 z0M (pv 5) z01)))) z0N)))))
    (z03 (z2B (z6h PySem.F.plainAttrs_list PySem.F.slot_list_append PySem.F.type_list_append z1h (pv 1) (z00 (pv 4) z04)))
    (z05 (z2B (z6h PySem.F.plainAttrs_list PySem.F.slot_list_append PySem.F.type_list_append z1h (pv 2) (z00 (pv 5) z04)))))))))
    (z05 (z0G (z0p (z00 (z0L z0H rfl B.f_len boot_len (z00 (z0C z0o (pv 0) z01 (fun _ _ => rfl)) z04)) (z00 (z0L z0H rfl B.f_len boot_len (z00 (pv 0) z04)) (z00 (z1R z0r rfl B.f_tuple boot_tuple (z00 (pv 1) z04)) (z00 (z1R z0r rfl B.f_tuple boot_tuple (z00 (pv 2) z04)) z04)))))))))), ?_⟩
  walk_at "rs"
  intro lp np
  walk_at "rs"
  intro lm nm
  have hlen := RA.len
  have hR := R.len
  have hR2 := R.h2
  have hpm : lp ≠ lm := fun e => by
    rw [<- e, upd_same] at nm
    cases nm
  have s1 : Same H (upd (upd H lp (.lst [])) lm (.lst [])) := (Same.new np).trans (Same.new nm)
  have nm0 : H lm = none := (Same.new np).free nm
  have g1 : (upd (upd H lp (.lst [])) lm (.lst [])) lp = some (.lst []) := by rw [z0A hpm, upd_same]
  have g2 : (upd (upd H lp (.lst [])) lm (.lst [])) lm = some (.lst []) := upd_same
  generalize upd (upd H lp (.lst [])) lm (.lst []) = H1 at s1 g1 g2
  refine ⟨_, rfl, l, rfl, ⟨_, SqL.of (s1 _ _ RA.lst)⟩, ?_⟩
  refine z5k (K := K) (a := l) (xs := ps.map V.ref) (fun i σ H2 => ∃ v3 v4 v5 v6, σ = [some (.ref l), some (.ref lp), some (.ref lm), v3, v4, v5, v6] /\ Same H H2 /\ H2 lp = some (.lst (((rows.take i).map z09).map V.int)) /\ H2 lm = some (.lst (((rows.take i).map z07).map V.int)))
    ⟨none, none, none, none, rfl, s1, g1, g2⟩ (fun i σ H2 _ ⟨_, _, _, _, _, s, _⟩ => SqL.of (s _ _ RA.lst)) ?_ ?_
  . rintro i x σ H2 hi ⟨v3, v4, v5, v6, rfl, s2, gp, gm⟩
    have hil : i < rows.length := by
      have := (List.getElem?_eq_some_iff.mp hi).1
      rw [List.length_map] at this
      omega
    obtain ⟨p, hp, gr⟩ := RA.at hil
    rw [List.getElem?_map, hp] at hi
    cases hi
    obtain ⟨hw, hc⟩ := R.row0 hil
    generalize hrow : rows[i]'hil = r at gr hw hc
    have hw2 := R.w2
    walk_at "rs"
    refine ⟨p, _, rfl, SqL.of (s2 _ _ gr), ?_⟩
    refine z6o (K := K) (a := p) (xs := r.map z0P) (fun j σ H3 => ∃ v6, σ = [some (.ref l), some (.ref lp), some (.ref lm), some (.ref p), some (.int (z09 (r.drop (r.length - j)))), some (.int (z07 (r.drop (r.length - j)))), v6] /\ H3 = H2)
      ⟨v6, by rw [Nat.sub_zero, List.drop_length]; rfl, rfl⟩ (fun j σ H3 _ ⟨_, _, e⟩ => by rw [e]; exact SqL.of (s2 _ _ gr)) ?_ ?_
    . rintro j x σ H3 hj hx ⟨v6, rfl, rfl⟩
      rw [List.length_map] at hj hx
      have hd : r.drop (r.length - (j + 1)) = r[r.length - 1 - j]'(by omega) :: r.drop (r.length - j) := by
        have e1 : r.length - (j + 1) = r.length - 1 - j := by omega
        have e2 : r.length - j = r.length - 1 - j + 1 := by omega
        rw [e1, e2]
        exact List.drop_eq_getElem_cons (by omega)
      rw [List.getElem?_map, List.getElem?_eq_getElem (by omega)] at hx
      have hx' : x = z0P (r[r.length - 1 - j]'(by omega)) := (Option.some.inj hx).symm
      subst hx'
      have hcell := hc _ (List.getElem_mem (show r.length - 1 - j < r.length by omega))
      generalize r[r.length - 1 - j]'(by omega) = c at hd hcell
      cases c with
      | none =>
        walk_at "rs"
        refine z7L (fun n => absurd rfl n) (fun _ => ?_)
        refine ⟨some (z0P none), ?_, rfl⟩
        rw [hd]
        show _ = [_, _, _, _, some (V.int ((none : Option Int).getD 0 + 16 * z09 (r.drop (r.length - j)))), some (V.int ((if (none : Option Int).isSome = true then 1 else 0) + 2 * z07 (r.drop (r.length - j)))), _]
        have e1 : (none : Option Int).getD 0 + 16 * z09 (r.drop (r.length - j)) = z09 (r.drop (r.length - j)) * 16 := by
          show (0 : Int) + _ = _
          omega
        have e2 : (if (none : Option Int).isSome = true then (1 : Int) else 0) + 2 * z07 (r.drop (r.length - j)) = z07 (r.drop (r.length - j)) * 2 := by
          rw [if_neg (by simp)]
          omega
        rw [e1, e2]
        rfl
      | some z =>
        walk_at "rs"
        refine ⟨some (z0P (some z)), ?_, rfl⟩
        rw [hd]
        show _ = [_, _, _, _, some (V.int ((some z : Option Int).getD 0 + 16 * z09 (r.drop (r.length - j)))), some (V.int ((if (some z : Option Int).isSome = true then 1 else 0) + 2 * z07 (r.drop (r.length - j)))), _]
        have e1 : (some z : Option Int).getD 0 + 16 * z09 (r.drop (r.length - j)) = z09 (r.drop (r.length - j)) * 16 + z := by
          show z + _ = _
          omega
        have e2 : (if (some z : Option Int).isSome = true then (1 : Int) else 0) + 2 * z07 (r.drop (r.length - j)) = z07 (r.drop (r.length - j)) * 2 + 1 := by
          rw [if_pos (show (some z).isSome = true from rfl)]
          omega
        rw [e1, e2]
        rfl
    . rintro σ H3 ⟨v6, rfl, rfl⟩
      rw [List.length_map, Nat.sub_self, List.drop_zero]
      have szp : (((rows.take i).map z09).map V.int).length < sizeLine := by
        rw [List.length_map, List.length_map, List.length_take]
        exact z0k (by omega)
      have szm : (((rows.take i).map z07).map V.int).length < sizeLine := by
        rw [List.length_map, List.length_map, List.length_take]
        exact z0k (by omega)
      refine ⟨_, rfl, .inl ⟨rfl, _, SqL.of gp⟩, _, rfl, lp, _, _, rfl, rfl, gp, szp, ?_⟩
      have gm' : (upd H3 lp (.lst (((rows.take i).map z09).map V.int ++ [.int (z09 r)]))) lm = some (.lst (((rows.take i).map z07).map V.int)) := by
        rw [z0A (Ne.symm hpm)]
        exact gm
      refine ⟨_, rfl, .inl ⟨rfl, _, SqL.of gm'⟩, _, rfl, lm, _, _, rfl, rfl, gm', szm, ?_⟩
      have tk : rows.take (i + 1) = rows.take i ++ [r] := by
        rw [List.take_succ, List.getElem?_eq_getElem hil, hrow]
        rfl
      refine ⟨_, _, _, _, rfl, (s2.put np).put nm0, ?_, ?_⟩
      . rw [z0A hpm, upd_same, tk, List.map_append, List.map_append]
        rfl
      . rw [upd_same, tk, List.map_append, List.map_append]
        rfl
  . rintro σ H2 ⟨v3, v4, v5, v6, rfl, s2, gp, gm⟩
    rw [List.length_map, hlen, List.take_length] at gp gm
    obtain ⟨p0, e0, g0⟩ := (RA.mono s2).atI R.ne
    refine ⟨_, rfl, l, _, 0, _, rfl, rfl, SqL.of (s2 _ _ RA.lst), e0, p0, _, rfl, .inl (SqL.of g0), _, rfl, l, _, rfl, .inl (SqL.of (s2 _ _ RA.lst)), _, rfl, lp, _, rfl, .inl ⟨SqL.of gp, fun t1 n1 => ?_⟩⟩
    refine ⟨_, rfl, lm, _, rfl, .inl ⟨SqL.of ((Same.new n1) _ _ gm), fun t2 n2 => ?_⟩⟩
    refine ⟨szV (by simp), fun t3 n3 => ?_⟩
    refine q t3 _ (((s2.trans (Same.new n1)).trans (Same.new n2)).trans (Same.new n3)) ⟨t1, t2, ?_, ?_, ?_⟩
    . rw [upd_same, List.length_map, List.length_map, hlen, (R.row0 R.ne).1]
    . exact (Same.new n3) _ _ ((Same.new n2) _ _ upd_same)
    . exact (Same.new n3) _ _ upd_same
theorem sc_paintof : FnScope ["row", "paint", "x", "cell"] ["row"] (z02 z0t) := ⟨rfl, rfl, rfl, by decide +kernel, rfl, by decide +kernel, by decide +kernel⟩
theorem z48 {f : Addr} {fd : FuncData} (D : Df K mg "paint_of" z0t ["row"] f fd) (B : Blt mg) :
    Ow P w K mg base "paint_of" ["row"] 1 z4w := by
  refine D.ow (D.F.ok sc_paintof (fun vs H Q E h => ?_) (fun cdv A outer s H vs Q E hr h => ?_))
  . obtain ⟨l, r, rfl, _⟩ := h
    rfl
  obtain ⟨l, r, rfl, hl, hc, hn, q⟩ := h
  refine ⟨_, (z03 (z0E (i := 1) sc_paintof.nd rfl (Or.inl rfl) z01)
    (z03 (z1G PassesOwn.never rfl (z4q rfl B.f_enumerate (z00 (pv 0) z04)) (z3X (n := 2) rfl (z0U (z0K (i := 2) sc_paintof.nd rfl (Or.inl rfl)) (z0U (z0K (i := 3) sc_paintof.nd rfl (Or.inl rfl)) z2C))) (z05 (z0q (z0Q z1L (pv 3) z0z (z0T _)) (z05 (z0E (i := 1) sc_paintof.nd rfl (Or.inl rfl) (z08 z7d (pv 1) (z08 z4Q (pv 3) (z08 z10 z01 (pv 2)))))) z0N)))
    (z05 (z0G (pv 1))))), ?_⟩
  refine ⟨_, rfl, l, rfl, ⟨_, SqL.of hl⟩, ?_⟩
  refine z3a (K := K) (a := l) (xs := r.map z0P) (fun i σ H2 => ∃ v w, σ = [some (.ref l), some (.int (z09 (r.take i))), v, w] /\ Same H H2) ⟨none, none, rfl, Same.refl _⟩ (fun i σ H2 _ ⟨_, _, _, s⟩ => SqL.of (s _ _ hl)) ?_ ?_
  . rintro i x σ H2 T hi ⟨v, w, rfl, s2⟩ nT
    have hil : i < r.length := by
      have := (List.getElem?_eq_some_iff.mp hi).1
      rwa [List.length_map] at this
    rw [List.getElem?_map, List.getElem?_eq_getElem hil] at hi
    have hx : x = z0P (r[i]'hil) := (Option.some.inj hi).symm
    subst hx
    have tk : r.take (i + 1) = r.take i ++ [r[i]'hil] := by
      rw [List.take_succ, List.getElem?_eq_getElem hil]
      rfl
    have hcell := hc _ (List.getElem_mem hil)
    have hpre : Cells (r.take i) := fun d hd => hc d (List.mem_of_mem_take hd)
    have hb := z2K hpre
    have hln : (r.take i).length = i := by rw [List.length_take]; omega
    have sn := z23 (r[i]'hil) (r.take i)
    rw [<- tk, hln] at sn
    rw [hln] at hb
    generalize r[i]'hil = c at hcell sn
    have s3 : Same H2 (upd H2 T (.tup [.int i, z0P c])) := Same.new nT
    refine ⟨T, _, rfl, SqT.of upd_same, rfl, _, _, rfl, _, _, rfl, rfl, ?_⟩
    cases c with
    | none =>
      walk_at "rs"
      refine z7L (fun n => absurd rfl n) (fun _ => ?_)
      refine ⟨some (.int i), some (z0P none), ?_, s2.trans s3⟩
      have e : z09 (r.take (i + 1)) = z09 (r.take i) := by
        rw [sn]
        show _ + 0 * _ = _
        omega
      rw [e]
      rfl
    | some z =>
      obtain ⟨z0, z1⟩ := hcell z rfl
      walk_at "rs"
      refine ⟨some (.int i), some (z0P (some z)), ?_, s2.trans s3⟩
      have e : z09 (r.take (i + 1)) = Builtin.bitOr (z09 (r.take i)) (z * 2 ^ ((4 : Int) * (i : Int)).toNat) := by
        have e4 : ((4 : Int) * (i : Int)).toNat = 4 * i := by omega
        rw [e4, z4t hb.1 (by rw [z7K]; exact hb.2) z0, sn, z7K]
        rfl
      rw [e]
      rfl
  . rintro σ H2 ⟨v, w, rfl, s2⟩
    refine ⟨_, rfl, ?_⟩
    rw [List.length_map, List.take_length]
    exact q _ s2
theorem sc_maskof : FnScope ["row", "mask", "x", "cell"] ["row"] (z02 z13) := ⟨rfl, rfl, rfl, by decide +kernel, rfl, by decide +kernel, by decide +kernel⟩
theorem z5Z {f : Addr} {fd : FuncData} (D : Df K mg "mask_of" z13 ["row"] f fd) (B : Blt mg) :
    Ow P w K mg base "mask_of" ["row"] 1 z6R := by
  refine D.ow (D.F.ok sc_maskof (fun vs H Q E h => ?_) (fun cdv A outer s H vs Q E hr h => ?_))
  . obtain ⟨l, r, rfl, _⟩ := h
    rfl
  obtain ⟨l, r, rfl, hl, hc, hn, q⟩ := h
  refine ⟨_, (z03 (z0E (i := 1) sc_maskof.nd rfl (Or.inl rfl) z01)
    (z03 (z1G PassesOwn.never rfl (z4q rfl B.f_enumerate (z00 (pv 0) z04)) (z3X (n := 2) rfl (z0U (z0K (i := 2) sc_maskof.nd rfl (Or.inl rfl)) (z0U (z0K (i := 3) sc_maskof.nd rfl (Or.inl rfl)) z2C))) (z05 (z0q (z0Q z1L (pv 3) z0z (z0T _)) (z05 (z0E (i := 1) sc_maskof.nd rfl (Or.inl rfl) (z08 z7d (pv 1) (z08 z4Q z01 (pv 2))))) z0N)))
    (z05 (z0G (pv 1))))), ?_⟩
  refine ⟨_, rfl, l, rfl, ⟨_, SqL.of hl⟩, ?_⟩
  refine z3a (K := K) (a := l) (xs := r.map z0P) (fun i σ H2 => ∃ v w, σ = [some (.ref l), some (.int (z07 (r.take i))), v, w] /\ Same H H2) ⟨none, none, rfl, Same.refl _⟩ (fun i σ H2 _ ⟨_, _, _, s⟩ => SqL.of (s _ _ hl)) ?_ ?_
  . rintro i x σ H2 T hi ⟨v, w, rfl, s2⟩ nT
    have hil : i < r.length := by
      have := (List.getElem?_eq_some_iff.mp hi).1
      rwa [List.length_map] at this
    rw [List.getElem?_map, List.getElem?_eq_getElem hil] at hi
    have hx : x = z0P (r[i]'hil) := (Option.some.inj hi).symm
    subst hx
    have tk : r.take (i + 1) = r.take i ++ [r[i]'hil] := by
      rw [List.take_succ, List.getElem?_eq_getElem hil]
      rfl
    have hb := z1B (r.take i)
    have hln : (r.take i).length = i := by rw [List.length_take]; omega
    have sn := z2h (r[i]'hil) (r.take i)
    rw [<- tk, hln] at sn
    rw [hln] at hb
    generalize r[i]'hil = c at sn
    have s3 : Same H2 (upd H2 T (.tup [.int i, z0P c])) := Same.new nT
    refine ⟨T, _, rfl, SqT.of upd_same, rfl, _, _, rfl, _, _, rfl, rfl, ?_⟩
    cases c with
    | none =>
      walk_at "rs"
      refine z7L (fun n => absurd rfl n) (fun _ => ?_)
      refine ⟨some (.int i), some (z0P none), ?_, s2.trans s3⟩
      have e : z07 (r.take (i + 1)) = z07 (r.take i) := by
        rw [sn, if_neg (by simp)]
        omega
      rw [e]
      rfl
    | some z =>
      walk_at "rs"
      refine ⟨some (.int i), some (z0P (some z)), ?_, s2.trans s3⟩
      have e : z07 (r.take (i + 1)) = Builtin.bitOr (z07 (r.take i)) ((1 : Int) * 2 ^ (i : Int).toNat) := by
        rw [Int.toNat_natCast, z4t hb.1 hb.2 (by decide), sn, if_pos (show (some z).isSome = true from rfl)]
      rw [e]
      rfl
  . rintro σ H2 ⟨v, w, rfl, s2⟩
    refine ⟨_, rfl, ?_⟩
    rw [List.length_map, List.take_length]
    exact q _ s2
theorem sc_filled : FnScope ["wide", "high", "cell", "row"] ["wide", "high", "cell"] (z02 z14) := ⟨rfl, rfl, rfl, by decide +kernel, rfl, by decide +kernel, by decide +kernel⟩
theorem z49 {f T : Addr} {fd : FuncData} (D : DfD K mg "filled" z14 ["wide", "high", "cell"] f fd T)
    (O_paintof : Ow P w K mg base "paint_of" ["row"] 1 z4w)
    (O_maskof : Ow P w K mg base "mask_of" ["row"] 1 z6R) (B : Blt mg) :
    FnOk P w K mg base CX0 2 f fd ["wide", "high", "cell"] z2L := by
  refine D.F.ok sc_filled (fun vs H Q E h => ?_) (fun cdv A outer s H vs Q E hr h => ?_)
  . obtain ⟨w, h, c, rfl, _⟩ := h
    rfl
  obtain ⟨wd, hg, c, rfl, w1, w2, h1, h2, hc, q⟩ := h
  refine ⟨_, (z03 (z0E (i := 3) sc_filled.nd rfl (Or.inl rfl) (z08 z7n (z20 (z00 (pv 2) z04)) (pv 0)))
    (z05 (z0G (z0p (z00 (pv 0) (z00 (pv 1) (z00 (z08 z4z (z0p (z00 (z0F O_paintof hr rfl (z00 (pv 3) z04)) z04)) (pv 1)) (z00 (z08 z4z (z0p (z00 (z0F O_maskof hr rfl (z00 (pv 3) z04)) z04)) (pv 1)) z04)))))))), ?_⟩
  walk_at "rs"
  intro l1 n1
  refine ⟨_, rfl, l1, _, _, rfl, rfl, upd_same, by omega, by omega, ?_, fun l2 n2 => ?_⟩
  . show 1 * wd.toNat <= sizeLine
    exact Nat.le_of_lt (z0k (by omega))
  rw [z3d]
  have s2 : Same H (upd (upd H l1 (.lst [z0P c])) l2 (.lst (List.replicate wd.toNat (z0P c)))) := (Same.new n1).trans (Same.new n2)
  have g2 : (upd (upd H l1 (.lst [z0P c])) l2 (.lst (List.replicate wd.toNat (z0P c)))) l2 = some (.lst ((List.replicate wd.toNat c).map z0P)) := by rw [upd_same, List.map_replicate]
  generalize upd (upd H l1 (.lst [z0P c])) l2 (.lst (List.replicate wd.toNat (z0P c))) = H2 at s2 g2
  refine ⟨_, rfl, _, rfl, _, rfl, l2, _, rfl, g2, z2j hc _, by rw [List.length_replicate]; omega, fun H3 s3 => ⟨szV (by simp), fun t1 m1 => ?_⟩⟩
  refine ⟨_, rfl, t1, _, _, rfl, rfl, upd_same, h1, by omega, fun p1 H4 s4 g4 => ?_⟩
  have s4' := (s3.trans (Same.new m1)).trans s4
  refine ⟨_, rfl, l2, _, rfl, s4' _ _ g2, z2j hc _, by rw [List.length_replicate]; omega, fun H5 s5 => ⟨szV (by simp), fun t2 m2 => ?_⟩⟩
  refine ⟨_, rfl, t2, _, _, rfl, rfl, upd_same, h1, by omega, fun p2 H6 s6 g6 => ?_⟩
  refine ⟨szV (by simp), fun t3 m3 => ?_⟩
  have s6' := (s5.trans (Same.new m2)).trans s6
  refine q t3 _ (((s2.trans s4').trans s6').trans (Same.new m3)) ⟨p1, p2, ?_, ?_, ?_⟩
  . rw [upd_same, List.length_replicate]
    have e1 : ((wd.toNat : Nat) : Int) = wd := by omega
    have e2 : ((hg.toNat : Nat) : Int) = hg := by omega
    rw [e1, e2]
  . rw [List.map_replicate, List.map_replicate]
    exact (Same.new m3) _ _ (s6' _ _ g4)
  . rw [List.map_replicate, List.map_replicate]
    exact (Same.new m3) _ _ g6
theorem z30 : FnScope ["rows", "y"] ["rows", "y"] (z02 z0Z) := ⟨rfl, rfl, rfl, by decide +kernel, rfl, by decide +kernel, by decide +kernel⟩
theorem z31 {f : Addr} {fd : FuncData} (D : Df K mg "bits_of_row" z0Z ["rows", "y"] f fd) (B : Blt mg) :
    Ow P w K mg base "bits_of_row" ["rows", "y"] 1 z2s := by
  refine D.ow (D.F.ok z30 (fun vs H Q E h => ?_) (fun cdv A outer s H vs Q E hr h => ?_))
  . obtain ⟨t, zs, y, rfl, _⟩ := h
    rfl
  obtain ⟨t, zs, y, rfl, ht, q⟩ := h
  refine ⟨_, (z05 (z0G (z2A (z1Q z2D z6d z01 (pv 1) (z0L z0H rfl B.f_len boot_len (z00 (pv 0) z04))) (z0C z06 (pv 0) (pv 1) (fun _ _ => rfl)) z01))), ?_⟩
  walk_at "rs"
  refine z1t (fun c1 => ?_) (fun c1 => ⟨_, rfl, z6O ?_⟩)
  . refine ⟨_, rfl, t, _, rfl, .inr (SqT.of ht), ?_⟩
    rw [List.length_map]
    walk_at "rs"
    refine z1t (fun c2 => ?_) (fun c2 => ?_)
    . have hy : y.toNat < zs.length := by omega
      have e : zAt zs y = zs[y.toNat]'hy := by
        unfold zAt
        rw [if_pos c1, List.getElem?_eq_getElem hy]
        rfl
      rw [e] at q
      exact ⟨_, rfl, _, rfl, t, _, _, _, rfl, rfl, SqT.of ht, z7u c1 (List.getElem?_eq_getElem hy), q⟩
    . have e : zAt zs y = 0 := by
        unfold zAt
        rw [if_pos c1, List.getElem?_eq_none (by omega)]
        rfl
      rw [e] at q
      exact q
  . have e : zAt zs y = 0 := by
      unfold zAt
      rw [if_neg c1]
    rw [e] at q
    exact q
theorem sc_cutbits : FnScope ["bits", "at", "many", "moved"] ["bits", "at", "many"] (z02 z0u) := ⟨rfl, rfl, rfl, by decide +kernel, rfl, by decide +kernel, by decide +kernel⟩
theorem z4A {f : Addr} {fd : FuncData} (D : Df K mg "cut_bits" z0u ["bits", "at", "many"] f fd) (B : Blt mg) :
    Ow P w K mg base "cut_bits" ["bits", "at", "many"] 1 z2t := by
  refine D.ow (D.F.ok sc_cutbits (fun vs H Q E h => ?_) (fun cdv A outer s H vs Q E hr h => ?_))
  . obtain ⟨b, a, m, rfl, _⟩ := h
    rfl
  obtain ⟨b, a, m, rfl, b0, b1, a0, a1, m0, m1, q⟩ := h
  refine ⟨_, (z03 (z0E (i := 3) sc_cutbits.nd rfl (Or.inl rfl) (z2A (z0Q z7h (pv 1) z01 (z0T _)) (z08 z7c (pv 0) (pv 1)) (z08 zAg (pv 0) (z4P z2a (pv 1)))))
    (z05 (z0G (z08 z4R (pv 3) (z08 z0c (z08 z4Q z01 (pv 2)) z01))))), ?_⟩
  unfold z6S at q
  walk_at "rs"
  refine z1t (fun c1 => ?_) (fun c1 => ?_)
  . rw [if_pos c1] at q
    walk_at "rs"
    refine ⟨c1, ?_⟩
    walk_at "rs"
    have e := z58 (m := m.toNat) (Int.ediv_nonneg b0 (Int.le_of_lt (z1E a.toNat)))
    rw [<- e] at q
    exact q
  . rw [if_neg c1] at q
    walk_at "rs"
    have e := z58 (m := m.toNat) (Int.mul_nonneg b0 (Int.le_of_lt (z1E (-a).toNat)))
    rw [<- e] at q
    exact q
theorem sc_cut : FnScope ["pic", "x", "y", "wide", "high", "paints", "masks"] ["pic", "x", "y", "wide", "high"] (z02 z2S) := ⟨rfl, rfl, rfl, by decide +kernel, rfl, by decide +kernel, by decide +kernel⟩
theorem z8G {f : Addr} {fd : FuncData} (D : Df K mg "cut" z2S ["pic", "x", "y", "wide", "high"] f fd)
    (Od2_filled : Owd P w K mg base "filled" ["wide", "high", "cell"] [.non] 2 z2L)
    (O_bitsofrow : Ow P w K mg base "bits_of_row" ["rows", "y"] 1 z2s)
    (O_cutbits : Ow P w K mg base "cut_bits" ["bits", "at", "many"] 1 z2t) (B : Blt mg) :
    Ow P w K mg base "cut" ["pic", "x", "y", "wide", "high"] 3 z7y := by
  refine D.ow (D.F.ok sc_cut (fun vs H Q E h => ?_) (fun cdv A outer s H vs Q E hr h => ?_))
  . obtain ⟨p, x, y, w, h, rows, w', h', rfl, _⟩ := h
    rfl
  obtain ⟨p, x, y, wd, hg, rows, w', h', rfl, PC, R, w1, w2, h1, h2, q⟩ := h
  obtain ⟨pp, pm, g1, g2, g3⟩ := id PC
  refine ⟨_, (z03 (z0q (PW.pt (z5h (z0Q z2D (pv 1) (z4P z2a (pv 3)) (z0T _)) (z4M (z0Q z7h (pv 1) (z0C z06 (pv 0) z01 (fun _ _ => rfl)) (z0T _))))) (z05 (z0G (z6t Od2_filled hr rfl (z00 (pv 3) (z00 (pv 4) z04))))) z0N)
    (z03 (z4n (i := 5) (locs := ["j"]) (ix := [0, 2, 1, 3]) rfl sc_cut.nd rfl rfl (BlkSc.look (dsc := z02 z2S) (N := ["pic", "x", "y", "wide", "high", "paints", "masks"]) rfl rfl (by decide +kernel)) (z0b rfl B.f_range (z00 (pv 4) z04)) (fun _ _ _ _ _ _ => (z0K (i := 0) (by decide +kernel : (["j", "pic", "y", "x", "wide"] : List Str).Nodup) rfl (Or.inl rfl))) (fun _ _ _ _ _ _ => z2I) (fun _ _ _ _ _ _ => (z0F O_cutbits hr rfl (z00 (z0F O_bitsofrow hr rfl (z00 (z0C z4r (pv 1) z01 (fun _ _ => rfl)) (z00 (z08 z0M (pv 2) (pv 0)) z04))) (z00 (z08 z10 z01 (pv 3)) (z00 (z08 z10 z01 (pv 4)) z04))))) rfl)
    (z03 (z4n (i := 6) (locs := ["j"]) (ix := [0, 2, 1, 3]) rfl sc_cut.nd rfl rfl (BlkSc.look (dsc := z02 z2S) (N := ["pic", "x", "y", "wide", "high", "paints", "masks"]) rfl rfl (by decide +kernel)) (z0b rfl B.f_range (z00 (pv 4) z04)) (fun _ _ _ _ _ _ => (z0K (i := 0) (by decide +kernel : (["j", "pic", "y", "x", "wide"] : List Str).Nodup) rfl (Or.inl rfl))) (fun _ _ _ _ _ _ => z2I) (fun _ _ _ _ _ _ => (z0F O_cutbits hr rfl (z00 (z0F O_bitsofrow hr rfl (z00 (z0C z4r (pv 1) z01 (fun _ _ => rfl)) (z00 (z08 z0M (pv 2) (pv 0)) z04))) (z00 (pv 3) (z00 (pv 4) z04))))) rfl)
    (z05 (z0G (z0p (z00 (pv 3) (z00 (pv 4) (z00 (z1R z0r rfl B.f_tuple boot_tuple (z00 (pv 5) z04)) (z00 (z1R z0r rfl B.f_tuple boot_tuple (z00 (pv 6) z04)) z04)))))))))), ?_⟩
  have e1 : ((w'.toNat : Nat) : Int) = w' := by omega
  have e2 : ((h'.toNat : Nat) : Int) = h' := by omega
  have off : (x <= -w' \/ (wd : Int) <= x) -> z9P (z3w z2L [V.non] E0 (z5l (z8I 3) (z5l (z8I 4) z8m))) { nx := fun x H' => Q V.non H', rt := Q } (L2.start ["pic", "x", "y", "wide", "high", "paints", "masks"] [V.ref p, V.int x, V.int y, V.int w', V.int h']) H := fun hx => by
    refine ⟨_, rfl, _, rfl, w', h', none, rfl, w1, w2, h1, h2, (fun _ e => nomatch e), fun r H2 s2 PF => ?_⟩
    refine q r H2 s2 (PF.of ?_)
    rw [z6z R (by rw [e1]; exact hx)]
  walk_at "rs"
  refine z1t (fun c => z6j (off (.inl c))) (fun c1 => ?_)
  refine ⟨_, rfl, _, rfl, p, _, 0, _, rfl, rfl, SqT.of g1, rfl, ?_⟩
  walk_at "rs"
  refine z1t (fun c => off (.inr c)) (fun c2 => ?_)
  have hw2 := R.w2
  refine ⟨_, rfl, _, rfl, (z2V (by omega) (by omega)).1, (z2V (by omega) (by omega)).2, ?_⟩
  refine z2J (n := h'.toNat) (fun i σ zs H2 => ∃ v, σ = [v, some (.ref p), some (.int y), some (.int x), some (.int w')] /\ zs = ((List.range i).map fun (j : Nat) => z09 (z1v rows x (y + (j : Int)) w'.toNat)).map V.int /\ H2 = H)
    ⟨none, rfl, rfl, rfl⟩ (Nat.le_of_lt (z0k (by omega))) ?_ ?_ ?_ ?_ ?_
  . rintro i σ zs H2 ⟨v, _, rfl, _⟩
    rw [List.length_map, List.length_map, List.length_range]
  . rintro σ zs H2 _
    exact Nat.le_refl _
  . intro i σ zs H2 hi _
    exact hi
  . rintro i σ zs H2 z H' Z hi ⟨v, rfl, rfl, rfl⟩ ⟨rfl, rfl⟩ hZ
    have bd := z2r R (y + (0 + (i : Int)))
    refine ⟨_, rfl, p, _, 2, _, rfl, rfl, SqT.of g1, rfl, ?_⟩
    walk_at "rs"
    refine ⟨pp, _, _, rfl, g2, ?_⟩
    walk_at "rs"
    refine ⟨_, _, _, rfl, bd.1, bd.2, by omega, by omega, by omega, by omega, ?_⟩
    refine hZ _ _ _ ⟨_, rfl, ?_, rfl⟩
    rw [z26, List.map_append, z3x R, e1]
    have e0 : y + (0 + (i : Int)) = y + (i : Int) := by omega
    rw [e0]
    rfl
  rintro σ zs H2 ⟨v, rfl, rfl, rfl⟩ l1 n1
  have s1 : Same H2 (upd H2 l1 (.lst (((List.range h'.toNat).map fun (j : Nat) => z09 (z1v rows x (y + (j : Int)) w'.toNat)).map V.int))) := Same.new n1
  have u1 : (upd H2 l1 (.lst (((List.range h'.toNat).map fun (j : Nat) => z09 (z1v rows x (y + (j : Int)) w'.toNat)).map V.int))) l1 = _ := upd_same
  generalize upd H2 l1 (.lst (((List.range h'.toNat).map fun (j : Nat) => z09 (z1v rows x (y + (j : Int)) w'.toNat)).map V.int)) = H3 at s1 u1
  refine ⟨_, rfl, _, rfl, (z2V (by omega) (by omega)).1, (z2V (by omega) (by omega)).2, ?_⟩
  refine z2J (n := h'.toNat) (fun i σ zs H4 => ∃ v, σ = [v, some (.ref p), some (.int y), some (.int x), some (.int w')] /\ zs = ((List.range i).map fun (j : Nat) => z07 (z1v rows x (y + (j : Int)) w'.toNat)).map V.int /\ H4 = H3)
    ⟨none, rfl, rfl, rfl⟩ (Nat.le_of_lt (z0k (by omega))) ?_ ?_ ?_ ?_ ?_
  . rintro i σ zs H4 ⟨v, _, rfl, _⟩
    rw [List.length_map, List.length_map, List.length_range]
  . rintro σ zs H4 _
    exact Nat.le_refl _
  . intro i σ zs H4 hi _
    exact hi
  . rintro i σ zs H4 z H' Z hi ⟨v, rfl, rfl, rfl⟩ ⟨rfl, rfl⟩ hZ
    have bd := z3J R (y + (0 + (i : Int)))
    refine ⟨_, rfl, p, _, 3, _, rfl, rfl, SqT.of (s1 _ _ g1), rfl, ?_⟩
    walk_at "rs"
    refine ⟨pm, _, _, rfl, s1 _ _ g3, ?_⟩
    walk_at "rs"
    refine ⟨_, _, _, rfl, bd.1, bd.2, by omega, by omega, by omega, by omega, ?_⟩
    refine hZ _ _ _ ⟨_, rfl, ?_, rfl⟩
    rw [z26, List.map_append, z57, e1]
    have e0 : y + (0 + (i : Int)) = y + (i : Int) := by omega
    rw [e0]
    rfl
  rintro σ zs H4 ⟨v, rfl, rfl, rfl⟩ l2 n2
  have n12 : l1 ≠ l2 := fun e => by rw [<- e, u1] at n2; cases n2
  refine ⟨_, rfl, _, rfl, _, rfl, l1, _, rfl, .inl ⟨SqL.of ((Same.new n2) _ _ u1), fun t1 m1 => ?_⟩⟩
  refine ⟨_, rfl, l2, _, rfl, .inl ⟨SqL.of ((Same.new m1) _ _ upd_same), fun t2 m2 => ?_⟩⟩
  walk_at "rs"
  intro t3 m3
  refine q t3 _ ((((s1.trans (Same.new n2)).trans (Same.new m1)).trans (Same.new m2)).trans (Same.new m3)) ⟨t1, t2, ?_, ?_, ?_⟩
  . rw [upd_same, z1l, e1, e2]
  . refine (Same.new m3) _ _ ((Same.new m2) _ _ (upd_same.trans ?_))
    unfold cutRows
    rw [List.map_map (g := z09)]
    rfl
  . refine (Same.new m3) _ _ (upd_same.trans ?_)
    unfold cutRows
    rw [List.map_map (g := z07)]
    rfl
theorem z32 : FnScope ["mask"] ["mask"] (z02 z0Y) := ⟨rfl, rfl, rfl, by decide +kernel, rfl, by decide +kernel, by decide +kernel⟩
theorem z33 {f : Addr} {fd : FuncData} (D : Df K mg "lowest_bit" z0Y ["mask"] f fd) (B : Blt mg) :
    Ow P w K mg base "lowest_bit" ["mask"] 1 z85 := by
  refine D.ow (D.F.ok z32 (fun vs H Q E h => ?_) (fun cdv A outer s H vs Q E hr h => ?_))
  . obtain ⟨r, rfl, _⟩ := h
    rfl
  obtain ⟨r, rfl, hm, q⟩ := h
  refine ⟨_, (z05 (z0G (z08 z0c (z7m PySem.F.plainAttrs_int PySem.F.slot_int_bit_length PySem.F.type_int_bit_length z70 (z08 z4R (pv 0) (z4P z2a (pv 0)))) z01))), ?_⟩
  rw [<- z6x hm] at q
  walk_at "rs"
  exact q
theorem sc_touch : FnScope ["one", "other", "pic", "masks", "y", "shared"] ["one", "other"] (z02 z1N) := ⟨rfl, rfl, rfl, by decide +kernel, rfl, by decide +kernel, by decide +kernel⟩
theorem z6E {f : Addr} {fd : FuncData} (D : Df K mg "touch" z1N ["one", "other"] f fd)
    (O_lowestbit : Ow P w K mg base "lowest_bit" ["mask"] 1 z85)
    (O_cut : Ow P w K mg base "cut" ["pic", "x", "y", "wide", "high"] 3 z7y) (B : Blt mg) :
    Ow P w K mg base "touch" ["one", "other"] 4 z5F := by
  refine D.ow (D.F.ok sc_touch (fun vs H Q E h => ?_) (fun cdv A outer s H vs Q E hr h => ?_))
  . obtain ⟨s, t, U, W, rfl, _⟩ := h
    rfl
  obtain ⟨s, t, U, W, rfl, PA, PB, RA, RB, q⟩ := h
  obtain ⟨p, gs, PC⟩ := id PA
  obtain ⟨o, gt, PO⟩ := id PB
  obtain ⟨pp, pm, g1, g2, g3⟩ := id PC
  have hR := RA.len
  have hh1 := RA.h1
  have hh2 := RA.h2
  have hw1 := RA.w1
  have hw2 := RA.w2
  refine ⟨_, (z03 (z0E (i := 2) sc_touch.nd rfl (Or.inl rfl) (z0C z06 (pv 0) z01 (fun _ _ => rfl)))
    (z03 (z0E (i := 3) sc_touch.nd rfl (Or.inl rfl) (z0C z06 (z0F O_cut hr rfl (z00 (z0C z06 (pv 1) z01 (fun _ _ => rfl)) (z00 (z08 z0c (z0C z06 (pv 0) z01 (fun _ _ => rfl)) (z0C z06 (pv 1) z01 (fun _ _ => rfl))) (z00 (z08 z0c (z0C z06 (pv 0) z01 (fun _ _ => rfl)) (z0C z06 (pv 1) z01 (fun _ _ => rfl))) (z00 (z0C z06 (pv 2) z01 (fun _ _ => rfl)) (z00 (z0C z06 (pv 2) z01 (fun _ _ => rfl)) z04)))))) z01 (fun _ _ => rfl)))
    (z03 (z1G PassesOwn.never rfl (z0b rfl B.f_range (z00 (z0C z06 (pv 2) z01 (fun _ _ => rfl)) z04)) (z0K (i := 4) sc_touch.nd rfl (Or.inl rfl)) (z03 (z0E (i := 5) sc_touch.nd rfl (Or.inl rfl) (z08 z4R (z0C z06 (z0C z06 (pv 2) z01 (fun _ _ => rfl)) (pv 4) (fun _ _ => rfl)) (z0C z06 (pv 3) (pv 4) (fun _ _ => rfl))))
    (z05 (z0q (z0Q z7f (pv 5) z01 (z0T _)) (z05 (z0G (z0p (z00 (z08 z0M (z0C z06 (pv 0) z01 (fun _ _ => rfl)) (z0F O_lowestbit hr rfl (z00 (pv 5) z04))) (z00 (z08 z0M (z0C z06 (pv 0) z01 (fun _ _ => rfl)) (pv 4)) z04))))) z0N))))
    (z05 (z0G z0z))))), ?_⟩
  refine ⟨_, rfl, s, _, 0, _, rfl, rfl, SqT.of gs, rfl, ?_⟩
  refine ⟨_, rfl, t, _, 0, _, rfl, rfl, SqT.of gt, rfl, ?_⟩
  refine ⟨_, rfl, s, _, 1, _, rfl, rfl, SqT.of gs, rfl, _, rfl, t, _, 1, _, rfl, rfl, SqT.of gt, rfl, _, _, rfl, rfl, ?_⟩
  refine ⟨_, rfl, s, _, 2, _, rfl, rfl, SqT.of gs, rfl, _, rfl, t, _, 2, _, rfl, rfl, SqT.of gt, rfl, _, _, rfl, rfl, ?_⟩
  refine ⟨_, rfl, p, _, 0, _, rfl, rfl, SqT.of g1, rfl, _, rfl, p, _, 1, _, rfl, rfl, SqT.of g1, rfl, ?_⟩
  refine ⟨o, U.x - W.x, U.y - W.y, W.w, W.h, W.rows, (U.w : Int), (U.rows.length : Int), rfl, PO, RB, by omega, by omega, by omega, by omega, fun c H1 s1 PC1 => ?_⟩
  have ew : ((U.w : Int)).toNat = U.w := by omega
  have eh : ((U.rows.length : Int)).toNat = U.rows.length := by omega
  rw [ew, eh] at PC1
  obtain ⟨qp, qm, k1, k2, k3⟩ := PC1
  refine ⟨c, _, 3, _, rfl, rfl, SqT.of k1, rfl, ?_⟩
  refine ⟨_, rfl, p, _, 1, _, rfl, rfl, SqT.of (s1 _ _ g1), rfl, _, rfl, (z2V (by omega) (by omega)).1, (z2V (by omega) (by omega)).2, ?_⟩
  refine z12 (n := ((U.rows.length : Int)).toNat) (fun y σ H2 => H2 = H1 /\ (∀ i j, i < U.w -> j < y -> z0e U W i j = false) /\ ∃ v4 v5, σ = [some (.ref s), some (.ref t), some (.ref p), some (.ref qm), v4, v5]) ⟨rfl, (fun i j _ h => absurd h (Nat.not_lt_zero _)), none, none, rfl⟩ ?_ ?_
  . rintro y σ H2 hy ⟨rfl, hb, v4, v5, rfl⟩
    have hyl : y < U.rows.length := by omega
    have a1 : atI ((U.rows.map z07).map V.int) (0 + (y : Int)) = some (.int (z07 (U.rows[y]'hyl))) := by
      rw [Int.zero_add]
      exact z0d (by rw [List.getElem?_map, List.getElem?_map, List.getElem?_eq_getElem hyl]; rfl)
    have a2 : atI (((cutRows W.rows (U.x - W.x) (U.y - W.y) U.w U.rows.length).map z07).map V.int) (0 + (y : Int)) = some (.int (z07 (z1v W.rows (U.x - W.x) (U.y - W.y + (y : Int)) U.w))) := by
      rw [Int.zero_add]
      refine z0d ?_
      unfold cutRows
      rw [List.getElem?_map, List.getElem?_map, List.getElem?_map, List.getElem?_range hyl]
      rfl
    have eM := z2v (U.rows[y]'hyl) (z1v W.rows (U.x - W.x) (U.y - W.y + (y : Int)) U.w) (by rw [z3f]; exact (RA.row0 hyl).1)
    refine ⟨_, rfl, p, _, 3, _, rfl, rfl, SqT.of (s1 _ _ g1), rfl, _, rfl, pm, _, _, _, rfl, rfl, SqT.of (s1 _ _ g3), a1, _, rfl, _, rfl, qm, _, _, _, rfl, rfl, SqT.of k3, a2, _, _, rfl, rfl, ?_⟩
    walk_at "rs"
    refine z7L (fun n => ?_) (fun e => ?_)
    . have m : z07 (z1Z (U.rows[y]'hyl) (z1v W.rows (U.x - W.x) (U.y - W.y + (y : Int)) U.w)) ≠ 0 := fun e => n (congrArg V.int (eM.trans e))
      have eT := z60 RA RB hyl m hb
      refine ⟨_, rfl, s, _, 1, _, rfl, rfl, SqT.of (s1 _ _ gs), rfl, ?_⟩
      refine ⟨_, rfl, _, congrArg (fun z => [V.int z]) eM, m, _, _, rfl, rfl, ?_⟩
      refine ⟨_, rfl, s, _, 2, _, rfl, rfl, SqT.of (s1 _ _ gs), rfl, ?_⟩
      walk_at "rs"
      intro t1 n1
      refine q _ _ (s1.trans (Same.new n1)) ?_
      rw [eT]
      refine ⟨t1, rfl, ?_⟩
      rw [upd_same, Int.zero_add]
      rfl
    . refine ⟨rfl, fun i j hi hj => ?_, _, _, rfl⟩
      by_cases c : j < y
      . exact hb i j hi c
      . have ej : j = y := by omega
        rw [ej]
        exact z5z RB hyl (eM.symm.trans (V.int.inj e)) i hi
  . rintro σ H2 ⟨rfl, hb, v4, v5, rfl⟩
    refine q _ _ s1 ?_
    rw [z2w fun i j hi hj => hb i j hi (by omega)]
    rfl
theorem sc_lawtouch : FnScope ["_law_one", "_law_other", "_law_y", "_law_x", "_law_right", "_law_down"] ["_law_one", "_law_other"] (z02 z0i) := ⟨rfl, rfl, rfl, by decide +kernel, rfl, by decide +kernel, by decide +kernel⟩
theorem z3U {f : Addr} {fd : FuncData} (D : Df K mg "_law_touch" z0i ["_law_one", "_law_other"] f fd) (B : Blt mg) :
    Ow P w K mg base "_law_touch" ["_law_one", "_law_other"] 1 z3j := by
  refine D.ow (D.F.ok sc_lawtouch (fun vs H Q E h => ?_) (fun cdv A outer s H vs Q E hr h => ?_))
  . obtain ⟨s, t, U, W, rfl, _⟩ := h
    rfl
  obtain ⟨s, t, U, W, rfl, LA, LB, OA, OB, q⟩ := h
  obtain ⟨l, ps, gs, RA⟩ := id LA
  obtain ⟨m, qs, gt, RB⟩ := id LB
  have hpl := RA.len
  have hql := RB.len
  have hR := OA.len
  have hRh := OA.h2
  have hRw := OA.w2
  have hO := OB.len
  have hh1 := OA.h1
  have ho1 := OB.h1
  obtain ⟨p0, at0, gp0⟩ := RA.atI (i := 0) (by omega)
  obtain ⟨p1, at1, gp1⟩ := RB.atI (i := 0) (by omega)
  have hw0 := (OA.row0 (i := 0) (by omega)).1
  have hw1 := (OB.row0 (i := 0) (by omega)).1
  refine ⟨_, (z03 (z1G PassesOwn.never rfl (z0b rfl B.f_range (z00 (z0L z0H rfl B.f_len boot_len (z00 (z0C z06 (pv 0) z01 (fun _ _ => rfl)) z04)) z04)) (z0K (i := 2) sc_lawtouch.nd rfl (Or.inl rfl)) (z05 (z1G PassesOwn.never rfl (z0b rfl B.f_range (z00 (z0L z0H rfl B.f_len boot_len (z00 (z0C z0o (z0C z06 (pv 0) z01 (fun _ _ => rfl)) z01 (fun _ _ => rfl)) z04)) z04)) (z0K (i := 3) sc_lawtouch.nd rfl (Or.inl rfl)) (z03 (z0E (i := 4) sc_lawtouch.nd rfl (Or.inl rfl) (z08 z0c (z08 z0M (z0C z06 (pv 0) z01 (fun _ _ => rfl)) (pv 3)) (z0C z06 (pv 1) z01 (fun _ _ => rfl))))
    (z03 (z0E (i := 5) sc_lawtouch.nd rfl (Or.inl rfl) (z08 z0c (z08 z0M (z0C z06 (pv 0) z01 (fun _ _ => rfl)) (pv 2)) (z0C z06 (pv 1) z01 (fun _ _ => rfl))))
    (z05 (z0q (PW.pt (z6G (z1Q z2D z6d z01 (pv 5) (z0L z0H rfl B.f_len boot_len (z00 (z0C z06 (pv 1) z01 (fun _ _ => rfl)) z04))) (z4L (z1Q z2D z6d z01 (pv 4) (z0L z0H rfl B.f_len boot_len (z00 (z0C z0o (z0C z06 (pv 1) z01 (fun _ _ => rfl)) z01 (fun _ _ => rfl)) z04)))))) (z05 (z0q (PW.pt (z6G (z0Q z1L (z0C z0o (z0C z0o (z0C z06 (pv 0) z01 (fun _ _ => rfl)) (pv 2) (fun _ _ => rfl)) (pv 3) (fun _ _ => rfl)) z0z (z0T _)) (z4L (z0Q z1L (z0C z0o (z0C z0o (z0C z06 (pv 1) z01 (fun _ _ => rfl)) (pv 5) (fun _ _ => rfl)) (pv 4) (fun _ _ => rfl)) z0z (z0T _))))) (z05 (z0G (z0p (z00 (z08 z0M (z0C z06 (pv 0) z01 (fun _ _ => rfl)) (pv 3)) (z00 (z08 z0M (z0C z06 (pv 0) z01 (fun _ _ => rfl)) (pv 2)) z04))))) z0N)) z0N)))))))
    (z05 (z0G z0z))), ?_⟩
  refine ⟨_, rfl, s, _, 0, _, rfl, rfl, SqT.of gs, rfl, l, _, rfl, .inl (SqL.of RA.lst), ?_⟩
  rw [List.length_map, hpl, hR]
  refine ⟨_, rfl, (z2V (by omega) (by omega)).1, (z2V (by omega) (by omega)).2, ?_⟩
  refine z12 (n := ((U.h : Int)).toNat) (fun y σ H2 => H2 = H /\ (∀ i j, i < U.w -> j < y -> z0e U W i j = false) /\ ∃ v4 v5 v6 v7, σ = [some (.ref s), some (.ref t), v4, v5, v6, v7]) ⟨rfl, (fun i j _ h => absurd h (Nat.not_lt_zero _)), none, none, none, none, rfl⟩ ?_ ?_
  . rintro y σ H2 hy ⟨rfl, hb, v4, v5, v6, v7, rfl⟩
    refine ⟨_, rfl, s, _, 0, _, rfl, rfl, SqT.of gs, rfl, l, _, 0, _, rfl, rfl, SqL.of RA.lst, at0, p0, _, rfl, .inl (SqL.of gp0), ?_⟩
    rw [List.length_map, hw0]
    refine ⟨_, rfl, (z2V (by omega) (by omega)).1, (z2V (by omega) (by omega)).2, ?_⟩
    refine z12 (n := ((U.w : Int)).toNat) (fun x σ H3 => H3 = H2 /\ (∀ i, i < x -> z0e U W i y = false) /\ ∃ v5 v6 v7, σ = [some (.ref s), some (.ref t), some (.int (0 + (y : Int))), v5, v6, v7]) ⟨rfl, (fun i h => absurd h (Nat.not_lt_zero _)), v5, v6, v7, rfl⟩ ?_ ?_
    . rintro x σ H3 hx ⟨rfl, hb2, v5, v6, v7, rfl⟩
      have cont : z0e U W x y = false -> ∀ i, i < x + 1 -> z0e U W i y = false := fun e i hi => by
        by_cases c : i < x
        . exact hb2 i c
        . rw [show i = x by omega]
          exact e
      have off : ¬ (0 <= U.x + (x : Int) - W.x /\ U.x + (x : Int) - W.x < W.w /\ 0 <= U.y + (y : Int) - W.y /\ U.y + (y : Int) - W.y < W.h) -> z0e U W x y = false := fun n => by
        unfold z0e look
        rw [if_neg n]
        exact Bool.and_false _
      have ez : (0 : Int) + (x : Int) = x := by omega
      have ey : (0 : Int) + (y : Int) = y := by omega
      walk_at "rs"
      refine ⟨s, _, 1, _, rfl, rfl, SqT.of gs, rfl, ?_⟩
      walk_at "rs"
      refine ⟨t, _, 1, _, rfl, rfl, SqT.of gt, rfl, ?_⟩
      walk_at "rs"
      refine ⟨s, _, 2, _, rfl, rfl, SqT.of gs, rfl, ?_⟩
      walk_at "rs"
      refine ⟨t, _, 2, _, rfl, rfl, SqT.of gt, rfl, ?_⟩
      walk_at "rs"
      refine z1t (fun c1 => ?_) (fun c1 => ?_)
      . refine ⟨_, rfl, t, _, 0, _, rfl, rfl, SqT.of gt, rfl, m, _, rfl, .inl (SqL.of RB.lst), ?_⟩
        rw [List.length_map, hql, hO]
        walk_at "rs"
        refine z1t (fun c2 => ?_) (fun c2 => ?_)
        . walk_at "rs"
          refine z1t (fun c3 => ?_) (fun c3 => ?_)
          . refine ⟨_, rfl, t, _, 0, _, rfl, rfl, SqT.of gt, rfl, m, _, 0, _, rfl, rfl, SqL.of RB.lst, at1, p1, _, rfl, .inl (SqL.of gp1), ?_⟩
            rw [List.length_map, hw1]
            walk_at "rs"
            refine z1t (fun c4 => ?_) (fun c4 => ?_)
            . have hyr : y < U.rows.length := by omega
              have hxr : x < (U.rows[y]'hyr).length := by
                rw [(OA.row0 hyr).1]
                omega
              have hyo : (U.y + (y : Int) - W.y).toNat < W.rows.length := by omega
              have hxo : (U.x + (x : Int) - W.x).toNat < (W.rows[(U.y + (y : Int) - W.y).toNat]'hyo).length := by
                rw [(OB.row0 hyo).1]
                omega
              obtain ⟨pr, epr, gpr⟩ := RA.at hyr
              obtain ⟨po, epo, gpo⟩ := RB.at hyo
              have ar : atI (ps.map V.ref) (0 + (y : Int)) = some (.ref pr) := by rw [ey]; exact z0d (by rw [List.getElem?_map, epr]; rfl)
              have ac : atI ((U.rows[y]'hyr).map z0P) (0 + (x : Int)) = some (z0P ((U.rows[y]'hyr)[x]'hxr)) := by rw [ez]; exact z0d (by rw [List.getElem?_map, List.getElem?_eq_getElem hxr]; rfl)
              have br : atI (qs.map V.ref) (U.y + (0 + (y : Int)) - W.y) = some (.ref po) := by
                rw [ey, show U.y + (y : Int) - W.y = (((U.y + (y : Int) - W.y).toNat : Nat) : Int) by omega]
                exact z0d (by rw [List.getElem?_map, epo]; rfl)
              have bc : atI ((W.rows[(U.y + (y : Int) - W.y).toNat]'hyo).map z0P) (U.x + (0 + (x : Int)) - W.x) = some (z0P ((W.rows[(U.y + (y : Int) - W.y).toNat]'hyo)[(U.x + (x : Int) - W.x).toNat]'hxo)) := by
                have e : U.x + (0 + (x : Int)) - W.x = (((U.x + (x : Int) - W.x).toNat : Nat) : Int) := by omega
                rw [e]
                exact z0d (by rw [List.getElem?_map, List.getElem?_eq_getElem hxo]; rfl)
              have e1 : z11 U.rows x y = (U.rows[y]'hyr)[x]'hxr := by
                unfold z11
                rw [List.getElem?_eq_getElem hyr]
                show ((U.rows[y]'hyr)[x]?).join = _
                rw [List.getElem?_eq_getElem hxr]
                rfl
              have e2 : look W.w W.h W.rows (U.x + (x : Int) - W.x) (U.y + (y : Int) - W.y) = (W.rows[(U.y + (y : Int) - W.y).toNat]'hyo)[(U.x + (x : Int) - W.x).toNat]'hxo := z6s (by omega) (by omega) (by omega) (by omega) hyo hxo
              have eb : z0e U W x y = (((U.rows[y]'hyr)[x]'hxr).isSome && ((W.rows[(U.y + (y : Int) - W.y).toNat]'hyo)[(U.x + (x : Int) - W.x).toNat]'hxo).isSome) := by
                unfold z0e
                rw [e1, e2]
              generalize (U.rows[y]'hyr)[x]'hxr = c at ac eb
              generalize (W.rows[(U.y + (y : Int) - W.y).toNat]'hyo)[(U.x + (x : Int) - W.x).toNat]'hxo = d at bc eb
              refine ⟨_, rfl, s, _, 0, _, rfl, rfl, SqT.of gs, rfl, _, rfl, l, _, _, _, rfl, rfl, SqL.of RA.lst, ar, _, rfl, pr, _, _, _, rfl, rfl, SqL.of gpr, ac, ?_⟩
              cases c with
              | none =>
                walk_at "rs"
                first
                  | exact ⟨cont eb, _, _, _, rfl⟩
                  | exact ⟨rfl, cont eb, _, _, _, rfl⟩
                  | exact z6O ⟨rfl, cont eb, _, _, _, rfl⟩
              | some z =>
                walk_at "rs"
                refine ⟨t, _, 0, _, rfl, rfl, SqT.of gt, rfl, _, rfl, m, _, _, _, rfl, rfl, SqL.of RB.lst, br, _, rfl, po, _, _, _, rfl, rfl, SqL.of gpo, bc, ?_⟩
                cases d with
                | none =>
                  walk_at "rs"
                  exact ⟨cont eb, _, _, _, rfl⟩
                | some z2 =>
                  walk_at "rs"
                  refine ⟨s, _, 1, _, rfl, rfl, SqT.of gs, rfl, ?_⟩
                  walk_at "rs"
                  refine ⟨s, _, 2, _, rfl, rfl, SqT.of gs, rfl, ?_⟩
                  walk_at "rs"
                  intro t1 n1
                  refine q _ _ (Same.new n1) ?_
                  rw [z2x (i := x) (j := y) (by omega) (by omega) eb hb hb2]
                  refine ⟨t1, rfl, ?_⟩
                  rw [upd_same, ez, ey]
                  rfl
            . exact ⟨rfl, cont (off (by omega)), _, _, _, rfl⟩
          . exact ⟨_, rfl, z6O ⟨rfl, cont (off (by omega)), _, _, _, rfl⟩⟩
        . exact z6O ⟨rfl, cont (off (by omega)), _, _, _, rfl⟩
      . exact ⟨_, rfl, z6O (z6O ⟨rfl, cont (off (by omega)), _, _, _, rfl⟩)⟩
    . rintro σ H3 ⟨rfl, hb2, v5, v6, v7, rfl⟩
      refine ⟨rfl, fun i j hi hj => ?_, _, _, _, _, rfl⟩
      by_cases c : j < y
      . exact hb i j hi c
      . rw [show j = y by omega]
        exact hb2 i (by omega)
  . rintro σ H2 ⟨rfl, hb, v4, v5, v6, v7, rfl⟩
    refine q _ _ (Same.refl _) ?_
    rw [z2w fun i j hi hj => hb i j hi (by omega)]
    rfl
theorem sc_bounced : FnScope ["start", "speed", "room", "beat", "rest"] ["start", "speed", "room", "beat"] (z02 z0v) := ⟨rfl, rfl, rfl, by decide +kernel, rfl, by decide +kernel, by decide +kernel⟩
theorem z4B {f : Addr} {fd : FuncData} (D : Df K mg "bounced" z0v ["start", "speed", "room", "beat"] f fd) (B : Blt mg) :
    Ow P w K mg base "bounced" ["start", "speed", "room", "beat"] 1 z6C := by
  refine D.ow (D.F.ok sc_bounced (fun vs H Q E h => ?_) (fun cdv A outer s H vs Q E hr h => ?_))
  . obtain ⟨st, sp, R, bt, rfl, _⟩ := h
    rfl
  obtain ⟨st, sp, R, bt, rfl, s1, s2, R0, R1, q⟩ := h
  refine ⟨_, (z03 (z0q (z0Q z39 (pv 2) z01 (z0T _)) (z05 (z0G z01)) z0N)
    (z03 (z0E (i := 4) sc_bounced.nd rfl (Or.inl rfl) (z08 z1H (z08 z0M (pv 0) (z08 z10 (pv 3) (pv 1))) (z08 z10 z01 (pv 2))))
    (z05 (z0G (z2A (z0Q z2D (pv 4) (pv 2) (z0T _)) (pv 4) (z08 z0c (z08 z10 z01 (pv 2)) (pv 4))))))), ?_⟩
  unfold z84 at q
  walk_at "rs"
  refine z1t (fun c => ?_) (fun c => ?_)
  . rw [if_pos (V.int.inj c)] at q
    walk_at "rs"
    exact q
  have hn : R ≠ 0 := fun e => c (by rw [e])
  rw [if_neg hn] at q
  unfold z3K at q
  walk_at "rs"
  refine z1t (fun c2 => ?_) (fun c2 => ?_)
  . rw [if_pos c2] at q
    walk_at "rs"
    exact q
  . rw [if_neg c2] at q
    walk_at "rs"
    exact q
theorem sc_lawway : FnScope ["_law_start", "_law_speed_here", "_law_room", "_law_beat", "_law_far"] ["_law_start", "_law_speed_here", "_law_room", "_law_beat"] (z02 z17) := ⟨rfl, rfl, rfl, by decide +kernel, rfl, by decide +kernel, by decide +kernel⟩
theorem z5a {f : Addr} {fd : FuncData} (D : Df K mg "_law_way" z17 ["_law_start", "_law_speed_here", "_law_room", "_law_beat"] f fd) (B : Blt mg) :
    Ow P w K mg base "_law_way" ["_law_start", "_law_speed_here", "_law_room", "_law_beat"] 1 z6C := by
  refine D.ow (D.F.ok sc_lawway (fun vs H Q E h => ?_) (fun cdv A outer s H vs Q E hr h => ?_))
  . obtain ⟨st, sp, R, bt, rfl, _⟩ := h
    rfl
  obtain ⟨st, sp, R, bt, rfl, s1, s2, R0, R1, q⟩ := h
  refine ⟨_, (z03 (z0q (z0Q z39 (pv 2) z01 (z0T _)) (z05 (z0G z01)) z0N)
    (z03 (z0E (i := 4) sc_lawway.nd rfl (Or.inl rfl) (z08 z0M (pv 0) (z08 z10 (pv 3) (pv 1))))
    (z03 (z0q (z0Q z39 (z08 z1H (z08 z6c (pv 4) (pv 2)) z01) z01 (z0T _)) (z05 (z0G (z08 z1H (pv 4) (pv 2)))) z0N)
    (z05 (z0G (z08 z0c (pv 2) (z08 z1H (pv 4) (pv 2)))))))), ?_⟩
  unfold z84 at q
  walk_at "rs"
  refine z1t (fun c => ?_) (fun c => ?_)
  . rw [if_pos (V.int.inj c)] at q
    walk_at "rs"
    exact q
  have hn : R ≠ 0 := fun e => c (by rw [e])
  rw [if_neg hn] at q
  walk_at "rs"
  refine z1t (fun c2 => ?_) (fun c2 => ?_)
  . rw [z5w (by omega) (V.int.inj c2)] at q
    walk_at "rs"
    exact q
  . rw [z72 (by omega) (fun e => c2 (congrArg V.int e))] at q
    walk_at "rs"
    exact q
theorem sc_spotof : FnScope ["goer", "wide", "high", "beat", "across", "down"] ["goer", "wide", "high", "beat"] (z02 z15) := ⟨rfl, rfl, rfl, by decide +kernel, rfl, by decide +kernel, by decide +kernel⟩
theorem z5b {f : Addr} {fd : FuncData} (D : Df K mg "spot_of" z15 ["goer", "wide", "high", "beat"] f fd)
    {c_GlowError c_NoSpot c_NoSign : Addr} (Z : Cl K mg c_GlowError c_NoSpot c_NoSign)
    (O_bounced : Ow P w K mg base "bounced" ["start", "speed", "room", "beat"] 1 z6C)
    (E_NoSpot : Oo K mg "NoSpot" c_NoSpot) (B : Blt mg) :
    Ow2 P w K mg base "spot_of" ["goer", "wide", "high", "beat"] 2 (z6Y c_NoSpot) := by
  refine D.ow2 (D.F.ok2 sc_spotof (fun vs H Q E h => ?_) (fun cdv A outer s H vs Q E hr h => ?_))
  . obtain ⟨t, g, W, Hh, bt, rfl, _⟩ := h
    rfl
  obtain ⟨t, g, W, Hh, bt, rfl, GA, GO, W1, H1, q1, q2⟩ := h
  obtain ⟨p, gt, PC⟩ := id GA
  obtain ⟨pp, pm, g1, g2, g3⟩ := id PC
  have hR := GO.rect.len
  rw [hR] at g1
  have rais : ¬ g.on W Hh -> ∀ (z : Str) (D : Ends) (σ : L2.St), z5S c_NoSpot (z5l (tC (V.str z)) z8m) E D σ H := fun n z D σ => ⟨(by show 1 <= 1000; decide), q2 n H (Same.refl _)⟩
  refine ⟨_, (z03 (z0E (i := 4) sc_spotof.nd rfl (Or.inl rfl) (z08 z0c (pv 1) (z0C z06 (z0C z06 (pv 0) z01 (fun _ _ => rfl)) z01 (fun _ _ => rfl))))
    (z03 (z0E (i := 5) sc_spotof.nd rfl (Or.inl rfl) (z08 z0c (pv 2) (z0C z06 (z0C z06 (pv 0) z01 (fun _ _ => rfl)) z01 (fun _ _ => rfl))))
    (z03 (z0q (PW.pt (z5h (z1g (z1Q z2D z2D z01 (z0C z06 (pv 0) z01 (fun _ _ => rfl)) (pv 4))) (z4M (z1g (z1Q z2D z2D z01 (z0C z06 (pv 0) z01 (fun _ _ => rfl)) (pv 5)))))) (z05 (z5T z7E rfl E_NoSpot rfl (z00 z7Z z04))) z0N)
    (z05 (z0G (z0p (z00 (z0F O_bounced hr rfl (z00 (z0C z06 (pv 0) z01 (fun _ _ => rfl)) (z00 (z0C z06 (pv 0) z01 (fun _ _ => rfl)) (z00 (pv 4) (z00 (pv 3) z04))))) (z00 (z0F O_bounced hr rfl (z00 (z0C z06 (pv 0) z01 (fun _ _ => rfl)) (z00 (z0C z06 (pv 0) z01 (fun _ _ => rfl)) (z00 (pv 5) (z00 (pv 3) z04))))) z04)))))))), ?_⟩
  walk_at "rs"
  refine ⟨t, _, 0, _, rfl, rfl, SqT.of gt, rfl, p, _, 0, _, rfl, rfl, SqT.of g1, rfl, ?_⟩
  walk_at "rs"
  refine ⟨t, _, 0, _, rfl, rfl, SqT.of gt, rfl, p, _, 1, _, rfl, rfl, SqT.of g1, rfl, ?_⟩
  walk_at "rs"
  refine ⟨t, _, 1, _, rfl, rfl, SqT.of gt, rfl, ?_⟩
  walk_at "rs"
  refine z1t (fun c1 => ?_) (fun c1 => ?_)
  . walk_at "rs"
    refine z7L (fun c2 => z6j (rais (fun on => c2 on.2.1) _ _ _)) (fun c2 => ?_)
    walk_at "rs"
    refine ⟨t, _, 2, _, rfl, rfl, SqT.of gt, rfl, ?_⟩
    walk_at "rs"
    refine z1t (fun c3 => ?_) (fun c3 => ?_)
    . walk_at "rs"
      refine z7L (fun c4 => rais (fun on => c4 on.2.2.2) _ _ _) (fun c4 => ?_)
      have x0 := GO.x0
      have x1 := GO.x1
      have y0 := GO.y0
      have y1 := GO.y1
      walk_at "rs"
      refine ⟨t, _, 1, _, rfl, rfl, SqT.of gt, rfl, ?_⟩
      walk_at "rs"
      refine ⟨t, _, 3, _, rfl, rfl, SqT.of gt, rfl, ?_⟩
      walk_at "rs"
      refine ⟨g.x, g.dx, W - g.w, bt, rfl, x0, x1, by omega, by omega, ?_⟩
      walk_at "rs"
      refine ⟨t, _, 2, _, rfl, rfl, SqT.of gt, rfl, ?_⟩
      walk_at "rs"
      refine ⟨t, _, 4, _, rfl, rfl, SqT.of gt, rfl, ?_⟩
      walk_at "rs"
      refine ⟨g.y, g.dy, Hh - g.h, bt, rfl, y0, y1, by omega, by omega, ?_⟩
      walk_at "rs"
      intro u nu
      exact q1 ⟨c1, c2, c3, c4⟩ u _ (Same.new nu) upd_same
    . exact ⟨_, rfl, z6j (rais (fun on => c3 on.2.2.1) _ _ _)⟩
  . exact ⟨_, rfl, z6j (z6j (rais (fun on => c1 on.1) _ _ _))⟩
theorem sc_placed : FnScope ["goer", "wide", "high", "beat", "spot"] ["goer", "wide", "high", "beat"] (z02 z16) := ⟨rfl, rfl, rfl, by decide +kernel, rfl, by decide +kernel, by decide +kernel⟩
theorem z5c {f : Addr} {fd : FuncData} (D : Df K mg "placed" z16 ["goer", "wide", "high", "beat"] f fd)
    {c_GlowError c_NoSpot c_NoSign : Addr} (Z : Cl K mg c_GlowError c_NoSpot c_NoSign)
    (O_spotof : Ow2 P w K mg base "spot_of" ["goer", "wide", "high", "beat"] 2 (z6Y c_NoSpot)) (B : Blt mg) :
    Ow2 P w K mg base "placed" ["goer", "wide", "high", "beat"] 3 (z3r c_NoSpot) := by
  refine D.ow2 (D.F.ok2 sc_placed (fun vs H Q E h => ?_) (fun cdv A outer s H vs Q E hr h => ?_))
  . obtain ⟨t, g, W, Hh, bt, rfl, _⟩ := h
    rfl
  obtain ⟨t, g, W, Hh, bt, rfl, GA, GO, W1, H1, q1, q2⟩ := h
  obtain ⟨p, gt, PC⟩ := id GA
  refine ⟨_, (z03 (z0E (i := 4) sc_placed.nd rfl (Or.inl rfl) (z2P O_spotof hr z7D rfl (z00 (pv 0) (z00 (pv 1) (z00 (pv 2) (z00 (pv 3) z04))))))
    (z05 (z0G (z0p (z00 (z0C z06 (pv 0) z01 (fun _ _ => rfl)) (z00 (z0C z06 (pv 4) z01 (fun _ _ => rfl)) (z00 (z0C z06 (pv 4) z01 (fun _ _ => rfl)) z04))))))), ?_⟩
  walk_at "rs"
  refine ⟨t, g, W, Hh, bt, rfl, GA, GO, W1, H1, fun on u H2 s2 gu => ?_, fun n H' s' => q2 n H' s'⟩
  walk_at "rs"
  refine ⟨t, _, 0, _, rfl, rfl, SqT.of (s2 _ _ gt), rfl, ?_⟩
  walk_at "rs"
  refine ⟨u, _, 0, _, rfl, rfl, SqT.of gu, rfl, ?_⟩
  walk_at "rs"
  refine ⟨u, _, 1, _, rfl, rfl, SqT.of gu, rfl, ?_⟩
  walk_at "rs"
  intro v nv
  exact q1 on v _ (s2.trans (Same.new nv)) ⟨p, upd_same, PC.mono (s2.trans (Same.new nv))⟩
theorem sc_firsttouch : FnScope ["one", "other", "wide", "high", "most", "beat", "place"] ["one", "other", "wide", "high", "most"] (z02 z0V) := ⟨rfl, rfl, rfl, by decide +kernel, rfl, by decide +kernel, by decide +kernel⟩
theorem z2T {f : Addr} {fd : FuncData} (D : Df K mg "first_touch" z0V ["one", "other", "wide", "high", "most"] f fd)
    {c_GlowError c_NoSpot c_NoSign : Addr} (Z : Cl K mg c_GlowError c_NoSpot c_NoSign)
    (O_touch : Ow P w K mg base "touch" ["one", "other"] 4 z5F)
    (O_placed : Ow2 P w K mg base "placed" ["goer", "wide", "high", "beat"] 3 (z3r c_NoSpot)) (B : Blt mg) :
    Ow2 P w K mg base "first_touch" ["one", "other", "wide", "high", "most"] 5 (z3O c_NoSpot) := by
  refine D.ow2 (D.F.ok2 sc_firsttouch (fun vs H Q E h => ?_) (fun cdv A outer s H vs Q E hr h => ?_))
  . obtain ⟨s, t, g1, g2, W, Hh, m, rfl, _⟩ := h
    rfl
  obtain ⟨s, t, g1, g2, W, Hh, m, rfl, GA, GB, OA, OB, W1, H1, m1, q1, q2⟩ := h
  refine ⟨_, (z03 (z1G PassesOwn.leaving rfl (z0b rfl B.f_range (z00 (z08 z0M (pv 4) z01) z04)) (z0K (i := 5) sc_firsttouch.nd rfl (Or.inl rfl)) (z03 (z0E (i := 6) sc_firsttouch.nd rfl (Or.inl rfl) (z0F O_touch hr rfl (z00 (z2P O_placed hr z7D rfl (z00 (pv 0) (z00 (pv 2) (z00 (pv 3) (z00 (pv 5) z04))))) (z00 (z2P O_placed hr z7D rfl (z00 (pv 1) (z00 (pv 2) (z00 (pv 3) (z00 (pv 5) z04))))) z04))))
    (z05 (z0q (z0Q z1L (pv 6) z0z (z0T _)) (z05 (z0G (z0p (z00 (pv 5) (z00 (z0C z06 (pv 6) z01 (fun _ _ => rfl)) (z00 (z0C z06 (pv 6) z01 (fun _ _ => rfl)) z04)))))) z0N))))
    (z05 (z0G z0z))), ?_⟩
  walk_at "rs"
  refine ⟨(z2V (by omega) (by omega)).1, (z2V (by omega) (by omega)).2, ?_⟩
  refine z12 (n := ((m : Int) + 1).toNat) (fun k σ H2 => Same H H2 /\ (1 <= k -> g1.on W Hh /\ g2.on W Hh) /\ (∀ j : Nat, j < k -> z1X (g1.plc W Hh j) (g2.plc W Hh j) = none) /\ ∃ v5 v6, σ = [some (.ref s), some (.ref t), some (.int W), some (.int Hh), some (.int (m : Int)), v5, v6]) ⟨Same.refl _, (fun h => absurd h (by decide)), (fun j h => absurd h (Nat.not_lt_zero _)), none, none, rfl⟩ ?_ ?_
  . rintro k σ H2 hk ⟨s2, on, hb, v5, v6, rfl⟩
    have ek : (0 : Int) + (k : Int) = ((k : Nat) : Int) := by omega
    walk_at "rs"
    refine ⟨s, g1, W, Hh, _, rfl, GA.mono s2, OA, W1, H1, fun on1 u H3 s3 PU => ?_, fun n H' s' => q2 (fun o => n o.1) H' (s2.trans s')⟩
    walk_at "rs"
    refine ⟨t, g2, W, Hh, _, rfl, GB.mono (s2.trans s3), OB, W1, H1, fun on2 v H4 s4 PV => ?_, fun n H' s' => q2 (fun o => n o.2) H' ((s2.trans s3).trans s')⟩
    rw [ek] at PU PV
    walk_at "rs"
    refine ⟨u, v, _, _, rfl, PU.mono s4, PV, OA.rect, OB.rect, fun pl H5 s5 BV => ?_⟩
    have s5' := ((s2.trans s3).trans s4).trans s5
    cases eZ : z1X (g1.plc W Hh k) (g2.plc W Hh k) with
    | none =>
      rw [eZ] at BV
      cases (show pl = V.non from BV)
      have fin : ∀ j : Nat, j < k + 1 -> z1X (g1.plc W Hh j) (g2.plc W Hh j) = none := fun j hj => by
        by_cases c : j < k
        . exact hb j c
        . rw [show j = k by omega]
          exact eZ
      walk_at "rs"
      exact ⟨s5', fun _ => ⟨on1, on2⟩, fin, _, _, rfl⟩
    | some zs =>
      rw [eZ] at BV
      obtain ⟨tz, rfl, gz⟩ := BV
      obtain ⟨x, y, rfl⟩ : ∃ x y, zs = [x, y] := match zs, z2N zs eZ with | [x, y], _ => ⟨x, y, rfl⟩
      walk_at "rs"
      refine ⟨tz, _, 0, _, rfl, rfl, SqT.of gz, rfl, ?_⟩
      walk_at "rs"
      refine ⟨tz, _, 1, _, rfl, rfl, SqT.of gz, rfl, ?_⟩
      walk_at "rs"
      intro u2 nu2
      refine q1 on1 on2 _ _ (s5'.trans (Same.new nu2)) ?_
      rw [z2Q hb eZ (by omega)]
      refine ⟨u2, rfl, ?_⟩
      rw [upd_same, ek]
      rfl
  . rintro σ H2 ⟨s2, on, hb, v5, v6, rfl⟩
    obtain ⟨on1, on2⟩ := on (by omega)
    walk_at "rs"
    refine q1 on1 on2 _ _ s2 ?_
    rw [z1f fun j hj => hb j (by omega)]
    rfl
theorem z3V : FnScope ["_law_script", "_law_k"] ["_law_script", "_law_k"] (z02 z0j) := ⟨rfl, rfl, rfl, by decide +kernel, rfl, by decide +kernel, by decide +kernel⟩
theorem z3W {f : Addr} {fd : FuncData} (D : Df K mg "_law_speed" z0j ["_law_script", "_law_k"] f fd)
    (O_lawdraw : Ow P w K mg base "_law_draw" ["_law_script", "_law_k", "_law_prime", "_law_many"] 1 (z1W K))
    (O_lawgreat : Ow P w K mg base "_law_great" ["_law_script", "_law_k", "_law_many"] 1 (z4v K)) (B : Blt mg) :
    Ow P w K mg base "_law_speed" ["_law_script", "_law_k"] 2 (z3q K) := by
  refine D.ow (D.F.ok z3V (fun vs H Q E h => ?_) (fun cdv A outer s H vs Q E hr h => ?_))
  . obtain ⟨a, ns, k, rfl, _⟩ := h
    rfl
  obtain ⟨a, ns, k, rfl, hS, k0, k1, q⟩ := h
  refine ⟨_, (z03 (z0q (z0Q z7g (z0F O_lawdraw hr rfl (z00 (pv 0) (z00 (pv 1) (z00 z01 (z00 z01 z04))))) z01 (z0T _)) (z05 (z0G (z08 z0c (z0F O_lawdraw hr rfl (z00 (pv 0) (z00 (pv 1) (z00 z01 (z00 z01 z04))))) z01))) z0N)
    (z05 (z0G (z08 z0c (z0F O_lawgreat hr rfl (z00 (pv 0) (z00 (pv 1) (z00 (z08 z0M (z08 z10 z01 (z08 z2Z z01 z01)) z01) z04)))) (z08 z2Z z01 z01))))), ?_⟩
  walk_at "rs"
  refine ⟨a, ns, k, _, _, rfl, hS, k0, by omega, (by decide), (by decide), fun r r0 r1 => ?_⟩
  walk_at "rs"
  refine z1t (fun c => ?_) (fun c => ?_)
  . walk_at "rs"
    refine ⟨a, ns, k, _, _, rfl, hS, k0, by omega, (by decide), (by decide), fun r2 b0 b1 => ?_⟩
    walk_at "rs"
    exact q _ (by omega) (by omega)
  . have e9 : (10 : Int) ^ Int.toNat 9 = 1000000000 := by decide
    walk_at "rs"
    refine ⟨a, ns, _, _, rfl, hS, by omega, by omega, (by decide), fun r2 b0 b1 => ?_⟩
    walk_at "rs"
    exact q _ (by omega) (by omega)
theorem sc_lawgoer : FnScope ["_law_script", "_law_k", "_law_sides", "_law_side", "_law_wide", "_law_high", "_law_x", "_law_y"] ["_law_script", "_law_k", "_law_sides", "_law_side"] (z02 z0y) := ⟨rfl, rfl, rfl, by decide +kernel, rfl, by decide +kernel, by decide +kernel⟩
theorem z4C {f : Addr} {fd : FuncData} (D : Df K mg "_law_goer" z0y ["_law_script", "_law_k", "_law_sides", "_law_side"] f fd)
    (O_lawdraw : Ow P w K mg base "_law_draw" ["_law_script", "_law_k", "_law_prime", "_law_many"] 1 (z1W K))
    (O_lawrows : Ow P w K mg base "_law_rows" ["_law_script", "_law_k", "_law_wide", "_law_high"] 3 (z6Q K))
    (O_lawspeed : Ow P w K mg base "_law_speed" ["_law_script", "_law_k"] 2 (z3q K)) (B : Blt mg) :
    Ow P w K mg base "_law_goer" ["_law_script", "_law_k", "_law_sides", "_law_side"] 4 (z5U K) := by
  refine D.ow (D.F.ok sc_lawgoer (fun vs H Q E h => ?_) (fun cdv A outer s H vs Q E hr h => ?_))
  . obtain ⟨a, sd, ns, k, W, Hh, side, rfl, _⟩ := h
    rfl
  obtain ⟨a, sd, ns, k, W, Hh, side, rfl, hS, k0, k1, gs, W3, H3, d0, d1, q⟩ := h
  have gs : H sd = some (.tup [.int W, .int Hh]) := gs
  refine ⟨_, (z03 (z0E (i := 4) sc_lawgoer.nd rfl (Or.inl rfl) (z08 z0M z01 (z0F O_lawdraw hr rfl (z00 (pv 0) (z00 (pv 1) (z00 z01 (z00 (pv 3) z04)))))))
    (z03 (z0E (i := 5) sc_lawgoer.nd rfl (Or.inl rfl) (z08 z0M z01 (z0F O_lawdraw hr rfl (z00 (pv 0) (z00 (z08 z0M (pv 1) z01) (z00 z01 (z00 (pv 3) z04)))))))
    (z03 (z0E (i := 6) sc_lawgoer.nd rfl (Or.inl rfl) (z0F O_lawdraw hr rfl (z00 (pv 0) (z00 (z08 z0M (pv 1) z01) (z00 z01 (z00 (z08 z0M (z08 z0c (z0C z06 (pv 2) z01 (fun _ _ => rfl)) (pv 4)) z01) z04))))))
    (z03 (z0E (i := 7) sc_lawgoer.nd rfl (Or.inl rfl) (z0F O_lawdraw hr rfl (z00 (pv 0) (z00 (z08 z0M (pv 1) z01) (z00 z01 (z00 (z08 z0M (z08 z0c (z0C z06 (pv 2) z01 (fun _ _ => rfl)) (pv 5)) z01) z04))))))
    (z05 (z0G (z0p (z00 (z0F O_lawrows hr rfl (z00 (pv 0) (z00 (z08 z10 z01 (pv 1)) (z00 (pv 4) (z00 (pv 5) z04))))) (z00 (pv 6) (z00 (pv 7) (z00 (z0F O_lawspeed hr rfl (z00 (pv 0) (z00 (z08 z0M (pv 1) z01) z04))) (z00 (z0F O_lawspeed hr rfl (z00 (pv 0) (z00 (z08 z0M (pv 1) z01) z04))) z04)))))))))))), ?_⟩
  walk_at "rs"
  refine ⟨a, ns, k, _, _, rfl, hS, k0, by omega, (by decide), by omega, fun w0 wa wb => ?_⟩
  walk_at "rs"
  refine ⟨a, ns, _, _, _, rfl, hS, by omega, by omega, (by decide), by omega, fun h0 ha hb => ?_⟩
  walk_at "rs"
  refine ⟨sd, _, 0, _, rfl, rfl, SqT.of gs, rfl, ?_⟩
  walk_at "rs"
  refine ⟨a, ns, _, _, _, rfl, hS, by omega, by omega, (by decide), by omega, fun x0 xa xb => ?_⟩
  walk_at "rs"
  refine ⟨sd, _, 1, _, rfl, rfl, SqT.of gs, rfl, ?_⟩
  walk_at "rs"
  refine ⟨a, ns, _, _, _, rfl, hS, by omega, by omega, (by decide), by omega, fun y0 ya yb => ?_⟩
  walk_at "rs"
  refine ⟨a, ns, _, _, _, rfl, hS, by omega, by omega, by omega, by omega, by omega, by omega, fun rl ps rows H5 s5 nrl nps RA R => ?_⟩
  walk_at "rs"
  refine ⟨a, ns, _, rfl, s5.seq hS, by omega, by omega, fun dx p0 p1 => ?_⟩
  walk_at "rs"
  refine ⟨a, ns, _, rfl, s5.seq hS, by omega, by omega, fun dy q0 q1 => ?_⟩
  walk_at "rs"
  intro t nt
  refine q t ⟨(1 + w0).toNat, (1 + h0).toNat, rows, x0, y0, dx, dy⟩ _ (s5.trans (Same.new nt)) ⟨rl, ps, upd_same, RA.mono (Same.new nt)⟩ ⟨R, ?_, ?_, ?_, ?_⟩ ?_
  . show -2000000000 <= dx; omega
  . show dx <= 2000000000; omega
  . show -2000000000 <= dy; omega
  . show dy <= 2000000000; omega
  . show 0 <= x0 /\ x0 <= W - ((1 + w0).toNat : Nat) /\ 0 <= y0 /\ y0 <= Hh - ((1 + h0).toNat : Nat)
    omega
theorem sc_lawat : FnScope ["_law_goer_here", "_law_sides", "_law_beat", "_law_rows_here", "_law_x", "_law_y", "_law_dx", "_law_dy", "_law_across"] ["_law_goer_here", "_law_sides", "_law_beat"] (z02 z1O) := ⟨rfl, rfl, rfl, by decide +kernel, rfl, by decide +kernel, by decide +kernel⟩
theorem z6F {f : Addr} {fd : FuncData} (D : Df K mg "_law_at" z1O ["_law_goer_here", "_law_sides", "_law_beat"] f fd)
    (O_lawway : Ow P w K mg base "_law_way" ["_law_start", "_law_speed_here", "_law_room", "_law_beat"] 1 z6C) (B : Blt mg) :
    Ow P w K mg base "_law_at" ["_law_goer_here", "_law_sides", "_law_beat"] 2 z8F := by
  refine D.ow (D.F.ok sc_lawat (fun vs H Q E h => ?_) (fun cdv A outer s H vs Q E hr h => ?_))
  . obtain ⟨t, s, g, W, Hh, bt, rfl, _⟩ := h
    rfl
  obtain ⟨t, s, g, W, Hh, bt, rfl, LG, GO, gs, W1, H1, on, q⟩ := h
  have gs : H s = some (.tup [.int W, .int Hh]) := gs
  obtain ⟨l, ps, gt, RA⟩ := id LG
  obtain ⟨o1, o2, o3, o4⟩ := id on
  have R := GO.rect
  have hR := R.len
  have hh1 := R.h1
  have hpl := RA.len
  have x0 := GO.x0
  have x1 := GO.x1
  have y0 := GO.y0
  have y1 := GO.y1
  obtain ⟨p0, at0, gp0⟩ := RA.atI (i := 0) (by omega)
  have hw0 := (R.row0 (i := 0) (by omega)).1
  refine ⟨_, (z03 (z6K (pv 0) (z3X (n := 5) rfl (z0U (z0K (i := 3) sc_lawat.nd rfl (Or.inl rfl)) (z0U (z0K (i := 4) sc_lawat.nd rfl (Or.inl rfl)) (z0U (z0K (i := 5) sc_lawat.nd rfl (Or.inl rfl)) (z0U (z0K (i := 6) sc_lawat.nd rfl (Or.inl rfl)) (z0U (z0K (i := 7) sc_lawat.nd rfl (Or.inl rfl)) z2C)))))))
    (z03 (z0E (i := 8) sc_lawat.nd rfl (Or.inl rfl) (z0F O_lawway hr rfl (z00 (pv 4) (z00 (pv 6) (z00 (z08 z0c (z0C z06 (pv 1) z01 (fun _ _ => rfl)) (z0L z0H rfl B.f_len boot_len (z00 (z0C z0o (pv 3) z01 (fun _ _ => rfl)) z04))) (z00 (pv 2) z04))))))
    (z05 (z0G (z0p (z00 (pv 3) (z00 (pv 8) (z00 (z0F O_lawway hr rfl (z00 (pv 5) (z00 (pv 7) (z00 (z08 z0c (z0C z06 (pv 1) z01 (fun _ _ => rfl)) (z0L z0H rfl B.f_len boot_len (z00 (pv 3) z04))) (z00 (pv 2) z04))))) z04)))))))), ?_⟩
  refine ⟨_, rfl, t, _, rfl, SqT.of gt, rfl, _, _, rfl, _, _, rfl, _, _, rfl, _, _, rfl, _, _, rfl, rfl, ?_⟩
  walk_at "rs"
  refine ⟨s, _, 0, _, rfl, rfl, SqT.of gs, rfl, ?_⟩
  walk_at "rs"
  refine ⟨l, _, 0, _, rfl, rfl, SqL.of RA.lst, at0, ?_⟩
  refine ⟨p0, _, rfl, .inl (SqL.of gp0), ?_⟩
  rw [List.length_map, hw0]
  walk_at "rs"
  refine ⟨g.x, g.dx, W - g.w, bt, rfl, x0, x1, by omega, by omega, ?_⟩
  walk_at "rs"
  refine ⟨s, _, 1, _, rfl, rfl, SqT.of gs, rfl, ?_⟩
  walk_at "rs"
  refine ⟨l, _, rfl, .inl (SqL.of RA.lst), ?_⟩
  rw [List.length_map, hpl, hR]
  walk_at "rs"
  refine ⟨g.y, g.dy, Hh - g.h, bt, rfl, y0, y1, by omega, by omega, ?_⟩
  walk_at "rs"
  intro u nu
  exact q u _ (Same.new nu) ⟨l, ps, upd_same, RA.mono (Same.new nu)⟩
theorem sc_lawdue : FnScope ["_law_one", "_law_other", "_law_sides", "_law_most", "_law_beat", "_law_spot"] ["_law_one", "_law_other", "_law_sides", "_law_most"] (z02 z18) := ⟨rfl, rfl, rfl, by decide +kernel, rfl, by decide +kernel, by decide +kernel⟩
theorem z5d {f : Addr} {fd : FuncData} (D : Df K mg "_law_due" z18 ["_law_one", "_law_other", "_law_sides", "_law_most"] f fd)
    (O_lawtouch : Ow P w K mg base "_law_touch" ["_law_one", "_law_other"] 1 z3j)
    (O_lawat : Ow P w K mg base "_law_at" ["_law_goer_here", "_law_sides", "_law_beat"] 2 z8F) (B : Blt mg) :
    Ow P w K mg base "_law_due" ["_law_one", "_law_other", "_law_sides", "_law_most"] 3 z3s := by
  refine D.ow (D.F.ok sc_lawdue (fun vs H Q E h => ?_) (fun cdv A outer s H vs Q E hr h => ?_))
  . obtain ⟨s, t, sd, g1, g2, W, Hh, m, rfl, _⟩ := h
    rfl
  obtain ⟨s, t, sd, g1, g2, W, Hh, m, rfl, GA, GB, OA, OB, gs, W1, H1, m1, on1, on2, q⟩ := h
  refine ⟨_, (z03 (z1G PassesOwn.never rfl (z0b rfl B.f_range (z00 (z08 z0M (pv 3) z01) z04)) (z0K (i := 4) sc_lawdue.nd rfl (Or.inl rfl)) (z03 (z0E (i := 5) sc_lawdue.nd rfl (Or.inl rfl) (z0F O_lawtouch hr rfl (z00 (z0F O_lawat hr rfl (z00 (pv 0) (z00 (pv 2) (z00 (pv 4) z04)))) (z00 (z0F O_lawat hr rfl (z00 (pv 1) (z00 (pv 2) (z00 (pv 4) z04)))) z04))))
    (z05 (z0q (z0Q z1L (pv 5) z0z (z0T _)) (z05 (z0G (z0p (z00 (pv 4) (z00 (z0C z06 (pv 5) z01 (fun _ _ => rfl)) (z00 (z0C z06 (pv 5) z01 (fun _ _ => rfl)) z04)))))) z0N))))
    (z05 (z0G z0z))), ?_⟩
  walk_at "rs"
  refine ⟨(z2V (by omega) (by omega)).1, (z2V (by omega) (by omega)).2, ?_⟩
  refine z12 (n := ((m : Int) + 1).toNat) (fun k σ H2 => Same H H2 /\ (∀ j : Nat, j < k -> z1X (g1.plc W Hh j) (g2.plc W Hh j) = none) /\ ∃ v5 v6, σ = [some (.ref s), some (.ref t), some (.ref sd), some (.int (m : Int)), v5, v6]) ⟨Same.refl _, (fun j h => absurd h (Nat.not_lt_zero _)), none, none, rfl⟩ ?_ ?_
  . rintro k σ H2 hk ⟨s2, hb, v5, v6, rfl⟩
    have ek : (0 : Int) + (k : Int) = ((k : Nat) : Int) := by omega
    walk_at "rs"
    refine ⟨s, sd, g1, W, Hh, _, rfl, GA.mono s2, OA, s2 _ _ gs, W1, H1, on1, fun u H3 s3 PU => ?_⟩
    walk_at "rs"
    refine ⟨t, sd, g2, W, Hh, _, rfl, GB.mono (s2.trans s3), OB, (s2.trans s3) _ _ gs, W1, H1, on2, fun v H4 s4 PV => ?_⟩
    rw [ek] at PU PV
    walk_at "rs"
    refine ⟨u, v, _, _, rfl, PU.mono s4, PV, OA.rect, OB.rect, fun pl H5 s5 BV => ?_⟩
    have s5' := ((s2.trans s3).trans s4).trans s5
    cases eZ : z1X (g1.plc W Hh k) (g2.plc W Hh k) with
    | none =>
      rw [eZ] at BV
      cases (show pl = V.non from BV)
      have fin : ∀ j : Nat, j < k + 1 -> z1X (g1.plc W Hh j) (g2.plc W Hh j) = none := fun j hj => by
        by_cases c : j < k
        . exact hb j c
        . rw [show j = k by omega]
          exact eZ
      walk_at "rs"
      exact ⟨s5', fin, _, _, rfl⟩
    | some zs =>
      rw [eZ] at BV
      obtain ⟨tz, rfl, gz⟩ := BV
      obtain ⟨x, y, rfl⟩ : ∃ x y, zs = [x, y] := match zs, z2N zs eZ with | [x, y], _ => ⟨x, y, rfl⟩
      walk_at "rs"
      refine ⟨tz, _, 0, _, rfl, rfl, SqT.of gz, rfl, ?_⟩
      walk_at "rs"
      refine ⟨tz, _, 1, _, rfl, rfl, SqT.of gz, rfl, ?_⟩
      walk_at "rs"
      intro u2 nu2
      refine q _ _ (s5'.trans (Same.new nu2)) ?_
      rw [z2Q hb eZ (by omega)]
      refine ⟨u2, rfl, ?_⟩
      rw [upd_same, ek]
      rfl
  . rintro σ H2 ⟨s2, hb, v5, v6, rfl⟩
    walk_at "rs"
    refine q _ _ s2 ?_
    rw [z1f fun j hj => hb j (by omega)]
    rfl
theorem z34 : FnScope ["_law_goer_here"] ["_law_goer_here"] (z02 z0a) := ⟨rfl, rfl, rfl, by decide +kernel, rfl, by decide +kernel, by decide +kernel⟩
theorem z35 {f : Addr} {fd : FuncData} (D : Df K mg "_law_handed" z0a ["_law_goer_here"] f fd)
    (O_lawbits : Ow P w K mg base "_law_bits" ["_law_rows_here"] 1 z3b) (B : Blt mg) :
    Ow P w K mg base "_law_handed" ["_law_goer_here"] 2 z2R := by
  refine D.ow (D.F.ok z34 (fun vs H Q E h => ?_) (fun cdv A outer s H vs Q E hr h => ?_))
  . obtain ⟨t, g, rfl, _⟩ := h
    rfl
  obtain ⟨t, g, rfl, LG, GO, q⟩ := h
  obtain ⟨l, ps, gt, RA⟩ := id LG
  refine ⟨_, (z05 (z0G (z0p (z00 (z0F O_lawbits hr rfl (z00 (z0C z06 (pv 0) z01 (fun _ _ => rfl)) z04)) (z00 (z0C z06 (pv 0) z01 (fun _ _ => rfl)) (z00 (z0C z06 (pv 0) z01 (fun _ _ => rfl)) (z00 (z0C z06 (pv 0) z01 (fun _ _ => rfl)) (z00 (z0C z06 (pv 0) z01 (fun _ _ => rfl)) z04)))))))), ?_⟩
  refine ⟨_, rfl, t, _, 0, _, rfl, rfl, SqT.of gt, rfl, ?_⟩
  refine ⟨l, ps, g.rows, g.w, g.h, rfl, RA, GO.rect, fun p H2 s2 PC => ?_⟩
  have gt2 := s2 _ _ gt
  refine ⟨_, rfl, t, _, 1, _, rfl, rfl, SqT.of gt2, rfl, _, rfl, t, _, 2, _, rfl, rfl, SqT.of gt2, rfl, _, rfl, t, _, 3, _, rfl, rfl, SqT.of gt2, rfl, _, rfl, t, _, 4, _, rfl, rfl, SqT.of gt2, rfl, ?_⟩
  walk_at "rs"
  intro u nu
  exact q u _ (s2.trans (Same.new nu)) ⟨p, upd_same, PC.mono (Same.new nu)⟩
theorem z4D : FnScope ["_law_found", "_law_due_here"] ["_law_found", "_law_due_here"] (z02 z0n) := ⟨rfl, rfl, rfl, by decide +kernel, rfl, by decide +kernel, by decide +kernel⟩
theorem z4E {f : Addr} {fd : FuncData} (D : Df K mg "_law_same" z0n ["_law_found", "_law_due_here"] f fd)
    (O_lawwhole : Ow P w K mg base "_law_whole" ["_law_found"] 1 z4y) (B : Blt mg) :
    Ow P w K mg base "_law_same" ["_law_found", "_law_due_here"] 2 (z5G 3) := by
  refine D.ow (D.F.ok z4D (fun vs H Q E h => ?_) (fun cdv A outer s H vs Q E hr h => ?_))
  . obtain ⟨u, v, o, rfl, _⟩ := h
    rfl
  obtain ⟨u, v, o, rfl, BU, BV, hn, q⟩ := h
  refine ⟨_, (z03 (z0q (z0Q z6M (pv 1) z0z (z0T _)) (z05 (z0G (z4V z6M (pv 0) z0z (z0T _)))) z0N)
    (z03 (z0q (PW.pt (z5h (z1g (z2X (z0L z2H rfl B.f_isinstance boot_isinstance (z00 (pv 0) (z00 (z38 (v := .ty "tuple") rfl B.f_tuple boot_tuple rfl) z04))))) (z5h (z0Q z7f (z0L z0H rfl B.f_len boot_len (z00 (pv 0) z04)) z01 (z0T _)) (z4M (z1g (z2X (z0L (z5s rfl) rfl B.f_all boot_all (z00 (z4m (locs := ["_law_one"]) (ix := []) rfl (BlkSc.look (dsc := z02 z0n) (N := ["_law_found", "_law_due_here"]) rfl rfl (by decide +kernel)) (z7b (pv 0)) (fun _ _ _ _ _ _ => (z0K (i := 0) (by decide +kernel : (["_law_one"] : List Str).Nodup) rfl (Or.inl rfl))) (fun _ _ _ _ _ _ => z2I) (fun _ _ _ _ _ _ => (z0F O_lawwhole hr rfl (z00 (pv 0) z04)))) z04)))))))) (z05 (z0G z4J)) z0N)
    (z05 (z0G (z4V (z83 (n := 0) (z81 hr)) (pv 0) (pv 1) (z0T _)))))), ?_⟩
  cases o with
  | none =>
    cases (show u = V.non from BU)
    cases (show v = V.non from BV)
    walk_at "rs"
    exact q H (Same.refl _)
  | some zs =>
    obtain ⟨tu, rfl, gu⟩ := BU
    obtain ⟨tv, rfl, gv⟩ := BV
    obtain ⟨x, y, z0, rfl⟩ : ∃ x y z, zs = [x, y, z] := match zs, hn zs rfl with | [x, y, z], _ => ⟨x, y, z, rfl⟩
    walk_at "rs"
    refine ⟨_, "tuple", "tuple", rfl, by decide, by simp only [tyS, gu], _, rfl, z6k rfl ?_⟩
    refine ⟨_, rfl, tu, _, rfl, .inr (SqT.of gu), rfl, _, rfl, z6k rfl ?_⟩
    refine ⟨_, rfl, tu, rfl, ⟨_, SqT.of gu⟩, ?_⟩
    refine z2J (n := 3) (fun i σ zs H4 => ∃ v, σ = [v] /\ zs = (List.replicate i true).map V.bl /\ H4 = H) ⟨none, rfl, rfl, rfl⟩ (by decide) ?_ ?_ ?_ ?_ ?_
    . rintro i σ zs H4 ⟨v, _, rfl, _⟩
      rw [List.length_map, List.length_replicate]
    . rintro σ zs H4 ⟨v, _, _, rfl⟩
      exact ⟨_, SqT.of gu, by show 3 <= 3; decide⟩
    . rintro i σ zs H4 hi ⟨v, _, _, rfl⟩
      exact ⟨_, _, SqT.of gu, List.getElem?_eq_getElem (show i < ([x, y, z0].map V.int).length from hi)⟩
    . rintro i σ zs H4 z H' Z hi ⟨v, rfl, rfl, rfl⟩ ⟨rfl, hx⟩ hZ
      obtain ⟨z, rfl⟩ := z1b (List.mem_of_getElem? (hx _ (SqT.of gu)))
      refine ⟨_, rfl, _, "int", rfl, rfl, ?_⟩
      refine hZ _ _ _ ⟨_, rfl, ?_, rfl⟩
      rw [List.replicate_succ', List.map_append]
      rfl
    rintro σ zs H4 ⟨v, rfl, rfl, rfl⟩ l' hl'
    refine ⟨l', List.replicate 3 true, rfl, SqL.of upd_same, _, rfl, z6k rfl ?_⟩
    have s5 : Same H4 (upd H4 l' (.lst ((List.replicate 3 true).map V.bl))) := Same.new hl'
    generalize upd H4 l' (.lst ((List.replicate 3 true).map V.bl)) = H5 at s5 ⊢
    walk_at "rs"
    exact ⟨EqT.tints (s5 _ _ gu) (s5 _ _ gv), q H5 s5⟩
theorem sc_lawrefused : FnScope ["_law_one", "_law_other", "_law_sides", "_law_most", "_law_told", "e"] ["_law_one", "_law_other", "_law_sides", "_law_most"] (z02 z0W) := ⟨rfl, rfl, rfl, by decide +kernel, rfl, by decide +kernel, by decide +kernel⟩
theorem z2U {f : Addr} {fd : FuncData} (D : Df K mg "_law_refused" z0W ["_law_one", "_law_other", "_law_sides", "_law_most"] f fd)
    {c_GlowError c_NoSpot c_NoSign : Addr} (Z : Cl K mg c_GlowError c_NoSpot c_NoSign)
    (O_firsttouch : Ow2 P w K mg base "first_touch" ["one", "other", "wide", "high", "most"] 5 (z3O c_NoSpot)) (B : Blt mg) :
    Ow P w K mg base "_law_refused" ["_law_one", "_law_other", "_law_sides", "_law_most"] 6 z5V := by
  refine D.ow (D.F.ok sc_lawrefused (fun vs H Q E h => ?_) (fun cdv A outer s H vs Q E hr h => ?_))
  . obtain ⟨s, t, sd, g1, g2, W, Hh, m, rfl, _⟩ := h
    rfl
  obtain ⟨s, t, sd, g1, g2, W, Hh, m, rfl, GA, GB, OA, OB, gs, W1, H1, m1, off, q⟩ := h
  have gs : H sd = some (.tup [.int W, .int Hh]) := gs
  refine ⟨_, (z03 (z0E (i := 4) sc_lawrefused.nd rfl (Or.inl rfl) z4J)
    (z03 (z7H (i := 5) (z6B O_firsttouch hr rfl (z00 (pv 0) (z00 (pv 1) (z00 (z0C z06 (pv 2) z01 (fun _ _ => rfl)) (z00 (z0C z06 (pv 2) z01 (fun _ _ => rfl)) (z00 (pv 3) z04)))))) rfl rfl rfl ⟨Z.m_GlowError, Z.x_GlowError⟩ sc_lawrefused.nd rfl rfl (fun _ => (z05 (z0E (i := 4) sc_lawrefused.nd rfl (Or.inl rfl) (z6I (z0L z28 rfl B.f_isinstance boot_isinstance (z00 (pv 5) (z00 (z4K (v := .ref _) rfl Z.m_NoSpot rfl) z04))) (z6H (z6J (z0L z28 rfl B.f_isinstance boot_isinstance (z00 (pv 5) (z00 (z4K (v := .ref _) rfl Z.m_NoSign rfl) z04))))))))))
    (z05 (z0G (pv 4))))), ?_⟩
  have kt := Z.kt 0 (by decide)
  have k0 : PySem.W.kitOne K (.ref c_NoSpot) (.ref c_NoSpot) = some true := kt.one 0 (Nat.lt_of_sub_eq_succ rfl)
  have k1 : PySem.W.kitOne K (.ref c_NoSpot) (.ref c_NoSign) = some false := kt.one 1 (Nat.lt_of_sub_eq_succ rfl)
  walk_at "rs"
  refine ⟨fun Cv d H2 => Cv = .ref c_NoSpot /\ d = none /\ Same H H2, ?_, ?_⟩
  . walk_at "rs"
    refine ⟨sd, _, 0, _, rfl, rfl, SqT.of gs, rfl, ?_⟩
    walk_at "rs"
    refine ⟨sd, _, 1, _, rfl, rfl, SqT.of gs, rfl, ?_⟩
    walk_at "rs"
    exact ⟨s, t, g1, g2, W, Hh, m, rfl, GA, GB, OA, OB, W1, H1, m1, fun o1 o2 => absurd ⟨o1, o2⟩ off, fun _ H' s' => ⟨rfl, rfl, s'⟩⟩
  . rintro Cv d H2 ⟨rfl, rfl, s2⟩
    refine ⟨c_NoSpot, rfl, Z.x_NoSpot, Z.ab _ (by simp), fun a na => ?_⟩
    have s3 : Same H2 (upd H2 a (.ext (z41 a c_NoSpot none))) := Same.new na
    have hE : ErrAt (upd H2 a (.ext (z41 a c_NoSpot none))) a c_NoSpot [] := .inl ⟨rfl, .inr upd_same⟩
    generalize upd H2 a (.ext (z41 a c_NoSpot none)) = H3 at s3 hE
    refine ⟨_, rfl, a, _, _, _, _, _, rfl, hE, Z.x_NoSpot, rfl, k0, _, rfl, z8s rfl ?_⟩
    refine ⟨_, rfl, a, _, _, _, _, _, rfl, hE, Z.x_NoSpot, rfl, k1, ?_⟩
    walk_at "rs"
    exact q H3 (s2.trans s3)
theorem sc_lawoff : FnScope ["_law_script", "_law_goer_here", "_law_sides", "_law_far", "_law_way_here", "_law_pic", "_law_x", "_law_y", "_law_dx", "_law_dy"] ["_law_script", "_law_goer_here", "_law_sides"] (z02 z19) := ⟨rfl, rfl, rfl, by decide +kernel, rfl, by decide +kernel, by decide +kernel⟩
theorem z5e {f : Addr} {fd : FuncData} (D : Df K mg "_law_off" z19 ["_law_script", "_law_goer_here", "_law_sides"] f fd)
    (O_lawdraw : Ow P w K mg base "_law_draw" ["_law_script", "_law_k", "_law_prime", "_law_many"] 1 (z1W K))
    (O_lawgreat : Ow P w K mg base "_law_great" ["_law_script", "_law_k", "_law_many"] 1 (z4v K))
    (O_lawhanded : Ow P w K mg base "_law_handed" ["_law_goer_here"] 2 z2R) (B : Blt mg) :
    Ow P w K mg base "_law_off" ["_law_script", "_law_goer_here", "_law_sides"] 3 (z5W K) := by
  refine D.ow (D.F.ok sc_lawoff (fun vs H Q E h => ?_) (fun cdv A outer s H vs Q E hr h => ?_))
  . obtain ⟨a, t, sd, ns, g, W, Hh, rfl, _⟩ := h
    rfl
  obtain ⟨a, t, sd, ns, g, W, Hh, rfl, hS, LG, GO, gs, on, q⟩ := h
  have gs : H sd = some (.tup [.int W, .int Hh]) := gs
  have e8 : (10 : Int) ^ Int.toNat 8 = 100000000 := by decide
  obtain ⟨o1, o2, o3, o4⟩ := id on
  refine ⟨_, (z03 (z0E (i := 3) sc_lawoff.nd rfl (Or.inl rfl) z01)
    (z4x (z0q (z0Q z39 (z0F O_lawdraw hr rfl (z00 (pv 0) (z00 z01 (z00 z01 (z00 z01 z04))))) z01 (z0T _)) (z05 (z0E (i := 3) sc_lawoff.nd rfl (Or.inl rfl) (z08 z0M z01 (z0F O_lawgreat hr rfl (z00 (pv 0) (z00 z01 (z00 (z08 z2Z z01 z01) z04))))))) z0N)
    (z03 (z0E (i := 4) sc_lawoff.nd rfl (Or.inl rfl) (z0F O_lawdraw hr rfl (z00 (pv 0) (z00 z01 (z00 z01 (z00 z01 z04))))))
    (z03 (z6K (z0F O_lawhanded hr rfl (z00 (pv 1) z04)) (z3X (n := 5) rfl (z0U (z0K (i := 5) sc_lawoff.nd rfl (Or.inl rfl)) (z0U (z0K (i := 6) sc_lawoff.nd rfl (Or.inl rfl)) (z0U (z0K (i := 7) sc_lawoff.nd rfl (Or.inl rfl)) (z0U (z0K (i := 8) sc_lawoff.nd rfl (Or.inl rfl)) (z0U (z0K (i := 9) sc_lawoff.nd rfl (Or.inl rfl)) z2C)))))))
    (z03 (z0E (i := 6) sc_lawoff.nd rfl (Or.inl rfl) (z0C z0o (z20 (z00 (z4P z2a (pv 3)) (z00 (z08 z0M (z08 z0c (z0C z06 (pv 2) z01 (fun _ _ => rfl)) (z0C z06 (pv 5) z01 (fun _ _ => rfl))) (pv 3)) (z00 (pv 6) (z00 (pv 6) z04))))) (pv 4) (fun _ _ => rfl)))
    (z03 (z0E (i := 7) sc_lawoff.nd rfl (Or.inl rfl) (z0C z0o (z20 (z00 (pv 7) (z00 (pv 7) (z00 (z4P z2a (pv 3)) (z00 (z08 z0M (z08 z0c (z0C z06 (pv 2) z01 (fun _ _ => rfl)) (z0C z06 (pv 5) z01 (fun _ _ => rfl))) (pv 3)) z04))))) (pv 4) (fun _ _ => rfl)))
    (z05 (z0G (z0p (z00 (pv 5) (z00 (pv 6) (z00 (pv 7) (z00 (pv 8) (z00 (pv 9) z04)))))))))))))), ?_⟩
  walk_at "rs"
  refine ⟨fun σ' H' => H' = H /\ ∃ far : Int, 1 <= far /\ σ' = [some (.ref a), some (.ref t), some (.ref sd), some (.int far), none, none, none, none, none, none], ?_, ?_⟩
  . walk_at "rs"
    refine ⟨a, ns, _, _, _, rfl, hS, by decide, by decide, by decide, by decide, fun z1 a0 a1 => ?_⟩
    walk_at "rs"
    refine z1t (fun c => ?_) (fun c => ?_)
    . walk_at "rs"
      refine ⟨a, ns, _, _, rfl, hS, by decide, by decide, (by decide), fun r2 b0 b1 => ?_⟩
      walk_at "rs"
      exact ⟨_, by omega, rfl⟩
    . exact ⟨rfl, 1, by decide, rfl⟩
  rintro σ1 H1 ⟨rfl, far, f1, rfl⟩
  walk_at "rs"
  refine ⟨a, ns, _, _, _, rfl, hS, by decide, by decide, by decide, by decide, fun way a0 a1 => ?_⟩
  walk_at "rs"
  refine ⟨t, g, rfl, LG, GO, fun u H2 s2 GA => ?_⟩
  obtain ⟨p, gu, PC⟩ := id GA
  obtain ⟨pp, pm, g1, g2, g3⟩ := id PC
  rw [GO.rect.len] at g1
  have gs2 := s2 _ _ gs
  refine ⟨u, _, rfl, SqT.of gu, rfl, _, _, rfl, _, _, rfl, _, _, rfl, _, _, rfl, _, _, rfl, rfl, ?_⟩
  walk_at "rs"
  refine ⟨sd, _, 0, _, rfl, rfl, SqT.of gs2, rfl, ?_⟩
  walk_at "rs"
  refine ⟨p, _, 0, _, rfl, rfl, SqT.of g1, rfl, ?_⟩
  walk_at "rs"
  intro l1 n1
  have hway : way = 0 \/ way = 1 \/ way = 2 \/ way = 3 := by omega
  have fx : ∃ x' : Int, atI [V.int (-far), V.int (W - (g.w : Int) + far), V.int g.x, V.int g.x] way = some (.int x') /\ (way = 0 -> x' = -far) /\ (way = 1 -> x' = W - (g.w : Int) + far) := by
    rcases hway with rfl | rfl | rfl | rfl
    . exact ⟨_, rfl, fun _ => rfl, fun h => absurd h (by decide)⟩
    . exact ⟨_, rfl, fun h => absurd h (by decide), fun _ => rfl⟩
    . exact ⟨_, rfl, fun h => absurd h (by decide), fun h => absurd h (by decide)⟩
    . exact ⟨_, rfl, fun h => absurd h (by decide), fun h => absurd h (by decide)⟩
  obtain ⟨x', ax, x0, x1⟩ := fx
  walk_at "rs"
  refine ⟨l1, _, way, _, rfl, rfl, SqL.of upd_same, ax, ?_⟩
  have s3 := Same.new (o := .lst [V.int (-far), V.int (W - (g.w : Int) + far), V.int g.x, V.int g.x]) n1
  walk_at "rs"
  refine ⟨sd, _, 1, _, rfl, rfl, SqT.of (s3 _ _ gs2), rfl, ?_⟩
  walk_at "rs"
  refine ⟨p, _, 1, _, rfl, rfl, SqT.of (s3 _ _ g1), rfl, ?_⟩
  walk_at "rs"
  intro l2 n2
  have fy : ∃ y' : Int, atI [V.int g.y, V.int g.y, V.int (-far), V.int (Hh - (g.h : Int) + far)] way = some (.int y') /\ (way = 2 -> y' = -far) /\ (way = 3 -> y' = Hh - (g.h : Int) + far) := by
    rcases hway with rfl | rfl | rfl | rfl
    . exact ⟨_, rfl, fun h => absurd h (by decide), fun h => absurd h (by decide)⟩
    . exact ⟨_, rfl, fun h => absurd h (by decide), fun h => absurd h (by decide)⟩
    . exact ⟨_, rfl, fun _ => rfl, fun h => absurd h (by decide)⟩
    . exact ⟨_, rfl, fun h => absurd h (by decide), fun _ => rfl⟩
  obtain ⟨y', ay, y2, y3⟩ := fy
  walk_at "rs"
  refine ⟨l2, _, way, _, rfl, rfl, SqL.of upd_same, ay, ?_⟩
  have s4 := s3.trans (Same.new (o := .lst [V.int g.y, V.int g.y, V.int (-far), V.int (Hh - (g.h : Int) + far)]) n2)
  walk_at "rs"
  intro u2 nu2
  refine q u2 ⟨g.w, g.h, g.rows, x', y', g.dx, g.dy⟩ _ ((s2.trans s4).trans (Same.new nu2)) ⟨p, upd_same, PC.mono (s4.trans (Same.new nu2))⟩ ⟨GO.rect, GO.x0, GO.x1, GO.y0, GO.y1⟩ ?_
  show ¬ (0 <= x' /\ x' <= W - (g.w : Int) /\ 0 <= y' /\ y' <= Hh - (g.h : Int))
  omega
theorem sc_law : FnScope ["_law_script", "_law_sides", "_law_side", "_law_most", "_law_one", "_law_other", "_law_due_here", "_law_first", "_law_second"] ["_law_script"] (z02 z1y) := ⟨rfl, rfl, rfl, by decide +kernel, rfl, by decide +kernel, by decide +kernel⟩
theorem z8H {f : Addr} {fd : FuncData} (D : Df K mg "law" z1y ["_law_script"] f fd)
    (O_firsttouch : Ow2 P w K mg base "first_touch" ["one", "other", "wide", "high", "most"] 5 (z3O c_NoSpot))
    (O_lawdraw : Ow P w K mg base "_law_draw" ["_law_script", "_law_k", "_law_prime", "_law_many"] 1 (z1W K))
    (O_lawgoer : Ow P w K mg base "_law_goer" ["_law_script", "_law_k", "_law_sides", "_law_side"] 4 (z5U K))
    (O_lawdue : Ow P w K mg base "_law_due" ["_law_one", "_law_other", "_law_sides", "_law_most"] 3 z3s)
    (O_lawhanded : Ow P w K mg base "_law_handed" ["_law_goer_here"] 2 z2R)
    (O_lawsame : Ow P w K mg base "_law_same" ["_law_found", "_law_due_here"] 2 (z5G 3))
    (O_lawrefused : Ow P w K mg base "_law_refused" ["_law_one", "_law_other", "_law_sides", "_law_most"] 6 z5V)
    (O_lawoff : Ow P w K mg base "_law_off" ["_law_script", "_law_goer_here", "_law_sides"] 3 (z5W K)) (B : Blt mg) :
    FnOk P w K mg base CX0 7 f fd ["_law_script"] (z5p K) := by
  refine D.F.ok sc_law (fun vs H Q E h => ?_) (fun cdv A outer s H vs Q E hr h => ?_)
  . obtain ⟨a, ns, rfl, _⟩ := h
    rfl
  obtain ⟨a, ns, rfl, hS, hn, q⟩ := h
  refine ⟨_, (z03 (z0E (i := 1) sc_law.nd rfl (Or.inl rfl) (z0p (z00 (z08 z0M z01 (z0F O_lawdraw hr rfl (z00 (pv 0) (z00 z01 (z00 z01 (z00 z01 z04)))))) (z00 (z08 z0M z01 (z0F O_lawdraw hr rfl (z00 (pv 0) (z00 z01 (z00 z01 (z00 z01 z04)))))) z04))))
    (z03 (z0E (i := 2) sc_law.nd rfl (Or.inl rfl) z01)
    (z03 (z0E (i := 3) sc_law.nd rfl (Or.inl rfl) (z0F O_lawdraw hr rfl (z00 (pv 0) (z00 z01 (z00 z01 (z00 z01 z04))))))
    (z4x (z0q (z0Q z39 (z0F O_lawdraw hr rfl (z00 (pv 0) (z00 z01 (z00 z01 (z00 z01 z04))))) z01 (z0T _)) (z03 (z0E (i := 2) sc_law.nd rfl (Or.inl rfl) z01)
    (z05 (z0E (i := 3) sc_law.nd rfl (Or.inl rfl) z01))) z0N)
    (z03 (z0E (i := 4) sc_law.nd rfl (Or.inl rfl) (z0F O_lawgoer hr rfl (z00 (pv 0) (z00 z01 (z00 (pv 1) (z00 (pv 2) z04))))))
    (z03 (z0E (i := 5) sc_law.nd rfl (Or.inl rfl) (z0F O_lawgoer hr rfl (z00 (pv 0) (z00 z01 (z00 (pv 1) (z00 (pv 2) z04))))))
    (z03 (z0E (i := 6) sc_law.nd rfl (Or.inl rfl) (z0F O_lawdue hr rfl (z00 (pv 4) (z00 (pv 5) (z00 (pv 1) (z00 (pv 3) z04))))))
    (z03 (z0E (i := 7) sc_law.nd rfl (Or.inl rfl) (z0F O_lawhanded hr rfl (z00 (pv 4) z04)))
    (z03 (z0E (i := 8) sc_law.nd rfl (Or.inl rfl) (z0F O_lawhanded hr rfl (z00 (pv 5) z04)))
    (z03 (z0q (z1g (z2X (z0F O_lawsame hr rfl (z00 (z3p O_firsttouch hr rfl (z00 (pv 7) (z00 (pv 8) (z00 (z0C z06 (pv 1) z01 (fun _ _ => rfl)) (z00 (z0C z06 (pv 1) z01 (fun _ _ => rfl)) (z00 (pv 3) z04)))))) (z00 (pv 6) z04))))) (z05 (z0G z4J)) z0N)
    (z03 (z0q (z1g (z2X (z0F O_lawrefused hr rfl (z00 (z0F O_lawoff hr rfl (z00 (pv 0) (z00 (pv 4) (z00 (pv 1) z04)))) (z00 (pv 8) (z00 (pv 1) (z00 (pv 3) z04))))))) (z05 (z0G z4J)) z0N)
    (z03 (z0q (z1g (z2X (z0F O_lawrefused hr rfl (z00 (pv 7) (z00 (z0F O_lawoff hr rfl (z00 (pv 0) (z00 (pv 5) (z00 (pv 1) z04)))) (z00 (pv 1) (z00 z01 z04))))))) (z05 (z0G z4J)) z0N)
    (z05 (z0G (z0F O_lawsame hr rfl (z00 (z3p O_firsttouch hr rfl (z00 (pv 8) (z00 (pv 7) (z00 (z0C z06 (pv 1) z01 (fun _ _ => rfl)) (z00 (z0C z06 (pv 1) z01 (fun _ _ => rfl)) (z00 (pv 3) z04)))))) (z00 (pv 6) z04))))))))))))))))), ?_⟩
  walk_at "rs"
  refine ⟨a, ns, _, _, _, rfl, hS, by decide, by decide, by decide, by decide, fun z1 a0 a1 => ?_⟩
  walk_at "rs"
  refine ⟨a, ns, _, _, _, rfl, hS, by decide, by decide, by decide, by decide, fun z2 b0 b1 => ?_⟩
  walk_at "rs"
  intro sd nsd
  have s1 : Same H (upd H sd (.tup [.int (3 + z1), .int (3 + z2)])) := Same.new nsd
  have g1 : (upd H sd (.tup [.int (3 + z1), .int (3 + z2)])) sd = some (.tup [.int (3 + z1), .int (3 + z2)]) := upd_same
  generalize upd H sd (.tup [.int (3 + z1), .int (3 + z2)]) = H1 at s1 g1
  walk_at "rs"
  refine ⟨a, ns, _, _, _, rfl, s1.seq hS, by decide, by decide, by decide, by decide, fun z3 c0 c1 => ?_⟩
  refine ⟨fun σ' H' => H' = H1 /\ ∃ (side : Int) (m : Nat), 1 <= side /\ side <= 3 /\ m <= 200 /\ σ' = [some (.ref a), some (.ref sd), some (.int side), some (.int (m : Int)), none, none, none, none, none], ?_, ?_⟩
  . walk_at "rs"
    refine ⟨a, ns, _, _, _, rfl, s1.seq hS, by decide, by decide, by decide, by decide, fun z4 d0 d1 => ?_⟩
    walk_at "rs"
    refine z1t (fun c => ?_) (fun c => ?_)
    . exact ⟨rfl, 1, 200, by decide, by decide, by decide, rfl⟩
    . refine ⟨rfl, 3, z3.toNat, by decide, by decide, by omega, ?_⟩
      rw [show ((z3.toNat : Nat) : Int) = z3 by omega]
      rfl
  rintro σ2 H2 ⟨rfl, side, m, d0, d1, m1, rfl⟩
  walk_at "rs"
  refine ⟨a, sd, ns, 10, 3 + z1, 3 + z2, side, rfl, s1.seq hS, by decide, by decide, g1, by omega, by omega, d0, d1, fun t1 gA H3 s3 LA OA onA => ?_⟩
  walk_at "rs"
  refine ⟨a, sd, ns, 30, 3 + z1, 3 + z2, side, rfl, (s1.trans s3).seq hS, by decide, by decide, s3 _ _ g1, by omega, by omega, d0, d1, fun t2 gB H4 s4 LB OB onB => ?_⟩
  have LA4 := LA.mono s4
  have g4 := s4 _ _ (s3 _ _ g1)
  have s4' := (s1.trans s3).trans s4
  generalize eW : 3 + z1 = W at *
  generalize eH : 3 + z2 = Hh at *
  walk_at "rs"
  refine ⟨t1, t2, sd, gA, gB, W, Hh, m, rfl, LA4, LB, OA, OB, g4, by omega, by omega, by omega, onA, onB, fun dv H5 s5 BV => ?_⟩
  walk_at "rs"
  refine ⟨t1, gA, rfl, LA4.mono s5, OA, fun u1 H6 s6 GA => ?_⟩
  walk_at "rs"
  refine ⟨t2, gB, rfl, LB.mono (s5.trans s6), OB, fun u2 H7 s7 GB => ?_⟩
  have GA7 := GA.mono s7
  have s57 := s5.trans (s6.trans s7)
  have g7 := s57 _ _ g4
  walk_at "rs"
  refine ⟨sd, _, 0, _, rfl, rfl, SqT.of g7, rfl, ?_⟩
  walk_at "rs"
  refine ⟨sd, _, 1, _, rfl, rfl, SqT.of g7, rfl, ?_⟩
  walk_at "rs"
  refine ⟨u1, u2, gA, gB, W, Hh, m, rfl, GA7, GB, OA, OB, by omega, by omega, by omega, fun _ _ fv H8 s8 BU => ?_, fun n => absurd ⟨onA, onB⟩ n⟩
  walk_at "rs"
  refine ⟨fv, dv, _, rfl, BU, BV.mono ((s6.trans s7).trans s8), z3N, fun H9 s9 => ?_⟩
  have s79 := s8.trans s9
  walk_at "rs"
  refine ⟨a, t1, sd, ns, gA, W, Hh, rfl, (s4'.trans (s57.trans s79)).seq hS, LA4.mono (s57.trans s79), OA, s79 _ _ g7, onA, fun u3 g' H10 s10 GC OC offC => ?_⟩
  have s710 := s79.trans s10
  walk_at "rs"
  refine ⟨u3, u2, sd, g', gB, W, Hh, m, rfl, GC, GB.mono s710, OC, OB, s710 _ _ g7, by omega, by omega, by omega, fun o => offC o.1, fun H11 s11 => ?_⟩
  have s711 := s710.trans s11
  walk_at "rs"
  refine ⟨a, t2, sd, ns, gB, W, Hh, rfl, (s4'.trans (s57.trans s711)).seq hS, LB.mono (s57.trans s711), OB, s711 _ _ g7, onB, fun u4 g2' H12 s12 GD OD offD => ?_⟩
  have s712 := s711.trans s12
  walk_at "rs"
  refine ⟨u1, u4, sd, gA, g2', W, Hh, 0, rfl, GA7.mono s712, GD, OA, OD, s712 _ _ g7, by omega, by omega, by omega, fun o => offD o.2, fun H13 s13 => ?_⟩
  have s713 := s712.trans s13
  walk_at "rs"
  refine ⟨sd, _, 0, _, rfl, rfl, SqT.of (s713 _ _ g7), rfl, ?_⟩
  walk_at "rs"
  refine ⟨sd, _, 1, _, rfl, rfl, SqT.of (s713 _ _ g7), rfl, ?_⟩
  walk_at "rs"
  refine ⟨u2, u1, gB, gA, W, Hh, m, rfl, GB.mono s713, GA7.mono s713, OB, OA, by omega, by omega, by omega, fun _ _ fv2 H14 s14 BU2 => ?_, fun n => absurd ⟨onB, onA⟩ n⟩
  rw [z6D] at BU2
  walk_at "rs"
  refine ⟨fv2, dv, _, rfl, BU2, BV.mono ((s6.trans s7).trans (s713.trans s14)), z3N, fun H15 s15 => ?_⟩
  exact q _
end
theorem all_mk {l : PySem.W.OpenLaw} {w : World} {K : PySem.W.Frag} {h : Heap} {mg : Str -> Option Value} {fa f1 f2 f3 f4 f5 f6 f7 f8 f9 f10 f11 f12 f13 f14 f15 f16 f17 f18 f19 f20 f21 f22 f23 f24 f25 f26 f27 f28 f29 : Addr} (X : K.In h) (G : h.Ns mainGlobals mg) (hfa : mg "law" = some (.ref fa))
    {od1 an1 : Option Addr} {sl1 : Array (Option Value)} {oc1 kV1 dc1 pm1 cd1 ct1 : Value}
    {od2 an2 : Option Addr} {sl2 : Array (Option Value)} {oc2 kV2 dc2 pm2 cd2 ct2 : Value}
    {od3 an3 : Option Addr} {sl3 : Array (Option Value)} {oc3 kV3 dc3 pm3 cd3 ct3 : Value}
    {od4 an4 ot4 : Option Addr} {sl4 st4 : Array (Option Value)} {oc4 kV4 dc4 pm4 cd4 ct4 ov4 : Value} {T4 : Addr} {nt4 : Nat}
    {od5 an5 : Option Addr} {sl5 : Array (Option Value)} {oc5 kV5 dc5 pm5 cd5 ct5 : Value}
    {od6 an6 : Option Addr} {sl6 : Array (Option Value)} {oc6 kV6 dc6 pm6 cd6 ct6 : Value}
    {od7 an7 : Option Addr} {sl7 : Array (Option Value)} {oc7 kV7 dc7 pm7 cd7 ct7 : Value}
    {od8 an8 : Option Addr} {sl8 : Array (Option Value)} {oc8 kV8 dc8 pm8 cd8 ct8 : Value}
    {od9 an9 : Option Addr} {sl9 : Array (Option Value)} {oc9 kV9 dc9 pm9 cd9 ct9 : Value}
    {od10 an10 : Option Addr} {sl10 : Array (Option Value)} {oc10 kV10 dc10 pm10 cd10 ct10 : Value}
    {od11 an11 : Option Addr} {sl11 : Array (Option Value)} {oc11 kV11 dc11 pm11 cd11 ct11 : Value}
    {od12 an12 : Option Addr} {sl12 : Array (Option Value)} {oc12 kV12 dc12 pm12 cd12 ct12 : Value}
    {od13 an13 : Option Addr} {sl13 : Array (Option Value)} {oc13 kV13 dc13 pm13 cd13 ct13 : Value}
    {od14 an14 : Option Addr} {sl14 : Array (Option Value)} {oc14 kV14 dc14 pm14 cd14 ct14 : Value}
    {od15 an15 : Option Addr} {sl15 : Array (Option Value)} {oc15 kV15 dc15 pm15 cd15 ct15 : Value}
    {od16 an16 : Option Addr} {sl16 : Array (Option Value)} {oc16 kV16 dc16 pm16 cd16 ct16 : Value}
    {od17 an17 : Option Addr} {sl17 : Array (Option Value)} {oc17 kV17 dc17 pm17 cd17 ct17 : Value}
    {od18 an18 : Option Addr} {sl18 : Array (Option Value)} {oc18 kV18 dc18 pm18 cd18 ct18 : Value}
    {od19 an19 : Option Addr} {sl19 : Array (Option Value)} {oc19 kV19 dc19 pm19 cd19 ct19 : Value}
    {od20 an20 : Option Addr} {sl20 : Array (Option Value)} {oc20 kV20 dc20 pm20 cd20 ct20 : Value}
    {od21 an21 : Option Addr} {sl21 : Array (Option Value)} {oc21 kV21 dc21 pm21 cd21 ct21 : Value}
    {od22 an22 : Option Addr} {sl22 : Array (Option Value)} {oc22 kV22 dc22 pm22 cd22 ct22 : Value}
    {od23 an23 : Option Addr} {sl23 : Array (Option Value)} {oc23 kV23 dc23 pm23 cd23 ct23 : Value}
    {od24 an24 : Option Addr} {sl24 : Array (Option Value)} {oc24 kV24 dc24 pm24 cd24 ct24 : Value}
    {od25 an25 : Option Addr} {sl25 : Array (Option Value)} {oc25 kV25 dc25 pm25 cd25 ct25 : Value}
    {od26 an26 : Option Addr} {sl26 : Array (Option Value)} {oc26 kV26 dc26 pm26 cd26 ct26 : Value}
    {od27 an27 : Option Addr} {sl27 : Array (Option Value)} {oc27 kV27 dc27 pm27 cd27 ct27 : Value}
    {od28 an28 : Option Addr} {sl28 : Array (Option Value)} {oc28 kV28 dc28 pm28 cd28 ct28 : Value}
    {od29 an29 : Option Addr} {sl29 : Array (Option Value)} {oc29 kV29 dc29 pm29 cd29 ct29 : Value}
    {c_GlowError c_NoSpot c_NoSign : Addr}
    {ia_NoSign : Addr} {iod_NoSign ian_NoSign : Option Addr} {isl_NoSign : Array (Option Value)} {ioc_NoSign ikV_NoSign idc_NoSign ipm_NoSign icd_NoSign ict_NoSign : Value}
    (a1 : PySem.W.nsIn K mainGlobals "paint_of" = some (some (.ref f1))) (l1 : K.lookup f1 = some ⟨oc1, od1, .func (PySem.W.fnOf "paint_of" "paint_of" (z0D z0t) (z0B z0t) (z02 z0t) .none kV1 dc1 pm1 an1 cd1 ct1), sl1⟩) (c1 : PySem.W.codeIn K cd1 "paint_of" = true) (k1 : PySem.W.keepIn K (.ref f1) = true)
    (a2 : PySem.W.nsIn K mainGlobals "mask_of" = some (some (.ref f2))) (l2 : K.lookup f2 = some ⟨oc2, od2, .func (PySem.W.fnOf "mask_of" "mask_of" (z0D z13) (z0B z13) (z02 z13) .none kV2 dc2 pm2 an2 cd2 ct2), sl2⟩) (c2 : PySem.W.codeIn K cd2 "mask_of" = true) (k2 : PySem.W.keepIn K (.ref f2) = true)
    (a3 : PySem.W.nsIn K mainGlobals "lowest_bit" = some (some (.ref f3))) (l3 : K.lookup f3 = some ⟨oc3, od3, .func (PySem.W.fnOf "lowest_bit" "lowest_bit" (z0D z0Y) (z0B z0Y) (z02 z0Y) .none kV3 dc3 pm3 an3 cd3 ct3), sl3⟩) (c3 : PySem.W.codeIn K cd3 "lowest_bit" = true) (k3 : PySem.W.keepIn K (.ref f3) = true)
    (a4 : PySem.W.nsIn K mainGlobals "filled" = some (some (.ref f4))) (l4 : K.lookup f4 = some ⟨oc4, od4, .func (PySem.W.fnOf "filled" "filled" (z0D z14) (z0B z14) (z02 z14) (.ref T4) kV4 dc4 pm4 an4 cd4 ct4), sl4⟩) (c4 : PySem.W.codeIn K cd4 "filled" = true) (k4 : PySem.W.keepIn K (.ref f4) = true) (t4 : K.lookup T4 = some ⟨ov4, ot4, .seq #[.none] nt4, st4⟩)
    (a5 : PySem.W.nsIn K mainGlobals "bits_of_row" = some (some (.ref f5))) (l5 : K.lookup f5 = some ⟨oc5, od5, .func (PySem.W.fnOf "bits_of_row" "bits_of_row" (z0D z0Z) (z0B z0Z) (z02 z0Z) .none kV5 dc5 pm5 an5 cd5 ct5), sl5⟩) (c5 : PySem.W.codeIn K cd5 "bits_of_row" = true) (k5 : PySem.W.keepIn K (.ref f5) = true)
    (a6 : PySem.W.nsIn K mainGlobals "cut_bits" = some (some (.ref f6))) (l6 : K.lookup f6 = some ⟨oc6, od6, .func (PySem.W.fnOf "cut_bits" "cut_bits" (z0D z0u) (z0B z0u) (z02 z0u) .none kV6 dc6 pm6 an6 cd6 ct6), sl6⟩) (c6 : PySem.W.codeIn K cd6 "cut_bits" = true) (k6 : PySem.W.keepIn K (.ref f6) = true)
    (a7 : PySem.W.nsIn K mainGlobals "cut" = some (some (.ref f7))) (l7 : K.lookup f7 = some ⟨oc7, od7, .func (PySem.W.fnOf "cut" "cut" (z0D z2S) (z0B z2S) (z02 z2S) .none kV7 dc7 pm7 an7 cd7 ct7), sl7⟩) (c7 : PySem.W.codeIn K cd7 "cut" = true) (k7 : PySem.W.keepIn K (.ref f7) = true)
    (a8 : PySem.W.nsIn K mainGlobals "bounced" = some (some (.ref f8))) (l8 : K.lookup f8 = some ⟨oc8, od8, .func (PySem.W.fnOf "bounced" "bounced" (z0D z0v) (z0B z0v) (z02 z0v) .none kV8 dc8 pm8 an8 cd8 ct8), sl8⟩) (c8 : PySem.W.codeIn K cd8 "bounced" = true) (k8 : PySem.W.keepIn K (.ref f8) = true)
    (a9 : PySem.W.nsIn K mainGlobals "spot_of" = some (some (.ref f9))) (l9 : K.lookup f9 = some ⟨oc9, od9, .func (PySem.W.fnOf "spot_of" "spot_of" (z0D z15) (z0B z15) (z02 z15) .none kV9 dc9 pm9 an9 cd9 ct9), sl9⟩) (c9 : PySem.W.codeIn K cd9 "spot_of" = true) (k9 : PySem.W.keepIn K (.ref f9) = true)
    (a10 : PySem.W.nsIn K mainGlobals "touch" = some (some (.ref f10))) (l10 : K.lookup f10 = some ⟨oc10, od10, .func (PySem.W.fnOf "touch" "touch" (z0D z1N) (z0B z1N) (z02 z1N) .none kV10 dc10 pm10 an10 cd10 ct10), sl10⟩) (c10 : PySem.W.codeIn K cd10 "touch" = true) (k10 : PySem.W.keepIn K (.ref f10) = true)
    (a11 : PySem.W.nsIn K mainGlobals "placed" = some (some (.ref f11))) (l11 : K.lookup f11 = some ⟨oc11, od11, .func (PySem.W.fnOf "placed" "placed" (z0D z16) (z0B z16) (z02 z16) .none kV11 dc11 pm11 an11 cd11 ct11), sl11⟩) (c11 : PySem.W.codeIn K cd11 "placed" = true) (k11 : PySem.W.keepIn K (.ref f11) = true)
    (a12 : PySem.W.nsIn K mainGlobals "first_touch" = some (some (.ref f12))) (l12 : K.lookup f12 = some ⟨oc12, od12, .func (PySem.W.fnOf "first_touch" "first_touch" (z0D z0V) (z0B z0V) (z02 z0V) .none kV12 dc12 pm12 an12 cd12 ct12), sl12⟩) (c12 : PySem.W.codeIn K cd12 "first_touch" = true) (k12 : PySem.W.keepIn K (.ref f12) = true)
    (a13 : PySem.W.nsIn K mainGlobals "_law_draw" = some (some (.ref f13))) (l13 : K.lookup f13 = some ⟨oc13, od13, .func (PySem.W.fnOf "_law_draw" "_law_draw" (z0D z0w) (z0B z0w) (z02 z0w) .none kV13 dc13 pm13 an13 cd13 ct13), sl13⟩) (c13 : PySem.W.codeIn K cd13 "_law_draw" = true) (k13 : PySem.W.keepIn K (.ref f13) = true)
    (a14 : PySem.W.nsIn K mainGlobals "_law_great" = some (some (.ref f14))) (l14 : K.lookup f14 = some ⟨oc14, od14, .func (PySem.W.fnOf "_law_great" "_law_great" (z0D z0f) (z0B z0f) (z02 z0f) .none kV14 dc14 pm14 an14 cd14 ct14), sl14⟩) (c14 : PySem.W.codeIn K cd14 "_law_great" = true) (k14 : PySem.W.keepIn K (.ref f14) = true)
    (a15 : PySem.W.nsIn K mainGlobals "_law_whole" = some (some (.ref f15))) (l15 : K.lookup f15 = some ⟨oc15, od15, .func (PySem.W.fnOf "_law_whole" "_law_whole" (z0D z0g) (z0B z0g) (z02 z0g) .none kV15 dc15 pm15 an15 cd15 ct15), sl15⟩) (c15 : PySem.W.codeIn K cd15 "_law_whole" = true) (k15 : PySem.W.keepIn K (.ref f15) = true)
    (a16 : PySem.W.nsIn K mainGlobals "_law_shade" = some (some (.ref f16))) (l16 : K.lookup f16 = some ⟨oc16, od16, .func (PySem.W.fnOf "_law_shade" "_law_shade" (z0D z0h) (z0B z0h) (z02 z0h) .none kV16 dc16 pm16 an16 cd16 ct16), sl16⟩) (c16 : PySem.W.codeIn K cd16 "_law_shade" = true) (k16 : PySem.W.keepIn K (.ref f16) = true)
    (a17 : PySem.W.nsIn K mainGlobals "_law_rows" = some (some (.ref f17))) (l17 : K.lookup f17 = some ⟨oc17, od17, .func (PySem.W.fnOf "_law_rows" "_law_rows" (z0D z0m) (z0B z0m) (z02 z0m) .none kV17 dc17 pm17 an17 cd17 ct17), sl17⟩) (c17 : PySem.W.codeIn K cd17 "_law_rows" = true) (k17 : PySem.W.keepIn K (.ref f17) = true)
    (a18 : PySem.W.nsIn K mainGlobals "_law_bits" = some (some (.ref f18))) (l18 : K.lookup f18 = some ⟨oc18, od18, .func (PySem.W.fnOf "_law_bits" "_law_bits" (z0D z0x) (z0B z0x) (z02 z0x) .none kV18 dc18 pm18 an18 cd18 ct18), sl18⟩) (c18 : PySem.W.codeIn K cd18 "_law_bits" = true) (k18 : PySem.W.keepIn K (.ref f18) = true)
    (a19 : PySem.W.nsIn K mainGlobals "_law_way" = some (some (.ref f19))) (l19 : K.lookup f19 = some ⟨oc19, od19, .func (PySem.W.fnOf "_law_way" "_law_way" (z0D z17) (z0B z17) (z02 z17) .none kV19 dc19 pm19 an19 cd19 ct19), sl19⟩) (c19 : PySem.W.codeIn K cd19 "_law_way" = true) (k19 : PySem.W.keepIn K (.ref f19) = true)
    (a20 : PySem.W.nsIn K mainGlobals "_law_touch" = some (some (.ref f20))) (l20 : K.lookup f20 = some ⟨oc20, od20, .func (PySem.W.fnOf "_law_touch" "_law_touch" (z0D z0i) (z0B z0i) (z02 z0i) .none kV20 dc20 pm20 an20 cd20 ct20), sl20⟩) (c20 : PySem.W.codeIn K cd20 "_law_touch" = true) (k20 : PySem.W.keepIn K (.ref f20) = true)
    (a21 : PySem.W.nsIn K mainGlobals "_law_speed" = some (some (.ref f21))) (l21 : K.lookup f21 = some ⟨oc21, od21, .func (PySem.W.fnOf "_law_speed" "_law_speed" (z0D z0j) (z0B z0j) (z02 z0j) .none kV21 dc21 pm21 an21 cd21 ct21), sl21⟩) (c21 : PySem.W.codeIn K cd21 "_law_speed" = true) (k21 : PySem.W.keepIn K (.ref f21) = true)
    (a22 : PySem.W.nsIn K mainGlobals "_law_goer" = some (some (.ref f22))) (l22 : K.lookup f22 = some ⟨oc22, od22, .func (PySem.W.fnOf "_law_goer" "_law_goer" (z0D z0y) (z0B z0y) (z02 z0y) .none kV22 dc22 pm22 an22 cd22 ct22), sl22⟩) (c22 : PySem.W.codeIn K cd22 "_law_goer" = true) (k22 : PySem.W.keepIn K (.ref f22) = true)
    (a23 : PySem.W.nsIn K mainGlobals "_law_at" = some (some (.ref f23))) (l23 : K.lookup f23 = some ⟨oc23, od23, .func (PySem.W.fnOf "_law_at" "_law_at" (z0D z1O) (z0B z1O) (z02 z1O) .none kV23 dc23 pm23 an23 cd23 ct23), sl23⟩) (c23 : PySem.W.codeIn K cd23 "_law_at" = true) (k23 : PySem.W.keepIn K (.ref f23) = true)
    (a24 : PySem.W.nsIn K mainGlobals "_law_due" = some (some (.ref f24))) (l24 : K.lookup f24 = some ⟨oc24, od24, .func (PySem.W.fnOf "_law_due" "_law_due" (z0D z18) (z0B z18) (z02 z18) .none kV24 dc24 pm24 an24 cd24 ct24), sl24⟩) (c24 : PySem.W.codeIn K cd24 "_law_due" = true) (k24 : PySem.W.keepIn K (.ref f24) = true)
    (a25 : PySem.W.nsIn K mainGlobals "_law_handed" = some (some (.ref f25))) (l25 : K.lookup f25 = some ⟨oc25, od25, .func (PySem.W.fnOf "_law_handed" "_law_handed" (z0D z0a) (z0B z0a) (z02 z0a) .none kV25 dc25 pm25 an25 cd25 ct25), sl25⟩) (c25 : PySem.W.codeIn K cd25 "_law_handed" = true) (k25 : PySem.W.keepIn K (.ref f25) = true)
    (a26 : PySem.W.nsIn K mainGlobals "_law_same" = some (some (.ref f26))) (l26 : K.lookup f26 = some ⟨oc26, od26, .func (PySem.W.fnOf "_law_same" "_law_same" (z0D z0n) (z0B z0n) (z02 z0n) .none kV26 dc26 pm26 an26 cd26 ct26), sl26⟩) (c26 : PySem.W.codeIn K cd26 "_law_same" = true) (k26 : PySem.W.keepIn K (.ref f26) = true)
    (a27 : PySem.W.nsIn K mainGlobals "_law_refused" = some (some (.ref f27))) (l27 : K.lookup f27 = some ⟨oc27, od27, .func (PySem.W.fnOf "_law_refused" "_law_refused" (z0D z0W) (z0B z0W) (z02 z0W) .none kV27 dc27 pm27 an27 cd27 ct27), sl27⟩) (c27 : PySem.W.codeIn K cd27 "_law_refused" = true) (k27 : PySem.W.keepIn K (.ref f27) = true)
    (a28 : PySem.W.nsIn K mainGlobals "_law_off" = some (some (.ref f28))) (l28 : K.lookup f28 = some ⟨oc28, od28, .func (PySem.W.fnOf "_law_off" "_law_off" (z0D z19) (z0B z19) (z02 z19) .none kV28 dc28 pm28 an28 cd28 ct28), sl28⟩) (c28 : PySem.W.codeIn K cd28 "_law_off" = true) (k28 : PySem.W.keepIn K (.ref f28) = true)
    (a29 : PySem.W.nsIn K mainGlobals "law" = some (some (.ref f29))) (l29 : K.lookup f29 = some ⟨oc29, od29, .func (PySem.W.fnOf "law" "law" (z0D z1y) (z0B z1y) (z02 z1y) .none kV29 dc29 pm29 an29 cd29 ct29), sl29⟩) (c29 : PySem.W.codeIn K cd29 "law" = true) (k29 : PySem.W.keepIn K (.ref f29) = true)
    (z1 : PySem.W.nsIn K mainGlobals "len" = some none)
    (z2 : PySem.W.nsIn K mainGlobals "range" = some none)
    (z3 : PySem.W.nsIn K mainGlobals "enumerate" = some none)
    (z4 : PySem.W.nsIn K mainGlobals "reversed" = some none)
    (z5 : PySem.W.nsIn K mainGlobals "isinstance" = some none)
    (z6 : PySem.W.nsIn K mainGlobals "int" = some none)
    (z7 : PySem.W.nsIn K mainGlobals "bool" = some none)
    (z8 : PySem.W.nsIn K mainGlobals "tuple" = some none)
    (z9 : PySem.W.nsIn K mainGlobals "all" = some none)
    (cm_GlowError : PySem.W.nsIn K mainGlobals "GlowError" = some (some (.ref c_GlowError)))
    (cm_NoSpot : PySem.W.nsIn K mainGlobals "NoSpot" = some (some (.ref c_NoSpot)))
    (cm_NoSign : PySem.W.nsIn K mainGlobals "NoSign" = some (some (.ref c_NoSign)))
    (gs : PySem.W.specialIn K (.ref c_GlowError) "__getattribute__" = some (some (.builtin "type.__getattribute__"))) (gr : PySem.W.readsIn K c_GlowError (.type "type") = true) (gf : PySem.W.findCls K (.ref c_GlowError) (.type "type") "__init__" = some (.val (.builtin "ValueError.__init__")))
    (fi_NoSpot : PySem.W.findIn K (.ref c_NoSpot) "__init__" = some (some (.builtin "ValueError.__init__")))
    (fi_NoSign : PySem.W.findIn K (.ref c_NoSign) "__init__" = some (some (.ref ia_NoSign))) (il_NoSign : K.lookup ia_NoSign = some ⟨ioc_NoSign, iod_NoSign, .func (PySem.W.fnOf "__init__" "NoSign.__init__" (z0D z1F) (z0B z1F) (z02 z1F) .none ikV_NoSign idc_NoSign ipm_NoSign ian_NoSign icd_NoSign ict_NoSign), isl_NoSign⟩) (ic_NoSign : PySem.W.codeIn K icd_NoSign "NoSign.__init__" = true) (ik_NoSign : PySem.W.keepIn K (.ref ia_NoSign) = true) (it_NoSign : PySem.W.typeIn K (.ref ia_NoSign) = some (.type "function"))
    (ff_NoSign_sign : PySem.W.findIn K (.ref c_NoSign) "sign" = some none)
    (ff_NoSign_at : PySem.W.findIn K (.ref c_NoSign) "at" = some none)
    (xall : ([c_GlowError, c_NoSpot, c_NoSign] : List Addr).all (xeB K) = true) (kall : z6V K [c_NoSpot, c_NoSign] c_GlowError = true) (k_tup : PySem.W.kitOne K (.type "tuple") (.ref c_GlowError) = some false) (aball : (([c_NoSpot, c_NoSign] : List Addr).all fun c => PySem.W.mroIn K c (.ref c_GlowError) == some true) = true)
    : ∃ fd : FuncData, (∀ (s : Shared) (v : Value), BindsTo s fd ⟨[v], []⟩ [("_law_script", v)]) /\ ∀ base : Heap, K.In base -> base.Ns mainGlobals mg -> FnOk l.prog w K mg base CX0 7 fa fd ["_law_script"] (z5p K) := by
  have e := hfa.symm.trans (PySem.W.mg_of X G a29)
  cases e
  have B : Blt mg := ⟨PySem.W.mg_none_of X G z1, PySem.W.mg_none_of X G z2, PySem.W.mg_none_of X G z3, PySem.W.mg_none_of X G z4, PySem.W.mg_none_of X G z5, PySem.W.mg_none_of X G z6, PySem.W.mg_none_of X G z7, PySem.W.mg_none_of X G z8, PySem.W.mg_none_of X G z9⟩
  have xa := List.all_eq_true.mp xall
  have xk_NoSpot := z5N (xa c_NoSpot (by simp))
  have xk_NoSign := z5N (xa c_NoSign (by simp))
  have Z : Cl K mg c_GlowError c_NoSpot c_NoSign := ⟨PySem.W.mg_of X G cm_GlowError, ⟨gs, gr, gf⟩, (z5N (xa c_GlowError (by simp))).1, k_tup, (fun c hc => by simpa using List.all_eq_true.mp aball c hc), PySem.W.mg_of X G cm_NoSpot, xk_NoSpot.1, PySem.W.mg_of X G cm_NoSign, xk_NoSign.1, ff_NoSign_sign, ff_NoSign_at, z5O kall⟩
  have FI_NoSign := z0R (st := z1F) il_NoSign ic_NoSign ik_NoSign
  have F1 := z0R (st := z0t) l1 c1 k1
  have D1 : Df K mg "paint_of" z0t ["row"] _ _ := ⟨F1, F1.binds (ps := ["row"]) fun _ _ _ _ _ _ us hl => match us, hl with | [_], _ => rfl, PySem.W.mg_of X G a1⟩
  have F2 := z0R (st := z13) l2 c2 k2
  have D2 : Df K mg "mask_of" z13 ["row"] _ _ := ⟨F2, F2.binds (ps := ["row"]) fun _ _ _ _ _ _ us hl => match us, hl with | [_], _ => rfl, PySem.W.mg_of X G a2⟩
  have F3 := z0R (st := z0Y) l3 c3 k3
  have D3 : Df K mg "lowest_bit" z0Y ["mask"] _ _ := ⟨F3, F3.binds (ps := ["mask"]) fun _ _ _ _ _ _ us hl => match us, hl with | [_], _ => rfl, PySem.W.mg_of X G a3⟩
  have F4 := z6u (st := z14) l4 c4 k4
  have D4 : DfD K mg "filled" z14 ["wide", "high", "cell"] _ _ _ := ⟨F4, fun s us X hl => match us, hl with | [_, _, _], _ => PySem.W.binds_K X rfl t4 rfl rfl rfl, fun s us X hl => match us, (by simpa using hl : us.length = 2) with | [_, _], _ => PySem.W.binds_K X rfl t4 rfl rfl rfl, PySem.W.mg_of X G a4⟩
  have F5 := z0R (st := z0Z) l5 c5 k5
  have D5 : Df K mg "bits_of_row" z0Z ["rows", "y"] _ _ := ⟨F5, F5.binds (ps := ["rows", "y"]) fun _ _ _ _ _ _ us hl => match us, hl with | [_, _], _ => rfl, PySem.W.mg_of X G a5⟩
  have F6 := z0R (st := z0u) l6 c6 k6
  have D6 : Df K mg "cut_bits" z0u ["bits", "at", "many"] _ _ := ⟨F6, F6.binds (ps := ["bits", "at", "many"]) fun _ _ _ _ _ _ us hl => match us, hl with | [_, _, _], _ => rfl, PySem.W.mg_of X G a6⟩
  have F7 := z0R (st := z2S) l7 c7 k7
  have D7 : Df K mg "cut" z2S ["pic", "x", "y", "wide", "high"] _ _ := ⟨F7, F7.binds (ps := ["pic", "x", "y", "wide", "high"]) fun _ _ _ _ _ _ us hl => match us, hl with | [_, _, _, _, _], _ => rfl, PySem.W.mg_of X G a7⟩
  have F8 := z0R (st := z0v) l8 c8 k8
  have D8 : Df K mg "bounced" z0v ["start", "speed", "room", "beat"] _ _ := ⟨F8, F8.binds (ps := ["start", "speed", "room", "beat"]) fun _ _ _ _ _ _ us hl => match us, hl with | [_, _, _, _], _ => rfl, PySem.W.mg_of X G a8⟩
  have F9 := z0R (st := z15) l9 c9 k9
  have D9 : Df K mg "spot_of" z15 ["goer", "wide", "high", "beat"] _ _ := ⟨F9, F9.binds (ps := ["goer", "wide", "high", "beat"]) fun _ _ _ _ _ _ us hl => match us, hl with | [_, _, _, _], _ => rfl, PySem.W.mg_of X G a9⟩
  have F10 := z0R (st := z1N) l10 c10 k10
  have D10 : Df K mg "touch" z1N ["one", "other"] _ _ := ⟨F10, F10.binds (ps := ["one", "other"]) fun _ _ _ _ _ _ us hl => match us, hl with | [_, _], _ => rfl, PySem.W.mg_of X G a10⟩
  have F11 := z0R (st := z16) l11 c11 k11
  have D11 : Df K mg "placed" z16 ["goer", "wide", "high", "beat"] _ _ := ⟨F11, F11.binds (ps := ["goer", "wide", "high", "beat"]) fun _ _ _ _ _ _ us hl => match us, hl with | [_, _, _, _], _ => rfl, PySem.W.mg_of X G a11⟩
  have F12 := z0R (st := z0V) l12 c12 k12
  have D12 : Df K mg "first_touch" z0V ["one", "other", "wide", "high", "most"] _ _ := ⟨F12, F12.binds (ps := ["one", "other", "wide", "high", "most"]) fun _ _ _ _ _ _ us hl => match us, hl with | [_, _, _, _, _], _ => rfl, PySem.W.mg_of X G a12⟩
  have F13 := z0R (st := z0w) l13 c13 k13
  have D13 : Df K mg "_law_draw" z0w ["_law_script", "_law_k", "_law_prime", "_law_many"] _ _ := ⟨F13, F13.binds (ps := ["_law_script", "_law_k", "_law_prime", "_law_many"]) fun _ _ _ _ _ _ us hl => match us, hl with | [_, _, _, _], _ => rfl, PySem.W.mg_of X G a13⟩
  have F14 := z0R (st := z0f) l14 c14 k14
  have D14 : Df K mg "_law_great" z0f ["_law_script", "_law_k", "_law_many"] _ _ := ⟨F14, F14.binds (ps := ["_law_script", "_law_k", "_law_many"]) fun _ _ _ _ _ _ us hl => match us, hl with | [_, _, _], _ => rfl, PySem.W.mg_of X G a14⟩
  have F15 := z0R (st := z0g) l15 c15 k15
  have D15 : Df K mg "_law_whole" z0g ["_law_found"] _ _ := ⟨F15, F15.binds (ps := ["_law_found"]) fun _ _ _ _ _ _ us hl => match us, hl with | [_], _ => rfl, PySem.W.mg_of X G a15⟩
  have F16 := z0R (st := z0h) l16 c16 k16
  have D16 : Df K mg "_law_shade" z0h ["_law_script", "_law_k"] _ _ := ⟨F16, F16.binds (ps := ["_law_script", "_law_k"]) fun _ _ _ _ _ _ us hl => match us, hl with | [_, _], _ => rfl, PySem.W.mg_of X G a16⟩
  have F17 := z0R (st := z0m) l17 c17 k17
  have D17 : Df K mg "_law_rows" z0m ["_law_script", "_law_k", "_law_wide", "_law_high"] _ _ := ⟨F17, F17.binds (ps := ["_law_script", "_law_k", "_law_wide", "_law_high"]) fun _ _ _ _ _ _ us hl => match us, hl with | [_, _, _, _], _ => rfl, PySem.W.mg_of X G a17⟩
  have F18 := z0R (st := z0x) l18 c18 k18
  have D18 : Df K mg "_law_bits" z0x ["_law_rows_here"] _ _ := ⟨F18, F18.binds (ps := ["_law_rows_here"]) fun _ _ _ _ _ _ us hl => match us, hl with | [_], _ => rfl, PySem.W.mg_of X G a18⟩
  have F19 := z0R (st := z17) l19 c19 k19
  have D19 : Df K mg "_law_way" z17 ["_law_start", "_law_speed_here", "_law_room", "_law_beat"] _ _ := ⟨F19, F19.binds (ps := ["_law_start", "_law_speed_here", "_law_room", "_law_beat"]) fun _ _ _ _ _ _ us hl => match us, hl with | [_, _, _, _], _ => rfl, PySem.W.mg_of X G a19⟩
  have F20 := z0R (st := z0i) l20 c20 k20
  have D20 : Df K mg "_law_touch" z0i ["_law_one", "_law_other"] _ _ := ⟨F20, F20.binds (ps := ["_law_one", "_law_other"]) fun _ _ _ _ _ _ us hl => match us, hl with | [_, _], _ => rfl, PySem.W.mg_of X G a20⟩
  have F21 := z0R (st := z0j) l21 c21 k21
  have D21 : Df K mg "_law_speed" z0j ["_law_script", "_law_k"] _ _ := ⟨F21, F21.binds (ps := ["_law_script", "_law_k"]) fun _ _ _ _ _ _ us hl => match us, hl with | [_, _], _ => rfl, PySem.W.mg_of X G a21⟩
  have F22 := z0R (st := z0y) l22 c22 k22
  have D22 : Df K mg "_law_goer" z0y ["_law_script", "_law_k", "_law_sides", "_law_side"] _ _ := ⟨F22, F22.binds (ps := ["_law_script", "_law_k", "_law_sides", "_law_side"]) fun _ _ _ _ _ _ us hl => match us, hl with | [_, _, _, _], _ => rfl, PySem.W.mg_of X G a22⟩
  have F23 := z0R (st := z1O) l23 c23 k23
  have D23 : Df K mg "_law_at" z1O ["_law_goer_here", "_law_sides", "_law_beat"] _ _ := ⟨F23, F23.binds (ps := ["_law_goer_here", "_law_sides", "_law_beat"]) fun _ _ _ _ _ _ us hl => match us, hl with | [_, _, _], _ => rfl, PySem.W.mg_of X G a23⟩
  have F24 := z0R (st := z18) l24 c24 k24
  have D24 : Df K mg "_law_due" z18 ["_law_one", "_law_other", "_law_sides", "_law_most"] _ _ := ⟨F24, F24.binds (ps := ["_law_one", "_law_other", "_law_sides", "_law_most"]) fun _ _ _ _ _ _ us hl => match us, hl with | [_, _, _, _], _ => rfl, PySem.W.mg_of X G a24⟩
  have F25 := z0R (st := z0a) l25 c25 k25
  have D25 : Df K mg "_law_handed" z0a ["_law_goer_here"] _ _ := ⟨F25, F25.binds (ps := ["_law_goer_here"]) fun _ _ _ _ _ _ us hl => match us, hl with | [_], _ => rfl, PySem.W.mg_of X G a25⟩
  have F26 := z0R (st := z0n) l26 c26 k26
  have D26 : Df K mg "_law_same" z0n ["_law_found", "_law_due_here"] _ _ := ⟨F26, F26.binds (ps := ["_law_found", "_law_due_here"]) fun _ _ _ _ _ _ us hl => match us, hl with | [_, _], _ => rfl, PySem.W.mg_of X G a26⟩
  have F27 := z0R (st := z0W) l27 c27 k27
  have D27 : Df K mg "_law_refused" z0W ["_law_one", "_law_other", "_law_sides", "_law_most"] _ _ := ⟨F27, F27.binds (ps := ["_law_one", "_law_other", "_law_sides", "_law_most"]) fun _ _ _ _ _ _ us hl => match us, hl with | [_, _, _, _], _ => rfl, PySem.W.mg_of X G a27⟩
  have F28 := z0R (st := z19) l28 c28 k28
  have D28 : Df K mg "_law_off" z19 ["_law_script", "_law_goer_here", "_law_sides"] _ _ := ⟨F28, F28.binds (ps := ["_law_script", "_law_goer_here", "_law_sides"]) fun _ _ _ _ _ _ us hl => match us, hl with | [_, _, _], _ => rfl, PySem.W.mg_of X G a28⟩
  have F29 := z0R (st := z1y) l29 c29 k29
  have D29 : Df K mg "law" z1y ["_law_script"] _ _ := ⟨F29, F29.binds (ps := ["_law_script"]) fun _ _ _ _ _ _ us hl => match us, hl with | [_], _ => rfl, PySem.W.mg_of X G a29⟩
  refine ⟨PySem.W.fnOf "law" "law" (z0D z1y) (z0B z1y) (z02 z1y) .none kV29 dc29 pm29 an29 cd29 ct29, fun s v => .of_eq rfl, fun base _ _ => ?_⟩
  have E_NoSpot : Oo K mg "NoSpot" c_NoSpot := ⟨PySem.W.mg_of X G cm_NoSpot, ⟨xk_NoSpot.1, xk_NoSpot.2, fi_NoSpot⟩⟩
  have E_NoSign : Oe l.prog w K mg base "NoSign" c_NoSign ["self", "sign", "at"] 1 (zA0 c_NoSign "sign" "at") := ⟨ia_NoSign, _, PySem.W.mg_of X G cm_NoSign, ⟨xk_NoSign.1, xk_NoSign.2, fi_NoSign, it_NoSign⟩, FI_NoSign.binds (ps := ["self", "sign", "at"]) fun _ _ _ _ _ _ us hl => match us, hl with | [_, _, _], _ => rfl, z5Y Z FI_NoSign⟩
  have O_paintof := z48 (P := l.prog) (w := w) (base := base) D1  B
  have O_maskof := z5Z (P := l.prog) (w := w) (base := base) D2  B
  have O_lowestbit := z33 (P := l.prog) (w := w) (base := base) D3  B
  have Ff4 := z49 (P := l.prog) (w := w) (base := base) D4 O_paintof O_maskof B
  have O_filled := D4.ow Ff4
  have Od2_filled := D4.owd Ff4
  have O_bitsofrow := z31 (P := l.prog) (w := w) (base := base) D5  B
  have O_cutbits := z4A (P := l.prog) (w := w) (base := base) D6  B
  have O_cut := z8G (P := l.prog) (w := w) (base := base) D7 Od2_filled O_bitsofrow O_cutbits B
  have O_bounced := z4B (P := l.prog) (w := w) (base := base) D8  B
  have O_spotof := z5b (P := l.prog) (w := w) (base := base) D9 Z O_bounced E_NoSpot B
  have O_touch := z6E (P := l.prog) (w := w) (base := base) D10 O_lowestbit O_cut B
  have O_placed := z5c (P := l.prog) (w := w) (base := base) D11 Z O_spotof B
  have O_firsttouch := z2T (P := l.prog) (w := w) (base := base) D12 Z O_touch O_placed B
  have O_lawdraw := z45 (P := l.prog) (w := w) (base := base) D13  B
  have O_lawgreat := z3Q (P := l.prog) (w := w) (base := base) D14  B
  have O_lawwhole := z3S (P := l.prog) (w := w) (base := base) D15  B
  have O_lawshade := z3T (P := l.prog) (w := w) (base := base) D16 O_lawdraw B
  have O_lawrows := z46 (P := l.prog) (w := w) (base := base) D17 O_lawshade B
  have O_lawbits := z47 (P := l.prog) (w := w) (base := base) D18  B
  have O_lawway := z5a (P := l.prog) (w := w) (base := base) D19  B
  have O_lawtouch := z3U (P := l.prog) (w := w) (base := base) D20  B
  have O_lawspeed := z3W (P := l.prog) (w := w) (base := base) D21 O_lawdraw O_lawgreat B
  have O_lawgoer := z4C (P := l.prog) (w := w) (base := base) D22 O_lawdraw O_lawrows O_lawspeed B
  have O_lawat := z6F (P := l.prog) (w := w) (base := base) D23 O_lawway B
  have O_lawdue := z5d (P := l.prog) (w := w) (base := base) D24 O_lawtouch O_lawat B
  have O_lawhanded := z35 (P := l.prog) (w := w) (base := base) D25 O_lawbits B
  have O_lawsame := z4E (P := l.prog) (w := w) (base := base) D26 O_lawwhole B
  have O_lawrefused := z2U (P := l.prog) (w := w) (base := base) D27 Z O_firsttouch B
  have O_lawoff := z5e (P := l.prog) (w := w) (base := base) D28 O_lawdraw O_lawgreat O_lawhanded B
  exact z8H D29 O_firsttouch O_lawdraw O_lawgoer O_lawdue O_lawhanded O_lawsame O_lawrefused O_lawoff B
theorem walk {l : PySem.W.OpenLaw} {q : Program} {loose : List Str} {XP : (Str -> Option Value) -> Heap -> Prop} {YP : World -> Heap -> Prop} {d : DefRec} {K : Params -> PySem.W.Frag} (hn : l.most = some 63) (hdf : d.params.defaults = [])
    (hY : ∀ (w : World) (h : Heap), YP w h -> (K w.params).In h)
    (F : ∀ (w : World) (mg : Str -> Option Value) (fa : Addr) (h : Heap), (K w.params).In h -> h.Ns mainGlobals mg -> mg d.name = some (.ref fa) ->
      ∃ fd : FuncData, (∀ (s : Shared) (u : Value), BindsTo s fd ⟨[u], []⟩ [("_law_script", u)]) /\ ∀ base : Heap, (K w.params).In base -> base.Ns mainGlobals mg -> FnOk l.prog w (K w.params) mg base CX0 7 fa fd ["_law_script"] (z5p (K w.params))) :
    PySem.W.WalkO q loose XP YP l.row.toRowW d [] (fun f vs => PySem.call f vs) :=
  L2.walk_of (n := 63) (k := 7) (x := "_law_script") (CX := fun _ => CX0) (sp := fun w => z5p (K w.params)) hn (by decide) hdf ⟨rfl, by decide, by decide⟩ hY F (fun _ _ a ns hl _ hS => ⟨a, ns, rfl, hS, hl, fun _ => rfl⟩) fun _ _ _ _ _ z => z
end K44
namespace PySem.W.Fast
theorem tw8369482599142797968 : True := trivial
theorem tw15117222333923376739 : True := trivial
theorem tw15553714169904407433 : True := trivial
theorem tw7708613600399657898 : True := trivial
theorem tw15852062218242775854 : True := trivial
theorem tw8216170361863548658 : True := trivial
theorem tw2439389945238695891 : True := trivial
theorem tw14417558472502772564 : True := trivial
theorem tw1189117786986184854 : True := trivial
theorem tw2782109356869501150 : True := trivial
theorem tw15911536752441776543 : True := trivial
end PySem.W.Fast
open PySem PySem.W PyProof.Rows
set_option maxRecDepth 100000 in
set_option maxHeartbeats 0 in
theorem PySem.Challenge.cw_glowboard_k44_the_first_touch_holds : PySem.Challenge.rw_glowboard_k44_the_first_touch.Holds := by
  w_on; o_law; k_head; (case hw => w_witness2)
  k_fill
  refine K44.walk (l := PySem.Challenge.rw_glowboard_k44_the_first_touch) rfl rfl (fun w h Y => PySem.W.kIn_of Y) ?F
  case F =>
    intro w mg fa h KX G hmg
    refine' K44.all_mk KX G hmg ?a1 ?l1 ?c1 ?k1 ?a2 ?l2 ?c2 ?k2 ?a3 ?l3 ?c3 ?k3 ?a4 ?l4 ?c4 ?k4 ?t4 ?a5 ?l5 ?c5 ?k5 ?a6 ?l6 ?c6 ?k6 ?a7 ?l7 ?c7 ?k7 ?a8 ?l8 ?c8 ?k8 ?a9 ?l9 ?c9 ?k9 ?a10 ?l10 ?c10 ?k10 ?a11 ?l11 ?c11 ?k11 ?a12 ?l12 ?c12 ?k12 ?a13 ?l13 ?c13 ?k13 ?a14 ?l14 ?c14 ?k14 ?a15 ?l15 ?c15 ?k15 ?a16 ?l16 ?c16 ?k16 ?a17 ?l17 ?c17 ?k17 ?a18 ?l18 ?c18 ?k18 ?a19 ?l19 ?c19 ?k19 ?a20 ?l20 ?c20 ?k20 ?a21 ?l21 ?c21 ?k21 ?a22 ?l22 ?c22 ?k22 ?a23 ?l23 ?c23 ?k23 ?a24 ?l24 ?c24 ?k24 ?a25 ?l25 ?c25 ?k25 ?a26 ?l26 ?c26 ?k26 ?a27 ?l27 ?c27 ?k27 ?a28 ?l28 ?c28 ?k28 ?a29 ?l29 ?c29 ?k29 ?z1 ?z2 ?z3 ?z4 ?z5 ?z6 ?z7 ?z8 ?z9 ?cm_GlowError ?cm_NoSpot ?cm_NoSign ?gs ?gr ?gf ?fi_NoSpot ?fi_NoSign ?il_NoSign ?ic_NoSign ?ik_NoSign ?it_NoSign ?ff_NoSign_sign ?ff_NoSign_at ?xall ?kall ?k_tup ?aball
    (case a1 => k_is); (case l1 => k_is); (case c1 => k_is); (case k1 => k_is)
    (case a2 => k_is); (case l2 => k_is); (case c2 => k_is); (case k2 => k_is)
    (case a3 => k_is); (case l3 => k_is); (case c3 => k_is); (case k3 => k_is)
    (case a4 => k_is); (case l4 => k_is); (case c4 => k_is); (case k4 => k_is)
    (case t4 => k_is); (case a5 => k_is); (case l5 => k_is); (case c5 => k_is)
    (case k5 => k_is); (case a6 => k_is); (case l6 => k_is); (case c6 => k_is)
    (case k6 => k_is); (case a7 => k_is); (case l7 => k_is); (case c7 => k_is)
    (case k7 => k_is); (case a8 => k_is); (case l8 => k_is); (case c8 => k_is)
    (case k8 => k_is); (case a9 => k_is); (case l9 => k_is); (case c9 => k_is)
    (case k9 => k_is); (case a10 => k_is); (case l10 => k_is); (case c10 => k_is)
    (case k10 => k_is); (case a11 => k_is); (case l11 => k_is); (case c11 => k_is)
    (case k11 => k_is); (case a12 => k_is); (case l12 => k_is); (case c12 => k_is)
    (case k12 => k_is); (case a13 => k_is); (case l13 => k_is); (case c13 => k_is)
    (case k13 => k_is); (case a14 => k_is); (case l14 => k_is); (case c14 => k_is)
    (case k14 => k_is); (case a15 => k_is); (case l15 => k_is); (case c15 => k_is)
    (case k15 => k_is); (case a16 => k_is); (case l16 => k_is); (case c16 => k_is)
    (case k16 => k_is); (case a17 => k_is); (case l17 => k_is); (case c17 => k_is)
    (case k17 => k_is); (case a18 => k_is); (case l18 => k_is); (case c18 => k_is)
    (case k18 => k_is); (case a19 => k_is); (case l19 => k_is); (case c19 => k_is)
    (case k19 => k_is); (case a20 => k_is); (case l20 => k_is); (case c20 => k_is)
    (case k20 => k_is); (case a21 => k_is); (case l21 => k_is); (case c21 => k_is)
    (case k21 => k_is); (case a22 => k_is); (case l22 => k_is); (case c22 => k_is)
    (case k22 => k_is); (case a23 => k_is); (case l23 => k_is); (case c23 => k_is)
    (case k23 => k_is); (case a24 => k_is); (case l24 => k_is); (case c24 => k_is)
    (case k24 => k_is); (case a25 => k_is); (case l25 => k_is); (case c25 => k_is)
    (case k25 => k_is); (case a26 => k_is); (case l26 => k_is); (case c26 => k_is)
    (case k26 => k_is); (case a27 => k_is); (case l27 => k_is); (case c27 => k_is)
    (case k27 => k_is); (case a28 => k_is); (case l28 => k_is); (case c28 => k_is)
    (case k28 => k_is); (case a29 => k_is); (case l29 => k_is); (case c29 => k_is)
    (case k29 => k_is); (case z1 => k_is); (case z2 => k_is); (case z3 => k_is)
    (case z4 => k_is); (case z5 => k_is); (case z6 => k_is); (case z7 => k_is)
    (case z8 => k_is); (case z9 => k_is); (case cm_GlowError => k_is); (case cm_NoSpot => k_is)
    (case cm_NoSign => k_is); (case gs => k_is); (case gr => k_is); (case gf => k_is)
    (case fi_NoSpot => k_is); (case fi_NoSign => k_is); (case il_NoSign => k_is); (case ic_NoSign => k_is)
    (case ik_NoSign => k_is); (case it_NoSign => k_is); (case ff_NoSign_sign => k_is); (case ff_NoSign_at => k_is)
    (case xall => kernel_rfl); (case kall => kernel_rfl); (case k_tup => kit_is); (case aball => kernel_rfl)
#print axioms PySem.Challenge.cw_glowboard_k44_the_first_touch_holds