import PyProof.Rows.All
import Wide.All
import OpenK.AllK
import Wide.FinOn
import Lean
import PyProof.EqAt
import PyProof.EqKinds
import PyProof.TupleCall
import PySem.Challenge.RW_glowboard_k52_lit_by_bars
set_option Elab.async false
set_option linter.all false
set_option maxRecDepth 100000
namespace L2
open PySem PySem.Spec PyProof.Rows
abbrev Key := Sum Int Str
def z4g : Key -> Value -> Bool
  | .inl k, v => Value.isInt k v
  | .inr x, v => Value.isStrOf x v
def z7E (w : World) : Key -> Int
  | .inl k => hashInt k
  | .inr x => hashStr w x
theorem z0K : ∀ {k : Key} {v : Value}, z4g k v = true -> (∃ i t, k = Sum.inl i /\ v = Value.int i t) \/ (∃ x t, k = Sum.inr x /\ v = Value.str x t)
  | .inl i, v, h => by
    obtain ⟨t, e⟩ := Value.isInt_shape (k := i) (v := v) h
    exact .inl ⟨i, t, rfl, e⟩
  | .inr x, v, h => by
    obtain ⟨t, e⟩ := Value.isStrOf_shape (x := x) (v := v) h
    exact .inr ⟨x, t, rfl, e⟩
theorem z4h (a b : Int) : decide ((Sum.inl a : Key) = Sum.inl b) = (a == b) := by
  by_cases e : a = b
  . subst e; simp
  . have h : ¬ (Sum.inl a : Key) = Sum.inl b := fun q => e (Sum.inl.inj q)
    rw [decide_eq_false h]
    exact (beq_eq_false_iff_ne.mpr e).symm
theorem z4i (a b : Str) : decide ((Sum.inr a : Key) = Sum.inr b) = decide (a = b) := by
  by_cases e : a = b
  . subst e; simp
  . have h : ¬ (Sum.inr a : Key) = Sum.inr b := fun q => e (Sum.inr.inj q)
    rw [decide_eq_false h, decide_eq_false e]
theorem z4j (a : Int) (b : Str) : decide ((Sum.inl a : Key) = Sum.inr b) = false := decide_eq_false (fun q => nomatch q)
theorem z4k (a : Str) (b : Int) : decide ((Sum.inr a : Key) = Sum.inl b) = false := decide_eq_false (fun q => nomatch q)
def z2g (prog : Program) (w : World) : PySem.KeyKind prog w Key where
  is := z4g
  hash := z7E w
  inj := fun v a b ha hb => by
    rcases z0K ha with ⟨i, t, rfl, rfl⟩ | ⟨x, t, rfl, rfl⟩
    . rcases z0K hb with ⟨j, u, rfl, e⟩ | ⟨y, u, rfl, e⟩
      . injection e with e1 _; rw [e1]
      . exact nomatch e
    . rcases z0K hb with ⟨j, u, rfl, e⟩ | ⟨y, u, rfl, e⟩
      . exact nomatch e
      . injection e with e1 _; rw [e1]
  byValue := fun k v h => by
    rcases z0K h with ⟨i, t, rfl, rfl⟩ | ⟨x, t, rfl, rfl⟩ <;> rfl
  pyHash := fun hv h => by
    rcases z0K hv with ⟨i, t, rfl, rfl⟩ | ⟨x, t, rfl, rfl⟩
    . exact wpAny_pyHash_int h
    . exact wpAny_pyHash_str h
  eqBool := fun hu hv h => by
    rcases z0K hu with ⟨i, t, rfl, rfl⟩ | ⟨x, t, rfl, rfl⟩
    . rcases z0K hv with ⟨j, u, rfl, rfl⟩ | ⟨y, u, rfl, rfl⟩
      . rw [z4h] at h; exact wpAny_eqBool_int h
      . rw [z4j] at h; exact SeqAt.EqAt.int_str i t y u _ _ _ _ h
    . rcases z0K hv with ⟨j, u, rfl, rfl⟩ | ⟨y, u, rfl, rfl⟩
      . rw [z4k] at h; exact SeqAt.EqAt.str_int x t j u _ _ _ _ h
      . rw [z4i] at h; exact wpAny_eqBool_str h
  «strs» := fun k x t v h => by
    rcases z0K h with ⟨i, u, rfl, e⟩ | ⟨y, u, rfl, e⟩
    . exact nomatch e
    . injection e with e1 _
      subst e1
      cases v <;> rfl
inductive V where
  | non | bl (b : Bool) | int (i : Int) | str (x : Str) | byt (b : Array UInt8) | flt (b : UInt64) | ref (a : Addr) | ty (n : String)
  deriving DecidableEq
def RelV : V -> Value -> Prop
  | .non, u => u = Value.none
  | .bl b, u => u = Value.bool b
  | .int i, u => ∃ t, u = Value.int i t
  | .str x, u => ∃ t, u = Value.str x t
  | .byt b, u => ∃ t, u = Value.bytes b t
  | .flt b, u => ∃ t, u = Value.float b t
  | .ref a, u => u = Value.ref a
  | .ty n, u => u = Value.type n
abbrev Vals : List V -> List Value -> Prop := Paired RelV
theorem Vals.length {xs : List V} {us : List Value} (r : Vals xs us) : xs.length = us.length := Paired.length r
theorem Vals.get : ∀ {xs : List V} {us : List Value} {i : Nat} {x : V}, Vals xs us -> xs[i]? = some x -> ∃ u, us[i]? = some u /\ RelV x u
  | _, _, _, _, .nil, e => by simp at e
  | _, _, 0, _, .cons r _, e => by simp at e; subst e; exact ⟨_, rfl, r⟩
  | _, _, i + 1, x, .cons _ t, e => by
    obtain ⟨u, h1, h2⟩ := Vals.get (i := i) (x := x) t (by simpa using e)
    exact ⟨u, by simpa using h1, h2⟩
theorem Vals.set {x : V} {u : Value} (r : RelV x u) : ∀ {xs : List V} {us : List Value} (i : Nat), Vals xs us -> Vals (xs.set i x) (us.set i u)
  | _, _, _, .nil => .nil
  | _, _, 0, .cons _ t => .cons r t
  | _, _, i + 1, .cons q t => .cons q (Vals.set r i t)
theorem Vals.append : ∀ {xs ys : List V} {us ws : List Value}, Vals xs us -> Vals ys ws -> Vals (xs ++ ys) (us ++ ws)
  | _, _, _, _, .nil, s => s
  | _, _, _, _, .cons r t, s => .cons r (Vals.append t s)
theorem Vals.take : ∀ {xs : List V} {us : List Value} (n : Nat), Vals xs us -> Vals (xs.take n) (us.take n)
  | _, _, 0, _ => .nil
  | _, _, _ + 1, .nil => .nil
  | _, _, n + 1, .cons r t => .cons r (Vals.take n t)
theorem Vals.drop : ∀ {xs : List V} {us : List Value} (n : Nat), Vals xs us -> Vals (xs.drop n) (us.drop n)
  | _, _, 0, r => r
  | _, _, _ + 1, .nil => .nil
  | _, _, n + 1, .cons _ t => Vals.drop n t
def RelO : Option V -> Option Value -> Prop
  | some v, some u => RelV v u
  | none, none => True
  | _, _ => False
def KV {κ : Type} : List (κ × V) -> List (κ × Value) -> Prop := Paired fun (p : κ × V) (q : κ × Value) => p.1 = q.1 /\ RelV p.2 q.2
def kV : Key -> V
  | .inl i => .int i
  | .inr x => .str x
inductive HO where
  | lst (xs : List V)
  | tup (xs : List V)
  | dK (kvs : List (Key × V)) | dT (kvs : List (List Key × V))
  | set (S : Int -> Bool) (n : Nat)
  | ins (C dx : Addr) (fs : List (Str × V))
  | own (x : Addr)
  | xd (fs : List (Str × V))
  | met (f x : Addr)
  | rng (lo hi : Int)
  | frz (o : Obj) (u : HO)
  | tbl (ps : Array Value)
  | ext (φ : Heap -> Prop)
abbrev Hp := Addr -> Option HO
def upd (H : Hp) (a : Addr) (o : HO) : Hp := fun b => if b = a then some o else H b
theorem z06 {H : Hp} {a : Addr} {o : HO} : upd H a o a = some o := by unfold upd; rw [if_pos rfl]
theorem z04 {H : Hp} {a b : Addr} {o : HO} (h : b ≠ a) : upd H a o b = H b := by unfold upd; rw [if_neg h]
theorem z1b {H : Hp} {a b : Addr} {o u : HO} (h : H a = some o) (h' : H b = some u) (d : o ≠ u) : a ≠ b := by
  intro e; subst e; rw [h] at h'; exact d (Option.some.inj h')
theorem z08 {H : Hp} {a b : Addr} {o : HO} (h : H a = some o) (h' : H b = none) : a ≠ b := by
  intro e; subst e; rw [h] at h'; cases h'
section
variable (P : Program) (w : World)
def ObjOk (H : Hp) (h : Heap) (a : Addr) : HO -> Prop
  | .lst xs => xs.length <= sizeLine /\ ∃ (its : List Value) (n : Nat), Vals xs its /\ h.get? a = some { cls := .type "list", data := .seq its.toArray n }
  | .tup xs => xs.length <= sizeLine /\ ∃ its : List Value, Vals xs its /\ IsTup h a its.toArray
  | .dK kvs => kvs.length <= sizeLine /\ (a == sysModules) = false /\ ∃ vs, KV kvs vs /\ h.DictOf (z2g P w) a vs
  | .dT kvs => kvs.length <= sizeLine /\ (a == sysModules) = false /\ ∃ xs : List (List Key × Addr × Value),
      Paired (fun (p : List Key × V) (q : List Key × Addr × Value) => p.1 = q.1 /\ H q.2.1 = some (.tup (p.1.map kV)) /\ RelV p.2 q.2.2) kvs xs /\
      ∃ o es ep, h.get? a = some o /\ o.ExactDict /\ o.data = .dict es ep /\ es.toList = xs.map (entryOfKey (tupleKind (z2g P w))) /\ (xs.map (·.1)).Nodup
  | .set S n => h.SetOf (intKind P w) a S n
  | .ins C dx fs => H dx = some (.own a) /\ fs.length <= 1000 /\ dx ≠ a /\ h.get? a = some (PySem.W.instObj C dx) /\
      ∃ mA, h.Ns1 dx mA /\ (∀ f, RelO (fs.lookup f) (mA f)) /\ PySem.Within mA (fs.map (·.1))
  | .own _ => ∃ o, h.get? a = some o
  | .xd fs => ∃ mA, h.Ns1 a mA /\ ∀ f, RelO (fs.lookup f) (mA f)
  | .rng lo hi => ∃ t u v, h.get? a = some { cls := .type "range", data := .fields #[.int lo t, .int hi u, .int 1 v] }
  | .frz o u => h.get? a = some o /\ ObjOk H h a u
  | .tbl ps => h.get? a = some { cls := .none, data := .fields ps }
  | .met f x => h.get? a = some (PySem.W.methodObj (.ref f) (.ref x))
  | .ext φ => φ h /\ (∃ o, h.get? a = some o) /\ ∀ h1 h2 : Heap, φ h1 -> (∀ o, h1.get? a = some o -> h2.get? a = some o) -> φ h2
def HOk (H : Hp) (h : Heap) : Prop := ∀ a o, H a = some o -> ObjOk P w H h a o
end
section
variable {P : Program} {w : World} {H H' : Hp} {h h' : Heap} {a : Addr} {o : HO}
theorem ObjOk.lt (x : ObjOk P w H h a o) : a < h.objs.size := by
  cases o with
  | lst xs => obtain ⟨_, _, _, _, e⟩ := x; exact Heap.lt_size e
  | tup xs => obtain ⟨_, _, _, p⟩ := x; exact p.lt
  | dK kvs => obtain ⟨_, _, _, _, o, _, _, e, _⟩ := x; exact Heap.lt_size e
  | dT kvs => obtain ⟨_, _, _, _, o, _, _, e, _⟩ := x; exact Heap.lt_size e
  | set S n => obtain ⟨o, _, _, _, e, _⟩ := x; exact Heap.lt_size e
  | ins C dx fs => obtain ⟨_, _, _, e, _⟩ := x; exact Heap.lt_size e
  | own y => obtain ⟨_, e⟩ := x; exact Heap.lt_size e
  | xd fs => obtain ⟨_, ⟨_, _, _, e, _⟩, _⟩ := x; exact Heap.lt_size e
  | rng lo hi => obtain ⟨_, _, _, e⟩ := x; exact Heap.lt_size e
  | frz ob u => obtain ⟨e, _⟩ := x; exact Heap.lt_size e
  | tbl ps => exact Heap.lt_size (show h.get? a = some _ from x)
  | met f y => exact Heap.lt_size (show h.get? a = some _ from x)
  | ext φ => obtain ⟨_, ⟨_, e⟩, _⟩ := x; exact Heap.lt_size e
theorem Paired.mapP {α β : Type} {F G : α -> β -> Prop} : ∀ {l₁ : List α} {l₂ : List β}, Paired F l₁ l₂ -> (∀ a b, F a b -> G a b) -> Paired G l₁ l₂
  | _, _, .nil, _ => .nil
  | _, _, .cons r t, f => .cons (f _ _ r) (Paired.mapP t f)
theorem ObjOk.stay (x : ObjOk P w H h a o) (k : ∀ b u, (b = a \/ H b = some (.own a)) -> h.get? b = some u -> h'.get? b = some u)
    (ho : ∀ b, H b = some (.own a) -> H' b = some (.own a)) (ht : ∀ b xs, H b = some (.tup xs) -> H' b = some (.tup xs)) : ObjOk P w H' h' a o := by
  induction o with
  | lst xs => obtain ⟨z, its, n, r, e⟩ := x; exact ⟨z, its, n, r, k _ _ (.inl rfl) e⟩
  | tup xs => obtain ⟨z, its, r, ob, e, c⟩ := x; exact ⟨z, its, r, ob, k _ _ (.inl rfl) e, c⟩
  | dK kvs => obtain ⟨z, y, vs, r, ob, es, ep, e, c⟩ := x; exact ⟨z, y, vs, r, ob, es, ep, k _ _ (.inl rfl) e, c⟩
  | dT kvs =>
    obtain ⟨z, y, xs, r, ob, es, ep, e, c⟩ := x
    exact ⟨z, y, xs, Paired.mapP r fun p q z => ⟨z.1, ht _ _ z.2.1, z.2.2⟩, ob, es, ep, k _ _ (.inl rfl) e, c⟩
  | set S n => obtain ⟨ob, es, ep, t, e, c⟩ := x; exact ⟨ob, es, ep, t, k _ _ (.inl rfl) e, c⟩
  | ins C dx fs =>
    obtain ⟨d, z, ne, e, mA, ⟨od, es, ep, e2, c⟩, r⟩ := x
    exact ⟨ho _ d, z, ne, k _ _ (.inl rfl) e, mA, ⟨od, es, ep, k _ _ (.inr d) e2, c⟩, r⟩
  | own y => obtain ⟨ob, e⟩ := x; exact ⟨ob, k _ _ (.inl rfl) e⟩
  | xd fs => obtain ⟨mA, ⟨od, es, ep, e, c⟩, r⟩ := x; exact ⟨mA, ⟨od, es, ep, k _ _ (.inl rfl) e, c⟩, r⟩
  | rng lo hi => obtain ⟨t, u, v, e⟩ := x; exact ⟨t, u, v, k _ _ (.inl rfl) e⟩
  | frz ob u ih => obtain ⟨e, q⟩ := x; exact ⟨k _ _ (.inl rfl) e, ih q⟩
  | tbl ps =>
    have e : h.get? a = some { cls := .none, data := .fields ps } := x
    show h'.get? a = some { cls := .none, data := .fields ps }
    exact k a _ (.inl rfl) e
  | met f y =>
    have e : h.get? a = some (PySem.W.methodObj (.ref f) (.ref y)) := x
    show h'.get? a = some (PySem.W.methodObj (.ref f) (.ref y))
    exact k a _ (.inl rfl) e
  | ext φ => obtain ⟨p, ⟨o, e⟩, st⟩ := x; exact ⟨st _ _ p fun o q => k _ _ (.inl rfl) q, ⟨o, k _ _ (.inl rfl) e⟩, st⟩
theorem HOk.lt (x : HOk P w H h) (e : H a = some o) : a < h.objs.size := (x a o e).lt
theorem HOk.fresh (x : HOk P w H h) (e : h.objs.size <= a) : H a = none := by
  cases q : H a with
  | none => rfl
  | some u => exact absurd (Nat.lt_of_lt_of_le (x.lt q) e) (Nat.lt_irrefl _)
theorem HOk.kept (x : HOk P w H h) (k : ∀ b u, h.get? b = some u -> h'.get? b = some u) : HOk P w H h' := fun a o e =>
  (x a o e).stay (fun b u _ q => k b u q) (fun _ q => q) fun _ _ q => q
theorem HOk.laid (x : HOk P w H h) (k : ∀ b u, h.get? b = some u -> h'.get? b = some u) (hp : h.objs.size <= a) (new : ObjOk P w (upd H a o) h' a o) : HOk P w (upd H a o) h' := fun b u e => by
  have hn := x.fresh hp
  by_cases hb : b = a
  . subst hb; rw [z06] at e; cases e; exact new
  . rw [z04 hb] at e
    exact (x b u e).stay (fun c v _ q => k c v q) (fun c q => by rw [z04 (z08 q hn)]; exact q) fun c xs q => by rw [z04 (z08 q hn)]; exact q
end
def Rd (H : Hp) (a : Addr) (u : HO) : Prop := H a = some u \/ ∃ o, H a = some (.frz o u)
theorem Rd.of {H : Hp} {a : Addr} {u : HO} (h : H a = some u) : Rd H a u := .inl h
theorem Rd.ok {P : Program} {w : World} {H : Hp} {h : Heap} {a : Addr} {u : HO} (r : Rd H a u) (x : HOk P w H h) : ObjOk P w H h a u := by
  rcases r with r | ⟨o, r⟩
  . exact x a u r
  . obtain ⟨_, q⟩ := x a _ r
    exact q
def Mut : Option HO -> Prop
  | some (.lst _) => True
  | some (.dK _) => True
  | some (.dT _) => True
  | some (.set _ _) => True
  | some (.ins _ _ _) => True
  | some (.ext _) => True
  | _ => False
section
variable {P : Program} {w : World} {H : Hp} {h h' : Heap} {x e : Addr} {o' : HO}
theorem HOk.write (ok : HOk P w H h) (mu : Mut (H x)) (he : e = x \/ H e = some (.own x)) (k : ∀ b u, b ≠ e -> h.get? b = some u -> h'.get? b = some u) (heo : ∃ u, h'.get? e = some u)
    (new : ObjOk P w (upd H x o') h' x o') : HOk P w (upd H x o') h' := fun b u q => by
  have nown : ∀ c y, H c = some (.own y) -> c ≠ x := fun c y r z => by subst z; rw [r] at mu; exact mu
  have ntup : ∀ c xs, H c = some (.tup xs) -> c ≠ x := fun c xs r z => by subst z; rw [r] at mu; exact mu
  by_cases hb : b = x
  . subst hb; rw [z06] at q; cases q; exact new
  . rw [z04 hb] at q
    by_cases hbe : b = e
    . have q' : H b = some (.own x) := by
        rcases he with z | z
        . exact absurd (hbe.trans z) hb
        . rw [hbe]; exact z
      rw [q] at q'; cases q'
      obtain ⟨v, hv⟩ := heo
      exact ⟨v, by rw [hbe]; exact hv⟩
    . refine (ok b u q).stay (fun c v hc r => k c v ?_ r) (fun c r => by rw [z04 (nown c b r)]; exact r) fun c xs r => by rw [z04 (ntup c xs r)]; exact r
      rcases hc with rfl | hc
      . exact hbe
      . rintro rfl
        rcases he with z | z
        . exact nown c b hc z
        . rw [hc] at z; cases z; exact hb rfl
end
structure Un (fs ex : List Addr) (H H' : Hp) (h h' : Heap) : Prop where
  keep : ∀ b o, h.get? b = some o -> H b = none -> b ∉ fs -> b ∉ ex -> h'.get? b = some o
  slot : ∀ b o, h.get? b = some o -> H b = none -> b ∈ fs -> b ∉ ex -> ∃ sl, h'.get? b = some { o with slots := sl }
  free : ∀ b o, h.get? b = some o -> H b = none -> b ∉ ex -> H' b = none
  there : ∀ b o, h.get? b = some o -> b ∉ ex -> ∃ o', h'.get? b = some o'
  tups : ∀ b xs, H b = some (.tup xs) -> H' b = some (.tup xs)
  frzs : ∀ b o u, H b = some (.frz o u) -> H' b = some (.frz o u)
  tbls : ∀ b ps, H b = some (.tbl ps) -> ∃ more, H' b = some (.tbl (ps ++ more))
section
variable {fs fs' ex ex' : List Addr} {H H1 H2 : Hp} {h h1 h2 h' : Heap} {a x e : Addr} {o : HO}
theorem Un.any (u : Un fs ex H H1 h h1) {b : Addr} {ob : Obj} (q : h.get? b = some ob) (n : H b = none) (hx : b ∉ ex) : ∃ sl, h1.get? b = some { ob with slots := sl } := by
  by_cases hb : b ∈ fs
  . exact u.slot b ob q n hb hx
  . exact ⟨ob.slots, u.keep b ob q n hb hx⟩
theorem Un.trans (a : Un fs ex H H1 h h1) (b : Un fs ex H1 H2 h1 h2) : Un fs ex H H2 h h2 where
  keep := fun c ob q n hc hx => b.keep c ob (a.keep c ob q n hc hx) (a.free c ob q n hx) hc hx
  slot := fun c ob q n hc hx => by
    obtain ⟨sl, e1⟩ := a.slot c ob q n hc hx
    obtain ⟨sl', e2⟩ := b.slot c _ e1 (a.free c ob q n hx) hc hx
    exact ⟨sl', e2⟩
  free := fun c ob q n hx => by
    obtain ⟨o', e1⟩ := a.there c ob q hx
    exact b.free c o' e1 (a.free c ob q n hx) hx
  there := fun c ob q hx => by
    obtain ⟨o', e1⟩ := a.there c ob q hx
    exact b.there c o' e1 hx
  tups := fun c xs q => b.tups c xs (a.tups c xs q)
  frzs := fun c ob xs q => b.frzs c ob xs (a.frzs c ob xs q)
  tbls := fun c ps q => by
    obtain ⟨m1, e1⟩ := a.tbls c ps q
    obtain ⟨m2, e2⟩ := b.tbls c _ e1
    exact ⟨m1 ++ m2, by rw [e2, Array.append_assoc]⟩
theorem Un.kept (k : ∀ b u, h.get? b = some u -> h'.get? b = some u) : Un fs ex H H h h' :=
  ⟨fun b ob q _ _ _ => k b ob q, fun b ob q _ _ _ => ⟨ob.slots, k b ob q⟩, fun _ _ _ n _ => n, fun b ob q _ => ⟨ob, k b ob q⟩, fun _ _ q => q, fun _ _ _ q => q, fun _ ps q => ⟨#[], by rw [q]; simp⟩⟩
theorem Un.refl : Un fs ex H H h h := Un.kept fun _ _ q => q
theorem Un.laid (k : ∀ b u, h.get? b = some u -> h'.get? b = some u) (hp : h.objs.size <= a) (hn : H a = none) : Un fs ex H (upd H a o) h h' where
  keep := fun b u q _ _ _ => k b u q
  slot := fun b u q _ _ _ => ⟨u.slots, k b u q⟩
  free := fun b u q n _ => by rw [z04 (Nat.ne_of_lt (Nat.lt_of_lt_of_le (Heap.lt_size q) hp))]; exact n
  there := fun b u q _ => ⟨u, k b u q⟩
  tups := fun b xs q => by rw [z04 (z08 q hn)]; exact q
  frzs := fun b u xs q => by rw [z04 (z08 q hn)]; exact q
  tbls := fun b ps q => ⟨#[], by rw [z04 (z08 q hn), q]; simp⟩
theorem Un.write (mu : Mut (H x)) (he : e = x \/ H e = some (.own x)) (k : ∀ b u, b ≠ e -> h.get? b = some u -> h'.get? b = some u) (heo : ∃ u, h'.get? e = some u) : Un fs ex H (upd H x o) h h' := by
  have hx : ∀ b, H b = none -> b ≠ x := fun b n z => by subst z; rw [n] at mu; exact mu
  have hb : ∀ b, H b = none -> b ≠ e := fun b n z => by
    subst z
    rcases he with r | r
    . exact hx b n r
    . rw [n] at r; cases r
  have hm : ∀ b u, H b = some u -> ¬ Mut (some u) -> b ≠ x := fun b u q nm z => by subst z; rw [q] at mu; exact nm mu
  refine ⟨fun b u q n _ _ => k b u (hb b n) q, fun b u q n _ _ => ⟨u.slots, k b u (hb b n) q⟩, fun b u q n _ => by rw [z04 (hx b n)]; exact n, fun b u q _ => ?_,
    fun b xs q => by rw [z04 (hm b _ q fun z => z)]; exact q, fun b u xs q => by rw [z04 (hm b _ q fun z => z)]; exact q, fun b ps q => ⟨#[], by rw [z04 (hm b _ q fun z => z), q]; simp⟩⟩
  by_cases hbe : b = e
  . subst hbe; exact heo
  . exact ⟨u, k b u hbe q⟩
theorem Un.mono (u : Un fs ex H H1 h h1) (hs : ∀ b ∈ fs, b ∈ fs') (hx : ∀ b ∈ ex, b ∈ ex') : Un fs' ex' H H1 h h1 :=
  ⟨fun b ob q n hb he => u.keep b ob q n (fun z => hb (hs b z)) fun z => he (hx b z), fun _ _ q n _ he => u.any q n fun z => he (hx _ z), fun b ob q n he => u.free b ob q n fun z => he (hx b z), fun b ob q he => u.there b ob q fun z => he (hx b z), u.tups, u.frzs, u.tbls⟩
end
def trk (h : Heap) (H : Hp) : List Addr := (List.range h.objs.size).filter fun a => (H a).isSome
def z1z (h : Heap) (H : Hp) : Heap := PySem.W.hideAll h (trk h H)
theorem z1c (h : Heap) (H : Hp) : (z1z h H).objs.size = h.objs.size := PySem.W.hideAll_size _ _
theorem z2E {h : Heap} {H : Hp} {b : Addr} {o : Obj} (e : h.get? b = some o) (n : H b = none) : (z1z h H).get? b = some o :=
  PySem.W.hideAll_get _ e fun hm => by
    have q : (H b).isSome = true := (List.mem_filter.mp hm).2
    rw [n] at q; simp at q
theorem z2h {h : Heap} {H : Hp} {b : Addr} {o : Obj} (e : (z1z h H).get? b = some o) : h.get? b = some o /\ H b = none := by
  have e' : h.get? b = some o := PySem.W.of_hideAll (trk h H) e
  refine ⟨e', ?_⟩
  cases q : H b with
  | none => rfl
  | some x =>
    have hm : b ∈ trk h H := List.mem_filter.mpr ⟨List.mem_range.mpr (Heap.lt_size e'), by simp [q]⟩
    have z : (z1z h H).get? b = none := PySem.W.hideAll_none (trk h H) hm
    rw [z] at e; cases e
def z45 (g h : Heap) (L : Addr) : List (Addr × Obj) := (List.range h.objs.size).filterMap fun a => if a = L \/ (g.get? a).isSome = true then none else (h.get? a).map fun o => (a, o)
def rest (g h : Heap) (L d : Addr) : List (Addr × Obj) := (z45 g h L).filter fun p => decide (p.1 ≠ d)
structure Mod (K : PySem.W.Frag) (mg : Str -> Option Value) (base : Heap) : Prop where
  kin : K.In base
  glob : base.Ns mainGlobals mg
  blt : ∃ mb, base.Ns builtinsNs mb /\ ∀ x : Str, x ≠ "__name__" -> mb x = bootBuiltins x
  nolimit : base.NoLimit
structure Cx where
  prog : Program
  w : World
  K : PySem.W.Frag
  mg : Str -> Option Value
  base : Heap
  A : Around
  N : List Str
  s₀ : Shared
  H₀ : Hp
  env : Env
  outer : List Env
  stack : List Env
  ex : List Addr
  fn : Str -> Bool
  calm : Bool
  pn : List (Addr × Obj)
  xe : Value -> Shared -> Prop
def frs (l : List Env) : List Addr := l.filterMap (·.frame)
abbrev Cx.fs (X : Cx) : List Addr := frs X.outer
def Vis (sc : Scope) (x : Str) : Prop := sc.names.lookup x = some .local \/ sc.names.lookup x = some .cell \/ sc.names.lookup x = some .free
def Loc (sc : Scope) (x : Str) : Prop := sc.names.lookup x = some .local \/ sc.names.lookup x = some .cell
def Look (env : Env) (h : Heap) (m : Str -> Option Value) (x : Str) (u : Value) : Prop :=
  (env.kindOf x = some .local /\ m x = some u) \/ ((env.kindOf x = some .cell \/ env.kindOf x = some .free) /\ ∃ c, env.cells.lookup x = some c /\ h.IsCell c (some u))
structure Cx.Ok (X : Cx) : Prop where
  mod : Mod X.K X.mg X.base
  kind : X.env.scope.kind = .function
  glob : X.env.globals = mainGlobals
  blt : X.env.builtins = builtinsNs
  above : X.s₀.heap.objs.size <= X.env.locals
  inj : ∀ x y c, X.env.cells.lookup x = some c -> X.env.cells.lookup y = some c -> x = y
  has : ∀ x, (X.env.kindOf x = some .cell \/ X.env.kindOf x = some .free) -> ∃ c, X.env.cells.lookup x = some c
  cab : ∀ x c, X.fn x = true -> X.env.cells.lookup x = some c -> X.s₀.heap.objs.size <= c
  hd : X.calm = true -> X.A.handled = none
  frames : X.A.frames = some X.stack
  stk : X.stack = X.outer \/ (X.stack = X.env :: X.outer /\ X.env.frame = some X.env.locals)
  exf : ∀ b ∈ X.ex, b ≠ X.env.locals /\ ∀ x c, X.env.cells.lookup x = some c -> c ≠ b
  bs : ∀ b o, X.base.get? b = some o -> X.s₀.heap.get? b = some o /\ X.H₀ b = none
  bsz : X.base.objs.size <= X.s₀.heap.objs.size
  noex : ∀ b o, X.base.get? b = some o -> b ∉ X.ex
  exfs : ∀ b ∈ X.ex, b ∉ X.fs
  funs : X.s₀.heap.FunFrames X.base X.outer
  frf : ∀ b ∈ X.fs, X.H₀ b = none
structure Inv (X : Cx) (pins : List (Addr × Obj)) (σ : List (Option V)) (H : Hp) (s : Shared) : Prop where
  ok : X.Ok
  os : s.os = X.s₀.os
  bare : AllBare s.gens
  base : Un X.fs X.ex X.H₀ H X.s₀.heap s.heap
  loc : ∃ m, s.heap.Ns X.env.locals m /\ ∀ (i : Nat) (x : Str) (v : V), X.N[i]? = some x -> σ[i]? = some (some v) -> Vis X.env.scope x -> ∃ u, RelV v u /\ Look X.env s.heap m x u
  cell : ∀ x c, X.env.cells.lookup x = some c -> ∃ v, s.heap.IsCell c v
  free : H X.env.locals = none
  freeC : ∀ x c, X.env.cells.lookup x = some c -> H c = none
  pin : ∀ p ∈ X.pn ++ pins, s.heap.get? p.1 = some p.2 /\ H p.1 = none /\ p.1 ≠ X.env.locals /\ p.1 ∉ X.fs /\ ∀ v, p.2.data ≠ .cell v
  hok : HOk X.prog X.w H s.heap
  len : σ.length = X.N.length
section
variable {X : Cx} {pins : List (Addr × Obj)} {σ : List (Option V)} {H H' : Hp} {s : Shared} {h' : Heap}
theorem Cx.Ok.nofr (ok : X.Ok) {b : Addr} {o : Obj} (e : X.base.get? b = some o) : b ∉ X.fs := fun hb => by
  have := (ok.funs.mem hb).1
  rw [e] at this; cases this
theorem Inv.bs (I : Inv X pins σ H s) : ∀ b o, X.base.get? b = some o -> s.heap.get? b = some o /\ H b = none := fun b o e =>
  ⟨I.base.keep b o (I.ok.bs b o e).1 (I.ok.bs b o e).2 (I.ok.nofr e) (I.ok.noex b o e), I.base.free b o (I.ok.bs b o e).1 (I.ok.bs b o e).2 (I.ok.noex b o e)⟩
theorem Inv.bk (I : Inv X pins σ H s) : ∀ b o, X.base.get? b = some o -> s.heap.get? b = some o := fun b o e => (I.bs b o e).1
theorem Inv.mod (I : Inv X pins σ H s) : Mod X.K X.mg X.base := I.ok.mod
theorem Inv.kIn (I : Inv X pins σ H s) : X.K.In s.heap := I.ok.mod.kin.keeps I.bk
theorem Inv.nolimit (I : Inv X pins σ H s) : s.heap.NoLimit := I.ok.mod.nolimit.keeps I.bk
theorem Inv.fr (I : Inv X pins σ H s) : ∃ m, Fr X.base X.env.locals s.heap m :=
  let ⟨m, hn, _⟩ := I.loc
  ⟨m, hn, I.bk, Nat.le_trans I.ok.bsz I.ok.above⟩
theorem Inv.lt (I : Inv X pins σ H s) : X.env.locals < s.heap.objs.size := let ⟨_, hn, _⟩ := I.loc; hn.lt
theorem Inv.sz (I : Inv X pins σ H s) : X.s₀.heap.objs.size <= s.heap.objs.size := Nat.le_trans I.ok.above (Nat.le_of_lt I.lt)
theorem Inv.nofs (I : Inv X pins σ H s) {a : Addr} (h : s.heap.objs.size <= a) : a ∉ X.fs := fun hb => by
  obtain ⟨_, o, ho, _⟩ := I.ok.funs.mem hb
  exact absurd (Nat.lt_of_lt_of_le (Heap.lt_size ho) (Nat.le_trans I.sz h)) (Nat.lt_irrefl _)
theorem Inv.cne (I : Inv X pins σ H s) : ∀ x c, X.env.cells.lookup x = some c -> c ≠ X.env.locals := fun x c e z => by
  obtain ⟨v, o, ho, hd⟩ := I.cell x c e
  obtain ⟨m, ⟨o', es, ep, ho', hd', _⟩, _⟩ := I.loc
  rw [z, ho'] at ho; cases ho; rw [hd'] at hd; cases hd
theorem Inv.funs (I : Inv X pins σ H s) : s.heap.FunFrames X.base X.outer := by
  have all : ∀ (l : List Env), (∀ b ∈ frs l, b ∈ X.fs) -> X.s₀.heap.FunFrames X.base l -> s.heap.FunFrames X.base l := by
    intro l
    induction l with
    | nil => intro _ _; trivial
    | cons env r ih =>
      intro hs hl
      obtain ⟨hk, ⟨L, o, hf, hn, ho, hd⟩, hr⟩ := hl
      have hL : L ∈ X.fs := hs L (by unfold frs; rw [List.filterMap_cons, hf]; exact List.mem_cons_self)
      obtain ⟨sl, e⟩ := I.base.slot L o ho (I.ok.frf L hL) hL fun z => I.ok.exfs L z hL
      exact ⟨hk, ⟨L, _, hf, hn, e, hd⟩, ih (fun b hb => hs b (by unfold frs; rw [List.filterMap_cons, hf]; exact List.mem_cons_of_mem _ hb)) hr⟩
  exact all X.outer (fun _ hb => hb) I.ok.funs
theorem Inv.stack (I : Inv X pins σ H s) : s.heap.FunFrames X.base X.stack := by
  rcases I.ok.stk with e | ⟨e, hf⟩
  . rw [e]; exact I.funs
  . rw [e]
    obtain ⟨m, hn, _⟩ := I.loc
    refine .cons (by rw [I.ok.kind]; decide) hf hn ?_ I.funs
    exact Heap.get?_none_of_le (Nat.le_trans I.ok.bsz I.ok.above)
theorem Inv.stkSub (I : Inv X pins σ H s) : ∀ b ∈ frs X.stack, b ∈ X.env.locals :: X.fs := fun b hb => by
  rcases I.ok.stk with e | ⟨e, hf⟩
  . rw [e] at hb; exact List.mem_cons_of_mem _ hb
  . rw [e] at hb
    unfold frs at hb
    rw [List.filterMap_cons, hf] at hb
    exact hb
theorem Inv.stkFree (I : Inv X pins σ H s) : ∀ b ∈ frs X.stack, H b = none := fun b hb => by
  rcases List.mem_cons.mp (I.stkSub b hb) with e | hb
  . rw [e]; exact I.free
  . obtain ⟨_, o, ho, _⟩ := I.ok.funs.mem hb
    exact I.base.free b o ho (I.ok.frf b hb) fun z => I.ok.exfs b z hb
theorem Inv.step {g' : Array GenState} {t' : Nat} {d' : Drawn} {ch : List Addr} (I : Inv X pins σ H s)
    (hch : ∀ b ∈ ch, (b ∈ X.ex \/ X.s₀.heap.objs.size <= b) /\ b ≠ X.env.locals /\ (∀ x c, X.env.cells.lookup x = some c -> c ≠ b) /\ ∀ p ∈ X.pn ++ pins, p.1 ≠ b)
    (keep : ∀ b o, b ≠ X.env.locals -> b ∉ X.fs -> b ∉ ch -> s.heap.get? b = some o -> H b = none -> h'.get? b = some o)
    (slot : ∀ b o, b ≠ X.env.locals -> b ∈ X.fs -> b ∉ ch -> s.heap.get? b = some o -> H b = none -> ∃ sl, h'.get? b = some { o with slots := sl }) (free : ∀ b o, b ∉ ch -> s.heap.get? b = some o -> H b = none -> H' b = none)
    (there : ∀ b o, b ∉ ch -> s.heap.get? b = some o -> ∃ o', h'.get? b = some o')
    (tups : ∀ b xs, H b = some (.tup xs) -> H' b = some (.tup xs)) (frzs : ∀ b o u, H b = some (.frz o u) -> H' b = some (.frz o u)) (tbls : ∀ b ps, H b = some (.tbl ps) -> ∃ more, H' b = some (.tbl (ps ++ more)))
    (ns : ∀ m, s.heap.Ns X.env.locals m -> h'.Ns X.env.locals m) (hok : HOk X.prog X.w H' h') (hg : AllBare g') :
    Inv X pins σ H' { s with heap := h', gens := g', drawn := d', toks := t' } := by
  have neL : ∀ b o, X.s₀.heap.get? b = some o -> b ≠ X.env.locals := fun b o e => Nat.ne_of_lt (Nat.lt_of_lt_of_le (Heap.lt_size e) I.ok.above)
  have neC : ∀ b o, X.s₀.heap.get? b = some o -> b ∉ X.ex -> b ∉ ch := fun b o e hx hb => by
    rcases (hch b hb).1 with z | z
    . exact hx z
    . exact absurd (Nat.lt_of_lt_of_le (Heap.lt_size e) z) (Nat.lt_irrefl _)
  have cellK : ∀ x c, X.env.cells.lookup x = some c -> ∀ v, s.heap.IsCell c v -> h'.IsCell c v := fun x c e v ⟨o, ho, hd⟩ => by
    have nch : c ∉ ch := fun z => (hch c z).2.2.1 x c e rfl
    by_cases hc : c ∈ X.fs
    . obtain ⟨sl, q⟩ := slot c o (I.cne x c e) hc nch ho (I.freeC x c e)
      exact ⟨_, q, hd⟩
    . exact ⟨o, keep c o (I.cne x c e) hc nch ho (I.freeC x c e), hd⟩
  refine ⟨I.ok, I.os, hg, ⟨fun b o e n hb hx => ?_, fun b o e n hb hx => ?_, fun b o e n hx => ?_, fun b o e hx => ?_, fun b xs e => tups b xs (I.base.tups b xs e), fun b o xs e => frzs b o xs (I.base.frzs b o xs e), fun b ps e => ?_⟩, ?_, fun x c e => ?_, ?_, fun x c e => ?_, fun p hp => ?_, hok, I.len⟩
  . exact keep b o (neL b o e) hb (neC b o e hx) (I.base.keep b o e n hb hx) (I.base.free b o e n hx)
  . obtain ⟨sl, e1⟩ := I.base.slot b o e n hb hx
    obtain ⟨sl', e2⟩ := slot b _ (neL b o e) hb (neC b o e hx) e1 (I.base.free b o e n hx)
    exact ⟨sl', e2⟩
  . obtain ⟨o', e1⟩ := I.base.there b o e hx
    exact free b o' (neC b o e hx) e1 (I.base.free b o e n hx)
  . obtain ⟨o', e1⟩ := I.base.there b o e hx
    exact there b o' (neC b o e hx) e1
  . obtain ⟨m1, e1⟩ := I.base.tbls b ps e
    obtain ⟨m2, e2⟩ := tbls b _ e1
    exact ⟨m1 ++ m2, by rw [e2, Array.append_assoc]⟩
  . obtain ⟨m, hn, hl⟩ := I.loc
    refine ⟨m, ns m hn, fun i x v e1 e2 e3 => ?_⟩
    obtain ⟨u, r, l⟩ := hl i x v e1 e2 e3
    refine ⟨u, r, ?_⟩
    rcases l with l | ⟨k, c, e, z⟩
    . exact .inl l
    . exact .inr ⟨k, c, e, cellK x c e _ z⟩
  . obtain ⟨v, z⟩ := I.cell x c e
    exact ⟨v, cellK x c e v z⟩
  . obtain ⟨m, ⟨o, _, _, ho, _⟩, _⟩ := I.loc
    exact free _ o (fun z => (hch _ z).2.1 rfl) ho I.free
  . obtain ⟨v, o, ho, hd⟩ := I.cell x c e
    exact free c o (fun z => (hch c z).2.2.1 x c e rfl) ho (I.freeC x c e)
  . obtain ⟨e, n, ne, nf, d⟩ := I.pin p hp
    have nch : p.1 ∉ ch := fun z => (hch p.1 z).2.2.2 p hp rfl
    exact ⟨keep p.1 p.2 ne nf nch e n, free p.1 p.2 nch e n, ne, nf, d⟩
theorem Inv.un {t' : Nat} (I : Inv X pins σ H s) (u : Un X.fs [] H H' s.heap h') (hok : HOk X.prog X.w H' h') : Inv X pins σ H' { s with heap := h', toks := t' } := by
  obtain ⟨m, ⟨o, es, ep, ho, r⟩, _⟩ := id I.loc
  obtain ⟨sl, hL⟩ := u.any ho I.free (by simp)
  exact I.step (g' := s.gens) (d' := s.drawn) (ch := []) (fun _ z => nomatch z) (fun b o _ hb _ e n => u.keep b o e n hb (by simp)) (fun b o _ hb _ e n => u.slot b o e n hb (by simp)) (fun b o _ e n => u.free b o e n (by simp)) (fun b o _ e => u.there b o e (by simp)) u.tups u.frzs u.tbls (fun m' hm => by
    obtain ⟨o', es', ep', ho', r'⟩ := hm
    rw [ho] at ho'; cases ho'
    exact ⟨_, es', ep', hL, r'⟩) hok I.bare
theorem Inv.call {g' : Array GenState} {t' : Nat} {d' : Drawn} {ch : List Addr} (I : Inv X pins σ H s) (u : Un (frs X.stack) ch H H' s.heap h') (hok : HOk X.prog X.w H' h') (hg : AllBare g')
    (hch : ∀ b ∈ ch, (b ∈ X.ex \/ X.s₀.heap.objs.size <= b) /\ b ≠ X.env.locals /\ (∀ x c, X.env.cells.lookup x = some c -> c ≠ b) /\ ∀ p ∈ X.pn ++ pins, p.1 ≠ b) :
    Inv X pins σ H' { s with heap := h', gens := g', drawn := d', toks := t' } := by
  obtain ⟨m, ⟨o, es, ep, ho, r⟩, _⟩ := id I.loc
  obtain ⟨sl, hL⟩ := u.any ho I.free fun z => (hch _ z).2.1 rfl
  exact I.step (ch := ch) hch (fun b o hL hb hc e n => u.keep b o e n (fun z => (List.mem_cons.mp (I.stkSub b z)).elim hL hb) hc) (fun b o _ _ hc e n => u.any e n hc) (fun b o hc e n => u.free b o e n hc) (fun b o hc e => u.there b o e hc) u.tups u.frzs u.tbls (fun m' hm => by
    obtain ⟨o', es', ep', ho', r'⟩ := hm
    rw [ho] at ho'; cases ho'
    exact ⟨_, es', ep', hL, r'⟩) hok hg
theorem Inv.turned {t' : Nat} {it : Addr} (I : Inv X pins σ H s) (k : ∀ b o, b ≠ it -> s.heap.get? b = some o -> h'.get? b = some o) (hn : H it = none) (hL : it ≠ X.env.locals)
    (h1 : it ∈ X.ex \/ X.s₀.heap.objs.size <= it) (h2 : ∀ x c, X.env.cells.lookup x = some c -> c ≠ it) (h3 : ∀ p ∈ X.pn ++ pins, p.1 ≠ it) : Inv X pins σ H { s with heap := h', toks := t' } := by
  have nit : ∀ b u, H b = some u -> b ≠ it := fun b u e z => by rw [z, hn] at e; cases e
  refine I.step (g' := s.gens) (d' := s.drawn) (ch := [it]) (fun b hb => ?_) (fun b o _ _ hc e _ => k b o (fun z => hc (by simp [z])) e) (fun b o _ _ hc e _ => ⟨o.slots, k b o (fun z => hc (by simp [z])) e⟩) (fun _ _ _ _ n => n)
    (fun b o hc e => ⟨o, k b o (fun z => hc (by simp [z])) e⟩) (fun _ _ e => e) (fun _ _ _ e => e) (fun b ps e => ⟨#[], by rw [e]; simp⟩) (fun m hm => ?_) (fun b u e => ?_) I.bare
  . have e : b = it := by simpa using hb
    subst e
    exact ⟨h1, hL, h2, h3⟩
  . obtain ⟨o, es, ep, ho, r⟩ := hm
    exact ⟨o, es, ep, k _ o (Ne.symm hL) ho, r⟩
  . refine (I.hok b u e).stay (fun c v hc q => k c v ?_ q) (fun _ q => q) fun _ _ q => q
    rcases hc with z | z
    . rw [z]; exact nit b u e
    . exact nit c _ z
theorem Inv.tok (I : Inv X pins σ H s) (t : Nat) : Inv X pins σ H { s with toks := t } := I.un (h' := s.heap) (t' := t) Un.refl I.hok
theorem Inv.kept {t' : Nat} (I : Inv X pins σ H s) (k : ∀ b u, s.heap.get? b = some u -> h'.get? b = some u) : Inv X pins σ H { s with heap := h', toks := t' } := I.un (Un.kept k) (I.hok.kept k)
theorem Inv.laid {a : Addr} {o : HO} {t' : Nat} (I : Inv X pins σ H s) (k : ∀ b u, s.heap.get? b = some u -> h'.get? b = some u) (hp : s.heap.objs.size <= a) (new : ObjOk X.prog X.w (upd H a o) h' a o) :
    Inv X pins σ (upd H a o) { s with heap := h', toks := t' } := I.un (Un.laid k hp (I.hok.fresh hp)) (I.hok.laid k hp new)
theorem Inv.write {x e : Addr} {o : HO} {t' : Nat} (I : Inv X pins σ H s) (mu : Mut (H x)) (he : e = x \/ H e = some (.own x)) (k : ∀ b u, b ≠ e -> s.heap.get? b = some u -> h'.get? b = some u) (heo : ∃ u, h'.get? e = some u)
    (new : ObjOk X.prog X.w (upd H x o) h' x o) : Inv X pins σ (upd H x o) { s with heap := h', toks := t' } := I.un (Un.write mu he k heo) (I.hok.write mu he k heo new)
theorem Inv.pins_of {pins' : List (Addr × Obj)} (I : Inv X pins σ H s) (h : ∀ p ∈ pins', s.heap.get? p.1 = some p.2 /\ H p.1 = none /\ p.1 ≠ X.env.locals /\ p.1 ∉ X.fs /\ ∀ v, p.2.data ≠ .cell v) : Inv X pins' σ H s :=
  ⟨I.ok, I.os, I.bare, I.base, I.loc, I.cell, I.free, I.freeC, fun p hp => (List.mem_append.mp hp).elim (fun z => I.pin p (List.mem_append_left _ z)) (h p), I.hok, I.len⟩
theorem z2F {N : List Str} (hN : N.Nodup) {i j : Nat} {x : Str} (a : N[i]? = some x) (b : N[j]? = some x) : i = j := by
  obtain ⟨h1, e1⟩ := List.getElem?_eq_some_iff.mp a
  obtain ⟨h2, e2⟩ := List.getElem?_eq_some_iff.mp b
  exact (List.getElem_inj hN).mp (e1.trans e2.symm)
theorem z1d {M : Model} {A : Around} {E : Value -> Shared -> Prop} {i : Nat} {x : Str} {v : V} {u : Value} {Q : Unit -> Shared -> Prop} (I : Inv X pins σ H s) (hN : X.N.Nodup) (hi : X.N[i]? = some x) (hx : Loc X.env.scope x) (r : RelV v u)
    (h : ∀ s', Inv X pins (σ.set i (some v)) H s' -> (∃ a, Heap.SameBut a s.heap s'.heap /\ (a = X.env.locals \/ X.env.cells.lookup x = some a)) -> Q () s') (hf : X.fn x = true \/ X.env.scope.names.lookup x = some .local := by first | exact .inl rfl | exact .inr rfl | assumption) : wpAny M A (storeName X.env x u) Q E s := by
  obtain ⟨m, hn, hl⟩ := id I.loc
  have hcls : (X.env.scope.kind == .class || (X.env.scope.kind == .module && X.env.locals != X.env.globals)) = false := by rw [I.ok.kind]; rfl
  have hiσ : i < σ.length := by rw [I.len]; exact (List.getElem?_eq_some_iff.mp hi).1
  have cne := I.cne
  have tracked : ∀ {a : Addr} {h' : Heap}, (∃ o, s.heap.get? a = some o /\ H a = none) -> Heap.SameBut a s.heap h' -> HOk X.prog X.w H h' := fun {a h'} ha hs b ob e => by
    obtain ⟨_, _, hfree⟩ := ha
    refine (I.hok b ob e).stay (fun c w' hc q => (hs.2 c ?_).trans q) (fun _ q => q) fun _ _ q => q
    rintro rfl
    rcases hc with rfl | hc
    . rw [hfree] at e; cases e
    . rw [hfree] at hc; cases hc
  rcases hx with hk | hk
  . refine wpAny_storeName_local hk hn (fun h' hn' hs => ?_) hcls
    obtain ⟨oL, _, _, hoL, _⟩ := id hn
    refine h _ ⟨I.ok, I.os, I.bare, ⟨fun b o e n hb hx => ?_, fun b o e n hb hx => ?_, I.base.free, fun b o e hx => ?_, I.base.tups, I.base.frzs, I.base.tbls⟩, ⟨_, hn', fun j y v' e1 e2 e3 => ?_⟩, fun y c e => ?_, I.free, I.freeC, fun p hp => ?_, tracked ⟨oL, hoL, I.free⟩ hs, by simpa using I.len⟩ ⟨_, hs, .inl rfl⟩
    . exact (hs.2 b (Nat.ne_of_lt (Nat.lt_of_lt_of_le (Heap.lt_size e) I.ok.above))).trans (I.base.keep b o e n hb hx)
    . obtain ⟨sl, e1⟩ := I.base.slot b o e n hb hx
      exact ⟨sl, (hs.2 b (Nat.ne_of_lt (Nat.lt_of_lt_of_le (Heap.lt_size e) I.ok.above))).trans e1⟩
    . obtain ⟨o', e1⟩ := I.base.there b o e hx
      exact ⟨o', (hs.2 b (Nat.ne_of_lt (Nat.lt_of_lt_of_le (Heap.lt_size e) I.ok.above))).trans e1⟩
    . by_cases hj : j = i
      . subst hj
        rw [hi] at e1; cases e1
        rw [List.getElem?_set_self hiσ] at e2
        cases e2
        exact ⟨u, r, .inl ⟨hk, by simp⟩⟩
      . rw [List.getElem?_set_ne (Ne.symm hj)] at e2
        obtain ⟨u', r', q⟩ := hl j y v' e1 e2 e3
        refine ⟨u', r', ?_⟩
        rcases q with ⟨k, e⟩ | ⟨k, c, e, z⟩
        . refine .inl ⟨k, ?_⟩
          have : y ≠ x := fun e => hj (z2F hN e1 (e ▸ hi))
          simp [this, e]
        . exact .inr ⟨k, c, e, z.sameBut hs (cne y c e)⟩
    . obtain ⟨w', z⟩ := I.cell y c e
      exact ⟨w', z.sameBut hs (cne y c e)⟩
    . obtain ⟨e, n, ne, nf, d⟩ := I.pin p hp
      exact ⟨(hs.2 p.1 ne).trans e, n, ne, nf, d⟩
  . have hfn : X.fn x = true := by
      rcases hf with z | z
      . exact z
      . rw [z] at hk; cases hk
    obtain ⟨c, hc⟩ := I.ok.has x (.inl hk)
    obtain ⟨w', z⟩ := I.cell x c hc
    refine wpAny_storeName_cell I.ok.kind hk hc z (fun h' hc' hs => ?_)
    obtain ⟨oc, hoc, hocd⟩ := id z
    refine h { s with heap := h' } ⟨I.ok, I.os, I.bare, ⟨fun b o e n hb hx => ?_, fun b o e n hb hx => ?_, I.base.free, fun b o e hx => ?_, I.base.tups, I.base.frzs, I.base.tbls⟩, ⟨m, hn.sameBut hs (Ne.symm (cne x c hc)), fun j y v' e1 e2 e3 => ?_⟩, fun y c' e => ?_, I.free, I.freeC, fun p hp => ?_, tracked ⟨oc, hoc, I.freeC x c hc⟩ hs, by simpa using I.len⟩ ⟨c, hs, .inr hc⟩
    . exact (hs.2 b (Nat.ne_of_lt (Nat.lt_of_lt_of_le (Heap.lt_size e) (I.ok.cab x c hfn hc)))).trans (I.base.keep b o e n hb hx)
    . obtain ⟨sl, e1⟩ := I.base.slot b o e n hb hx
      exact ⟨sl, (hs.2 b (Nat.ne_of_lt (Nat.lt_of_lt_of_le (Heap.lt_size e) (I.ok.cab x c hfn hc)))).trans e1⟩
    . obtain ⟨o', e1⟩ := I.base.there b o e hx
      exact ⟨o', (hs.2 b (Nat.ne_of_lt (Nat.lt_of_lt_of_le (Heap.lt_size e) (I.ok.cab x c hfn hc)))).trans e1⟩
    . by_cases hj : j = i
      . subst hj
        rw [hi] at e1; cases e1
        rw [List.getElem?_set_self hiσ] at e2
        cases e2
        exact ⟨u, r, .inr ⟨.inl hk, c, hc, hc'⟩⟩
      . rw [List.getElem?_set_ne (Ne.symm hj)] at e2
        obtain ⟨u', r', q⟩ := hl j y v' e1 e2 e3
        refine ⟨u', r', ?_⟩
        rcases q with q | ⟨k, c', e, z'⟩
        . exact .inl q
        . refine .inr ⟨k, c', e, z'.sameBut hs ?_⟩
          rintro rfl
          exact hj (z2F hN e1 (I.ok.inj _ _ _ e hc ▸ hi))
    . by_cases hcc : c' = c
      . subst hcc; exact ⟨_, hc'⟩
      . obtain ⟨w2, z2⟩ := I.cell y c' e
        exact ⟨w2, z2.sameBut hs hcc⟩
    . obtain ⟨e, n, ne, nf, d⟩ := I.pin p hp
      refine ⟨(hs.2 p.1 ?_).trans e, n, ne, nf, d⟩
      intro q
      rw [q, hoc] at e
      have q' : oc = p.2 := Option.some.inj e
      exact d w' (by rw [<- q']; exact hocd)
theorem z2G {M : Model} {A : Around} {E : Value -> Shared -> Prop} {i : Nat} {x : Str} {v : V} {u : Value} {Q : Unit -> Shared -> Prop} (I : Inv X pins σ H s) (hN : X.N.Nodup) (hi : X.N[i]? = some x) (hx : Loc X.env.scope x) (r : RelV v u)
    (h : ∀ s', Inv X pins (σ.set i (some v)) H s' -> Q () s') (hf : X.fn x = true \/ X.env.scope.names.lookup x = some .local := by first | exact .inl rfl | exact .inr rfl | assumption) : wpAny M A (storeName X.env x u) Q E s :=
  z1d I hN hi hx r (fun s' I' _ => h s' I') hf
theorem Inv.call' {s' : Shared} {ch : List Addr} (I : Inv X pins σ H s) (ho : s'.os = s.os) (u : Un (frs X.stack) ch H H' s.heap s'.heap) (hok : HOk X.prog X.w H' s'.heap) (hg : AllBare s'.gens)
    (hch : ∀ b ∈ ch, (b ∈ X.ex \/ X.s₀.heap.objs.size <= b) /\ b ≠ X.env.locals /\ (∀ x c, X.env.cells.lookup x = some c -> c ≠ b) /\ ∀ p ∈ X.pn ++ pins, p.1 ≠ b) : Inv X pins σ H' s' := by
  obtain ⟨h', g', d', t', o'⟩ := s'
  have e : o' = s.os := ho
  subst e
  exact I.call (g' := g') (t' := t') (d' := d') u hok hg hch
end
abbrev XK := Value -> Option Addr -> Hp -> Prop
abbrev St := List (Option V)
abbrev VK := V -> Hp -> Prop
abbrev TE := St -> Hp -> VK -> Prop
abbrev TT := St -> Hp -> (Bool -> Hp -> Prop) -> Prop
abbrev TA := St -> Hp -> (List V -> Hp -> Prop) -> Prop
structure Ends where
  nx : St -> Hp -> Prop
  rt : VK
  bk : St -> Hp -> Prop := fun _ _ => False
  ct : St -> Hp -> Prop := fun _ _ => False
abbrev TS := Ends -> St -> Hp -> Prop
def EP (X : Cx) (pins : List (Addr × Obj)) (σ : St) (Q : VK) (u : Value) (s' : Shared) : Prop := ∃ v H', Inv X pins σ H' s' /\ RelV v u /\ Q v H'
def TP (X : Cx) (pins : List (Addr × Obj)) (σ : St) (Q : Bool -> Hp -> Prop) (b : Bool) (s' : Shared) : Prop := ∃ H', Inv X pins σ H' s' /\ Q b H'
def AP (X : Cx) (pins : List (Addr × Obj)) (σ : St) (Q : List V -> Hp -> Prop) (us : List Value) (s' : Shared) : Prop := ∃ vs H', Inv X pins σ H' s' /\ Vals vs us /\ Q vs H'
def SP (X : Cx) (pins : List (Addr × Obj)) (D : Ends) (f : Flow) (s' : Shared) : Prop :=
  match f with
  | .next => ∃ σ' H', Inv X pins σ' H' s' /\ D.nx σ' H'
  | .brk => ∃ σ' H', Inv X pins σ' H' s' /\ D.bk σ' H'
  | .cont => ∃ σ' H', Inv X pins σ' H' s' /\ D.ct σ' H'
  | .ret u => ∃ v σ' H', Inv X pins σ' H' s' /\ RelV v u /\ D.rt v H'
def PE (X : Cx) (e : Expr) (t : TE) : Prop :=
  ∀ (pins : List (Addr × Obj)) (s : Shared) (σ : St) (H : Hp) (Q : VK), Inv X pins σ H s -> t σ H Q -> wpAny (model X.prog X.w) X.A (eval e X.env) (EP X pins σ Q) X.xe s
def PT (X : Cx) (e : Expr) (t : TT) : Prop :=
  ∀ (pins : List (Addr × Obj)) (s : Shared) (σ : St) (H : Hp) (Q : Bool -> Hp -> Prop), Inv X pins σ H s -> t σ H Q -> wpAny (model X.prog X.w) X.A (isTrue e X.env (eval e X.env)) (TP X pins σ Q) X.xe s
def PW (X : Cx) (e : Expr) (t : TT) : Prop :=
  ∀ (whole : Sem Value) (pins : List (Addr × Obj)) (s : Shared) (σ : St) (H : Hp) (Q : Bool -> Hp -> Prop), Inv X pins σ H s -> t σ H Q -> wpAny (model X.prog X.w) X.A (isTrue e X.env whole) (TP X pins σ Q) X.xe s
theorem PW.pt {X : Cx} {e : Expr} {t : TT} (h : PW X e t) : PT X e t := h _
def PA (X : Cx) (es : List Expr) (t : TA) : Prop :=
  ∀ (pos : Pos) (pins : List (Addr × Obj)) (s : Shared) (σ : St) (H : Hp) (Q : List V -> Hp -> Prop), Inv X pins σ H s -> t σ H Q -> wpAny (model X.prog X.w) X.A (spliced (backTo pos (starEach es X.env))) (AP X pins σ Q) X.xe s
def PS (X : Cx) (st : Stmt) (t : TS) : Prop :=
  ∀ (pins : List (Addr × Obj)) (s : Shared) (σ : St) (H : Hp) (D : Ends), Inv X pins σ H s -> t D σ H -> wpAny (model X.prog X.w) X.A (exec st X.env) (SP X pins D) X.xe s
def PSs (X : Cx) (st : List Stmt) (t : TS) : Prop :=
  ∀ (pins : List (Addr × Obj)) (s : Shared) (σ : St) (H : Hp) (D : Ends), Inv X pins σ H s -> t D σ H -> wpAny (model X.prog X.w) X.A (execs st X.env) (SP X pins D) X.xe s
theorem thn {α : Type} {t : Sem α} {Q Q' : α -> Shared -> Prop} {M : Model} {A : Around} {E : Value -> Shared -> Prop} {s : Shared} (h : wpAny M A t Q E s) (hQ : ∀ a s, Q a s -> Q' a s) : wpAny M A t Q' E s := wpAny_mono h hQ fun _ _ x => x
section
variable {X : Cx}
def z6X (i : Nat) : TE := fun σ H Q => ∃ v, σ[i]? = some (some v) /\ Q v H
def tC (v : V) : TE := fun _ H Q => Q v H
theorem z4l {i : Nat} {x : Str} {pos : Pos} (hN : X.N[i]? = some x) (hv : Vis X.env.scope x) (hd : (x == ("__debug__" : Str)) = false := by decide) (hcd : (x == ("__classdict__" : Str)) = false := by decide) : PE X (.Name x pos) (z6X i) := by
  intro pins s σ H Q I h
  obtain ⟨v, e, h⟩ := h
  obtain ⟨m, hn, hl⟩ := I.loc
  obtain ⟨u, r, l⟩ := hl i x v hN e hv
  have fin : EP X pins σ Q u s := ⟨v, H, I, r, h⟩
  rcases l with ⟨hk, hm⟩ | ⟨hk, c, hc, hcell⟩
  . exact wpAny_Name (wpAny_loadName_local I.ok.kind hk hn hm fin) hd
  . rcases hk with hk | hk
    . exact wpAny_Name (wpAny_loadName_cell I.ok.kind hk hc hcell fin) hd
    . exact wpAny_Name (wpAny_loadName_free I.ok.kind hk hc hcell fin hcd) hd
theorem z01 {i j pos} : PE X (.Constant (.int i) j pos) (tC (.int i)) := fun _ _ _ H _ I h => wpAny_Constant_int ⟨.int i, H, I.tok _, ⟨_, rfl⟩, h⟩
theorem z1e {b j pos} : PE X (.Constant (.bool b) j pos) (tC (.bl b)) := fun _ _ _ H _ I h => Constant_bool ⟨.bl b, H, I, rfl, h⟩
theorem z0t {j pos} : PE X (.Constant .none j pos) (tC .non) := fun _ _ _ H _ I h => Constant_none ⟨.non, H, I, rfl, h⟩
def Gl (X : Cx) (x : Str) : Prop := X.env.kindOf x = some .globalImplicit
theorem z46 {E : Value -> Shared -> Prop} {pins : List (Addr × Obj)} {s : Shared} {σ : St} {H : Hp} {x : Str} {u : Value} {pos : Pos} {Q : Value -> Shared -> Prop} (I : Inv X pins σ H s) (hg : Gl X x) (hm : X.mg x = some u) (h : Q u s)
    (hd : (x == ("__debug__" : Str)) = false := by decide) : wpAny (model X.prog X.w) X.A (eval (.Name x pos) X.env) Q E s :=
  Calls.Name_function_global I.ok.kind hg (Calls.loadGlobal_global (by rw [I.ok.glob]; exact I.mod.glob.keeps I.bk) hm h) hd
theorem z1C {E : Value -> Shared -> Prop} {pins : List (Addr × Obj)} {s : Shared} {σ : St} {H : Hp} {x : Str} {u : Value} {pos : Pos} {Q : Value -> Shared -> Prop} (I : Inv X pins σ H s) (hg : Gl X x) (hm : X.mg x = none) (hv : bootBuiltins x = some u) (h : Q u s)
    (hn : x ≠ "__name__" := by decide) (hd : (x == ("__debug__" : Str)) = false := by decide) : wpAny (model X.prog X.w) X.A (eval (.Name x pos) X.env) Q E s := by
  obtain ⟨mb, h1, h2⟩ := I.mod.blt
  exact Calls.Name_function_global I.ok.kind hg (Calls.loadGlobal_builtin (by rw [I.ok.glob]; exact I.mod.glob.keeps I.bk) hm (by rw [I.ok.blt]; exact h1.keeps I.bk) ((h2 x hn).trans hv) h) hd
theorem z1Q {x : Str} {v : V} {u : Value} {pos : Pos} (hg : Gl X x) (hm : X.mg x = none) (hv : bootBuiltins x = some u) (r : RelV v u) (hn : x ≠ "__name__" := by decide) (hd : (x == ("__debug__" : Str)) = false := by decide) : PE X (.Name x pos) (tC v) :=
  fun _ _ _ H _ I h => z1C I hg hm hv ⟨v, H, I, r, h⟩ hn hd
def t2I (ta tb : TE) (k : Int -> Int -> Hp -> Prop) : St -> Hp -> Prop := fun σ H => ta σ H fun x H1 => tb σ H1 fun y H2 => ∃ i j, x = .int i /\ y = .int j /\ k i j H2
def z84 (ta tb : TE) : TE := fun σ H Q => t2I ta tb (fun i j H2 => Q (.int (i + j)) H2) σ H
def z85 (ta tb : TE) : TE := fun σ H Q => t2I ta tb (fun i j H2 => Q (.int (i - j)) H2) σ H
def z86 (ta tb : TE) : TE := fun σ H Q => t2I ta tb (fun i j H2 => (-(2 ^ 64) < i /\ i < 2 ^ 64) /\ Q (.int (i * j)) H2) σ H
variable {a b : Expr} {ta tb : TE} {pos : Pos}
def PC (X : Cx) (op : CmpOp) (a b : Expr) (t : TE) : Prop :=
  ∀ (pins : List (Addr × Obj)) (s : Shared) (σ : St) (H : Hp) (Q : VK), Inv X pins σ H s -> t σ H Q ->
    wpAny (model X.prog X.w) X.A (eval a X.env) (fun v s₁ => wpAny (model X.prog X.w) X.A (eval b X.env) (fun u s₂ => wpAny (model X.prog X.w) X.A (compareOp op v u) (EP X pins σ Q) X.xe s₂) X.xe s₁) X.xe s
def z4Z (p : Int -> Int -> Bool) (ta tb : TE) : TE := fun σ H Q => t2I ta tb (fun i j H2 => Q (.bl (p i j)) H2) σ H
abbrev tLt : TE -> TE -> TE := z4Z fun i j => decide (i < j)
abbrev tLe : TE -> TE -> TE := z4Z fun i j => decide (i <= j)
abbrev tGt : TE -> TE -> TE := z4Z fun i j => decide (j < i)
abbrev tGe : TE -> TE -> TE := z4Z fun i j => decide (j <= i)
abbrev z87 : TE -> TE -> TE := z4Z fun i j => decide (i = j)
abbrev z88 : TE -> TE -> TE := z4Z fun i j => !decide (i = j)
def z89 (ta : TE) : TE := fun σ H Q => ta σ H fun x H1 => Q (.bl (decide (x = .non))) H1
def z7F (ta : TE) : TE := fun σ H Q => ta σ H fun x H1 => Q (.bl (!decide (x = .non))) H1
def tB (t : TE) : TT := fun σ H Q => t σ H fun x H1 => ∃ c, x = .bl c /\ Q c H1
theorem z1f {e : Expr} {t : TE} (h : PE X e t) (he : ∀ whole, isTrue e X.env whole = (do let v <- whole; standAt e.pos; holding [v] (truthy v)) := by intro _; rfl) : PT X e (tB t) := by
  intro pins s σ H Q I hw
  refine isTrue_plain (thn (h pins s σ H _ I hw) fun v s1 ⟨x, H1, I1, r1, q1⟩ => ?_) (he _)
  obtain ⟨d, rfl, q⟩ := q1
  cases r1
  exact wpAny_truthy_bool ⟨H1, I1, q⟩
variable {tA tB' : TT} {rest : List Expr}
def z7G (t u : TT) : TT := fun σ H Q => t σ H fun c H1 => if c = true then u σ H1 Q else Q false H1
def tOr (t u : TT) : TT := fun σ H Q => t σ H fun c H1 => if c = true then Q true H1 else u σ H1 Q
def z7H (t : TT) : TT := fun σ H Q => t σ H fun c H1 => Q (!c) H1
theorem z47 (ha : PT X a tA) : PW X (.BoolOp .And [a] pos) tA := by
  intro wh pins s σ H Q I h
  refine isTrue_and (thn (ha pins s σ H Q I h) fun c s1 e => ?_)
  cases c with
  | true => exact isTrue_and_nil e
  | false => exact e
theorem z1g (ha : PT X a tA) : PW X (.BoolOp .Or [a] pos) tA := by
  intro wh pins s σ H Q I h
  refine isTrue_or (thn (ha pins s σ H Q I h) fun c s1 e => ?_)
  cases c with
  | false => exact isTrue_or_nil e
  | true => exact e
theorem z3s (ha : PT X a tA) (hb : PW X (.BoolOp .And (b :: rest) pos) tB') : PW X (.BoolOp .And (a :: b :: rest) pos) (z7G tA tB') := by
  intro wh pins s σ H Q I h
  refine isTrue_and (thn (ha pins s σ H _ I h) fun c s1 ⟨H1, I1, q1⟩ => ?_)
  cases c with
  | true => exact hb wh pins s1 σ H1 Q I1 q1
  | false => exact ⟨H1, I1, q1⟩
theorem z20 (ha : PT X a tA) (hb : PW X (.BoolOp .Or (b :: rest) pos) tB') : PW X (.BoolOp .Or (a :: b :: rest) pos) (tOr tA tB') := by
  intro wh pins s σ H Q I h
  refine isTrue_or (thn (ha pins s σ H _ I h) fun c s1 ⟨H1, I1, q1⟩ => ?_)
  cases c with
  | true => exact ⟨H1, I1, q1⟩
  | false => exact hb wh pins s1 σ H1 Q I1 q1
theorem z1h (ha : PT X a tA) : PT X (.UnaryOp .Not a pos) (z7H tA) := by
  intro pins s σ H Q I h
  exact isTrue_not (ha pins s σ H (fun c H1 => Q (!c) H1) I h)
def z5j (ta tb : TE) : TE := fun σ H Q => ta σ H fun x H1 => ∃ c, x = .bl c /\ if c = true then tb σ H1 Q else Q (.bl false) H1
def z8A (ta tb : TE) : TE := fun σ H Q => ta σ H fun x H1 => ∃ c, x = .bl c /\ if c = true then Q (.bl true) H1 else tb σ H1 Q
def z5k (ta : TE) : TE := fun σ H Q => ta σ H fun x H1 => ∃ c, x = .bl c /\ Q (.bl (!c)) H1
theorem z4m {op} {t : TE} (h : PE X a t) : PE X (.BoolOp op [a] pos) t := fun pins s σ H Q I hw => BoolOp_one (h pins s σ H Q I hw)
theorem z4n (ha : PE X a ta) (hb : PE X (.BoolOp .And (b :: rest) pos) tb) : PE X (.BoolOp .And (a :: b :: rest) pos) (z5j ta tb) := by
  intro pins s σ H Q I h
  refine BoolOp_and (thn (ha pins s σ H _ I h) fun v s1 ⟨x, H1, I1, r1, q1⟩ => ?_)
  obtain ⟨c, rfl, q1⟩ := q1
  cases r1
  refine wpAny_truthy_bool ?_
  cases c with
  | true => exact hb pins s1 σ H1 Q I1 q1
  | false => exact ⟨.bl false, H1, I1, rfl, q1⟩
theorem z4o (ha : PE X a ta) : PE X (.UnaryOp .Not a pos) (z5k ta) := by
  intro pins s σ H Q I h
  refine UnaryOp_ (thn (ha pins s σ H _ I h) fun v s1 ⟨x, H1, I1, r1, q1⟩ => ?_)
  obtain ⟨c, rfl, q1⟩ := q1
  cases r1
  exact not_of (wpAny_truthy_bool ⟨.bl (!c), H1, I1, rfl, q1⟩)
def tIf (t : TT) (ta tb : TE) : TE := fun σ H Q => t σ H fun c H1 => if c = true then ta σ H1 Q else tb σ H1 Q
theorem z3Z {c : Expr} (hc : PT X c tA) (ha : PE X a ta) (hb : PE X b tb) : PE X (.IfExp c a b pos) (tIf tA ta tb) := by
  intro pins s σ H Q I h
  refine wpAny_IfExp (thn (hc pins s σ H _ I h) fun d s1 ⟨H1, I1, q1⟩ => ?_)
  cases d with
  | true => exact ha pins s1 σ H1 Q I1 q1
  | false => exact hb pins s1 σ H1 Q I1 q1
end
def SqL (K : PySem.W.Frag) (H : Hp) (a : Addr) (xs : List V) : Prop :=
  Rd H a (.lst xs) \/
    ∃ (o : Obj) (its : Array Value) (n : Nat), K.lookup a = some o /\ o.cls = .type "list" /\ o.dict = none /\ o.data = .seq its n /\ its.size <= sizeLine /\ Vals xs its.toList
def SqT (K : PySem.W.Frag) (H : Hp) (a : Addr) (xs : List V) : Prop :=
  Rd H a (.tup xs) \/
    ∃ (o : Obj) (its : Array Value) (n : Nat), K.lookup a = some o /\ o.cls = .type "tuple" /\ o.data = .seq its n /\ its.size <= sizeLine /\ Vals xs its.toList
def z7I : Value -> Option V
  | .none => some .non
  | .bool b => some (.bl b)
  | .int i _ => some (.int i)
  | .str x _ => some (.str x)
  | .bytes b _ => some (.byt b)
  | .float b _ => some (.flt b)
  | .ref a => some (.ref a)
  | .type n => some (.ty n)
  | _ => none
theorem RelV.abs {x : V} {u : Value} (r : RelV x u) : z7I u = some x := by
  cases x with
  | non => cases r; rfl
  | bl _ => cases r; rfl
  | int _ => obtain ⟨t, rfl⟩ := r; rfl
  | str _ => obtain ⟨t, rfl⟩ := r; rfl
  | byt _ => obtain ⟨t, rfl⟩ := r; rfl
  | flt _ => obtain ⟨t, rfl⟩ := r; rfl
  | ref _ => cases r; rfl
  | ty _ => cases r; rfl
theorem RelV.inj {x y : V} {u : Value} (r : RelV x u) (q : RelV y u) : x = y := Option.some.inj (r.abs.symm.trans q.abs)
theorem Vals.inj : ∀ {xs ys : List V} {us : List Value}, Vals xs us -> Vals ys us -> xs = ys
  | _, _, _, .nil, .nil => rfl
  | _, _, _, .cons r t, .cons r' t' => by rw [r.inj r', Vals.inj t t']
section
variable {X : Cx} {pins : List (Addr × Obj)} {σ : St} {H : Hp} {s : Shared} {a : Addr} {xs ys : List V}
theorem SqL.of {K : PySem.W.Frag} (h : H a = some (.lst xs)) : SqL K H a xs := .inl (.inl h)
theorem SqT.of {K : PySem.W.Frag} (h : H a = some (.tup xs)) : SqT K H a xs := .inl (.inl h)
theorem Inv.list (I : Inv X pins σ H s) (h : SqL X.K H a xs) : ∃ its : List Value, Vals xs its /\ PlainL s.heap a its.toArray /\ xs.length <= sizeLine := by
  rcases h with h | ⟨o, its, n, hk, hc, hd, hs, hz, r⟩
  . obtain ⟨z, its, n, r, e⟩ := h.ok I.hok
    exact ⟨its, r, ⟨_, n, e, rfl, rfl, rfl⟩, z⟩
  . refine ⟨its.toList, r, ⟨o, n, I.kIn a o hk, hc, hd, by simpa using hs⟩, ?_⟩
    have e := r.length
    simp only [Array.length_toList] at e
    omega
theorem Inv.tuple (I : Inv X pins σ H s) (h : SqT X.K H a xs) : ∃ its : List Value, Vals xs its /\ IsTup s.heap a its.toArray /\ xs.length <= sizeLine := by
  rcases h with h | ⟨o, its, n, hk, hc, hs, hz, r⟩
  . obtain ⟨z, its, r, p⟩ := h.ok I.hok
    exact ⟨its, r, p, z⟩
  . refine ⟨its.toList, r, ⟨o, I.kIn a o hk, hc, n, by simpa using hs⟩, ?_⟩
    have e := r.length
    simp only [Array.length_toList] at e
    omega
theorem Inv.list_inj (I : Inv X pins σ H s) (h : SqL X.K H a xs) (h' : SqL X.K H a ys) : xs = ys := by
  obtain ⟨its, r, ⟨o, n, e, _, _, d⟩, _⟩ := I.list h
  obtain ⟨its', r', ⟨o', n', e', _, _, d'⟩, _⟩ := I.list h'
  rw [e] at e'; cases e'
  rw [d] at d'
  injection d' with d1 _
  have : its = its' := by simpa using congrArg Array.toList d1
  subst this
  exact r.inj r'
end
abbrev Cx.wish (X : Cx) (E : Value -> Shared -> Prop) : Cx := { X with xe := E }
abbrev Cx.nox (X : Cx) : Cx := X.wish fun _ _ => False
theorem Cx.Ok.wish {X : Cx} (ok : X.Ok) (E : Value -> Shared -> Prop) : (X.wish E).Ok :=
  ⟨ok.mod, ok.kind, ok.glob, ok.blt, ok.above, ok.inj, ok.has, ok.cab, ok.hd, ok.frames, ok.stk, ok.exf, ok.bs, ok.bsz, ok.noex, ok.exfs, ok.funs, ok.frf⟩
theorem Cx.Ok.unwish {X : Cx} {E : Value -> Shared -> Prop} (ok : (X.wish E).Ok) : X.Ok :=
  ⟨ok.mod, ok.kind, ok.glob, ok.blt, ok.above, ok.inj, ok.has, ok.cab, ok.hd, ok.frames, ok.stk, ok.exf, ok.bs, ok.bsz, ok.noex, ok.exfs, ok.funs, ok.frf⟩
section
variable {X : Cx} {pins : List (Addr × Obj)} {σ : St} {H : Hp} {s : Shared} {E : Value -> Shared -> Prop}
theorem Inv.wish (I : Inv X pins σ H s) (E : Value -> Shared -> Prop) : Inv (X.wish E) pins σ H s := ⟨I.ok.wish E, I.os, I.bare, I.base, I.loc, I.cell, I.free, I.freeC, I.pin, I.hok, I.len⟩
theorem Inv.unwish (I : Inv (X.wish E) pins σ H s) : Inv X pins σ H s := ⟨I.ok.unwish, I.os, I.bare, I.base, I.loc, I.cell, I.free, I.freeC, I.pin, I.hok, I.len⟩
theorem SP.unwish {D : Ends} {f : Flow} {s' : Shared} (h : SP (X.wish E) pins D f s') : SP X pins D f s' := by
  cases f with
  | next => obtain ⟨σ', H', I, q⟩ := h; exact ⟨σ', H', I.unwish, q⟩
  | brk => obtain ⟨σ', H', I, q⟩ := h; exact ⟨σ', H', I.unwish, q⟩
  | cont => obtain ⟨σ', H', I, q⟩ := h; exact ⟨σ', H', I.unwish, q⟩
  | ret u => obtain ⟨v, σ', H', I, r, q⟩ := h; exact ⟨v, σ', H', I.unwish, r, q⟩
theorem PE.nox {e : Expr} {t : TE} (h : PE X.nox e t) : PE X e t := fun pins s σ H Q I hw =>
  wpAny_mono (h pins s σ H Q (I.wish _) hw) (fun _ _ ⟨v, H', I', r, q⟩ => ⟨v, H', I'.unwish, r, q⟩) fun _ _ z => False.elim z
theorem PT.nox {e : Expr} {t : TT} (h : PT X.nox e t) : PT X e t := fun pins s σ H Q I hw =>
  wpAny_mono (h pins s σ H Q (I.wish _) hw) (fun _ _ ⟨H', I', q⟩ => ⟨H', I'.unwish, q⟩) fun _ _ z => False.elim z
theorem PSs.nox {st : List Stmt} {t : TS} (h : PSs X.nox st t) : PSs X st t := fun pins s σ H D I hw =>
  wpAny_mono (h pins s σ H D (I.wish _) hw) (fun _ _ q => q.unwish) fun _ _ z => False.elim z
end
section
variable {X : Cx} {st : Stmt} {rest : List Stmt} {t u : TS} {e : Expr} {te : TE} {pos : Pos}
def z5l : TS := fun D σ H => D.nx σ H
def z7J (t u : TS) : TS := fun D σ H => t { D with nx := u D } σ H
theorem z0L : PSs X [] z5l := fun _ _ σ H _ I h => wpAny_execs_nil ⟨σ, H, I, h⟩
theorem z03 (h1 : PS X st t) (h2 : PSs X rest u) : PSs X (st :: rest) (z7J t u) := by
  intro pins s σ H D I h
  refine wpAny_execs_cons (thn (h1 pins s σ H { D with nx := u D } I h) fun f s1 q => ?_)
  cases f with
  | next =>
    obtain ⟨σ', H', I', q⟩ := q
    exact h2 pins s1 σ' H' D I' q
  | ret v => exact q
  | brk => exact q
  | cont => exact q
theorem z07 (h1 : PS X st t) : PSs X [st] t := by
  intro pins s σ H D I h
  refine wpAny_execs_cons (thn (h1 pins s σ H D I h) fun f s1 q => ?_)
  cases f with
  | next => exact wpAny_execs_nil q
  | ret v => exact q
  | brk => exact q
  | cont => exact q
def z6Y : TS := fun D σ H => D.bk σ H
def z7K : TS := fun D σ H => D.ct σ H
theorem Inv.quiet {pins : List (Addr × Obj)} {σ : St} {H : Hp} {s : Shared} (I : Inv X pins σ H s) : interactive X.env = false := by simp [interactive, I.ok.kind]
def z5m (te : TE) : TS := fun D σ H => te σ H fun _ H1 => D.nx σ H1
theorem z0w (he : PE X e te) (hs : swapsWith e none pos.line X.env = pure false := by rfl) : PS X (.Expr e pos) (z5m te) := by
  intro pins s σ H D I h
  exact wpAny_Expr_any (thn (he pins s σ H _ I h) fun v s1 ⟨x, H1, I1, r1, q1⟩ => ⟨σ, H1, I1, q1⟩) I.quiet hs
def z7L (te : TE) : TS := fun D σ H => te σ H D.rt
theorem z0I (he : PE X e te) : PS X (.Return (some e) pos) (z7L te) := by
  intro pins s σ H D I h
  exact wpAny_Return_some (thn (he pins s σ H _ I h) fun v s1 ⟨x, H1, I1, r1, q1⟩ => ⟨x, σ, H1, I1, r1, q1⟩)
def z7M : TS := fun D _ H => D.rt .non H
def z7N (c : TT) (t u : TS) : TS := fun D σ H => c σ H fun b H1 => if b = true then t D σ H1 else u D σ H1
theorem z0k {c : Expr} {a b : List Stmt} {tc : TT} (hc : PT X c tc) (ha : PSs X a t) (hb : PSs X b u) : PS X (.If c a b pos) (z7N tc t u) := by
  intro pins s σ H D I h
  refine wpAny_If (thn (hc pins s σ H _ I h) fun d s1 ⟨H1, I1, q1⟩ => ?_)
  cases d with
  | true => exact ha pins s1 σ H1 D I1 q1
  | false => exact hb pins s1 σ H1 D I1 q1
def z6Z : TS := fun _ _ _ => False
end
abbrev TG := V -> St -> Hp -> (St -> Hp -> Prop) -> Prop
abbrev TGs := List V -> St -> Hp -> (St -> Hp -> Prop) -> Prop
def PG (X : Cx) (target : Expr) (t : TG) : Prop :=
  ∀ (pins : List (Addr × Obj)) (s : Shared) (σ : St) (H : Hp) (v : V) (u : Value) (Q : St -> Hp -> Prop), Inv X pins σ H s -> RelV v u -> t v σ H Q ->
    wpAny (model X.prog X.w) X.A (assign target X.env u) (fun _ s' => ∃ σ' H', Inv X pins σ' H' s' /\ Q σ' H') X.xe s
def PGs (X : Cx) (ts : List Expr) (t : TGs) : Prop :=
  ∀ (pins : List (Addr × Obj)) (s : Shared) (σ : St) (H : Hp) (vs : List V) (us : List Value) (Q : St -> Hp -> Prop), Inv X pins σ H s -> Vals vs us -> t vs σ H Q ->
    wpAny (model X.prog X.w) X.A (assignInOrder ((assignEach ts X.env).map (·.2)) us) (fun _ s' => ∃ σ' H', Inv X pins σ' H' s' /\ Q σ' H') X.xe s
abbrev z5T := V -> V -> V -> Hp -> (Hp -> Prop) -> Prop
def z6a (X : Cx) (t : z5T) : Prop :=
  ∀ (pins : List (Addr × Obj)) (s : Shared) (σ : St) (H : Hp) (o i v : V) (ov iv u : Value) (Q : Hp -> Prop), Inv X pins σ H s -> RelV o ov -> RelV i iv -> RelV v u -> t o i v H Q ->
    wpAny (model X.prog X.w) X.A (setItem ov iv u) (fun _ s' => ∃ H', Inv X pins σ H' s' /\ Q H') X.xe s
abbrev TIp := V -> V -> Hp -> VK -> Prop
def PIp (X : Cx) (op : Operator) (t : TIp) : Prop :=
  ∀ (pins : List (Addr × Obj)) (s : Shared) (σ : St) (H : Hp) (x y : V) (v u : Value) (Q : VK), Inv X pins σ H s -> RelV x v -> RelV y u -> t x y H Q ->
    wpAny (model X.prog X.w) X.A (inplaceOp op v u) (EP X pins σ Q) X.xe s
section
variable {X : Cx} {pos : Pos}
def z4p (i : Nat) : TG := fun v σ H Q => Q (σ.set i (some v)) H
theorem z0N {i : Nat} {x : Str} (hN : X.N.Nodup) (hi : X.N[i]? = some x) (hx : Loc X.env.scope x) (hf : X.fn x = true \/ X.env.scope.names.lookup x = some .local := by first | exact .inl rfl | exact .inr rfl | assumption) : PG X (.Name x pos) (z4p i) := by
  intro pins s σ H v u Q I r h
  exact wpAny_assign_Name (z2G I hN hi hx r (fun s' I' => ⟨_, H, I', h⟩) hf)
def z7O : TGs := fun vs σ H Q => vs = [] /\ Q σ H
def z5n (t : TG) (u : TGs) : TGs := fun vs σ H Q => ∃ v r, vs = v :: r /\ t v σ H fun σ' H' => u r σ' H' Q
theorem z2i : PGs X [] z7O := by
  intro pins s σ H vs us Q I r h
  obtain ⟨e, h⟩ := h
  subst e
  cases r
  exact assignInOrder_nil ⟨σ, H, I, h⟩
theorem z0y {e : Expr} {es : List Expr} {t : TG} {u : TGs} (h1 : PG X e t) (h2 : PGs X es u)
    (hs : (assignEach (e :: es) X.env).map (·.2) = assign e X.env :: (assignEach es X.env).map (·.2) := by rfl) : PGs X (e :: es) (z5n t u) := by
  intro pins s σ H vs us Q I r h
  obtain ⟨v, vr, e1, h⟩ := h
  subst e1
  cases r with
  | cons r rr =>
    rw [hs]
    refine assignInOrder_cons (thn (h1 pins s σ H _ _ _ I r h) fun _ s1 ⟨σ1, H1, I1, q1⟩ => ?_)
    exact h2 pins s1 σ1 H1 _ _ Q I1 rr q1
def z6b (K : PySem.W.Frag) (n : Nat) (t : TGs) : TG := fun v σ H Q => ∃ a xs, v = .ref a /\ SqT K H a xs /\ xs.length = n /\ t xs σ H Q
theorem z3t {es : List Expr} {k : Nat} {t : TGs} {n : Nat} (hc : X.calm = true) (h : PGs X es t)
    (hn : (assignEach es X.env).length = n := by rfl) (hst : (assignEach es X.env).findIdx? (·.1) = none := by rfl) : PG X (.Tuple es k pos) (z6b X.K n t) := by
  intro pins s σ H v u Q I r hw
  obtain ⟨a, xs, e1, hq, hl, hw⟩ := hw
  subst e1
  cases r
  obtain ⟨its, rv, ht, hz⟩ := I.tuple hq
  refine assign_Tuple_tuple (I.ok.hd hc) ht (by simp [hn, <- hl, rv.length]) hst fun h' hx => ?_
  have I1 : Inv X pins σ H { s with heap := h' } := I.kept (t' := s.toks) fun b o e => hx b o (Nat.ne_of_lt (Heap.lt_size e)) e
  exact h pins _ σ H xs _ Q I1 (by simpa using rv) hw
def z7P (to ti : TE) (t : z5T) : TG := fun v σ H Q => to σ H fun o H1 => ti σ H1 fun i H2 => t o i v H2 fun H3 => Q σ H3
theorem z4q {o i : Expr} {to ti : TE} {t : z5T} (ho : PE X o to) (hi : PE X i ti) (hs : z6a X t)
    (ha : ∀ v, assign (.Subscript o i pos) X.env v = (do
      let ov <- holding [v] (eval o X.env)
      let iv <- holding [v, ov] (eval i X.env)
      standAt pos
      holding [v, ov, iv] (setItem ov iv v)
      release [v, ov, iv] []) := by intro _; rfl) : PG X (.Subscript o i pos) (z7P to ti t) := by
  intro pins s σ H v u Q I r h
  rw [ha]
  refine wpAny_bind (wpAny_holding (thn (ho pins s σ H _ I h) fun ov s1 ⟨x, H1, I1, r1, q1⟩ => ?_))
  refine wpAny_bind (wpAny_holding (thn (hi pins s1 σ H1 _ I1 q1) fun iv s2 ⟨y, H2, I2, r2, q2⟩ => ?_))
  refine wpAny_bind (wpAny_standAt (wpAny_bind (wpAny_holding (thn (hs pins s2 σ H2 x y v ov iv u _ I2 r1 r2 r q2) fun _ s3 ⟨H3, I3, q3⟩ => ?_))))
  exact wpAny_release ⟨σ, H3, I3, q3⟩
def z6c (te : TE) (g : TG) : TS := fun D σ H => te σ H fun x H1 => g x σ H1 D.nx
theorem z4r {tg e : Expr} {te : TE} {g : TG} (he : PE X e te) (hg : PG X tg g) (hs : swapsWithSole [tg] e pos.line X.env = pure false := by rfl) (hw : swappedStores [tg] e X.env = pure none := by rfl)
    (h1 : (assignEach [tg] X.env).map (·.2) = [assign tg X.env] := by rfl) : PS X (.Assign [tg] e pos) (z6c te g) := by
  intro pins s σ H D I h
  refine wpAny_Assign_stores (thn (he pins s σ H _ I h) fun v s1 ⟨x, H1, I1, r1, q1⟩ => ?_) hs hw
  rw [h1]
  exact thn (hg pins s1 σ H1 x v _ I1 r1 q1) fun _ s2 q => q
theorem z0A {i : Nat} {x : Str} {e : Expr} {te : TE} {pos' : Pos} (hN : X.N.Nodup) (hi : X.N[i]? = some x) (hx : Loc X.env.scope x) (he : PE X e te) (hs : swapsWith e (some (.Name x pos')) pos.line X.env = pure false := by rfl) (hf : X.fn x = true \/ X.env.scope.names.lookup x = some .local := by first | exact .inl rfl | exact .inr rfl | assumption) :
    PS X (.Assign [.Name x pos'] e pos) (z6c te (z4p i)) := by
  intro pins s σ H D I h
  refine wpAny_Assign_Name (thn (he pins s σ H _ I h) fun v s1 ⟨y, H1, I1, r1, q1⟩ => ?_) hs
  exact z2G I1 hN hi hx r1 (fun s2 I2 => ⟨_, H1, I2, q1⟩) hf
def z8B (i j : Nat) (ta : TA) : TS := fun D σ H => ta σ H fun vs H1 => ∃ v w, vs = [v, w] /\ D.nx ((σ.set i (some v)).set j (some w)) H1
def z8C (i : Nat) (te : TE) (ti : TIp) : TS := fun D σ H => ∃ x, σ[i]? = some (some x) /\ te σ H fun y H1 => ti x y H1 fun z H2 => D.nx (σ.set i (some z)) H2
def z7Q (to ti te : TE) (tget : V -> V -> Hp -> VK -> Prop) (tip : TIp) (tset : z5T) : TS := fun D σ H => to σ H fun o H1 => ti σ H1 fun i H2 => tget o i H2 fun x H3 => te σ H3 fun y H4 => tip x y H4 fun z H5 => tset o i z H5 fun H6 => D.nx σ H6
def z8D (X : Cx) (t : V -> V -> Hp -> VK -> Prop) : Prop :=
  ∀ (pins : List (Addr × Obj)) (s : Shared) (σ : St) (H : Hp) (o i : V) (ov iv : Value) (Q : VK), Inv X pins σ H s -> RelV o ov -> RelV i iv -> t o i H Q ->
    wpAny (model X.prog X.w) X.A (getItem ov iv) (EP X pins σ Q) X.xe s
def ipI (f : Int -> Int -> Int) : TIp := fun x y H Q => ∃ i j, x = .int i /\ y = .int j /\ Q (.int (f i j)) H
end
section
variable {X : Cx} {pos : Pos}
def z6d (c : TT) (tb : TS) : TS := fun D σ H => ∃ W : Nat -> St -> Hp -> Prop, (∃ m, W m σ H) /\ ∀ m σ H, W m σ H ->
  c σ H fun b H1 => if b = true then ∃ N : St -> Hp -> Prop, (∀ σ' H', N σ' H' -> ∃ m', m' < m /\ W m' σ' H') /\ tb { D with nx := N, ct := N, bk := D.nx } σ H1 else D.nx σ H1
end
structure It where
  go : Nat -> Hp -> Prop
  yld : Nat -> Hp -> V -> Hp -> Prop
  stop : Nat -> Hp -> Prop
def z1R (X : Cx) (pins : List (Addr × Obj)) (H : Hp) (b : Addr) : Prop :=
  H b = none /\ b ≠ X.env.locals /\ b ∉ X.fs /\ (b ∈ X.ex \/ X.s₀.heap.objs.size <= b) /\ (∀ x c, X.env.cells.lookup x = some c -> c ≠ b) /\ ∀ p ∈ X.pn ++ pins, p.1 ≠ b
theorem Inv.fpOk {X : Cx} {pins : List (Addr × Obj)} {σ : St} {H H' : Hp} {s : Shared} {b : Addr} (I : Inv X pins σ H s) (hb : s.heap.objs.size <= b) (hn : H' b = none) : z1R X pins H' b := by
  refine ⟨hn, Nat.ne_of_gt (Nat.lt_of_lt_of_le I.lt hb), I.nofs hb, .inr (Nat.le_trans I.sz hb), fun x c e z => ?_, fun p hp z => ?_⟩
  . obtain ⟨v, q⟩ := I.cell x c e
    exact absurd (Nat.lt_of_lt_of_le q.lt (by rw [z]; exact hb)) (Nat.lt_irrefl _)
  . exact absurd (Nat.lt_of_lt_of_le (Heap.lt_size (I.pin p hp).1) (by rw [z]; exact hb)) (Nat.lt_irrefl _)
structure Turn (P : Program) (w : World) (K : PySem.W.Frag) (tg : Expr) (J : It) (fp : List Addr) (it : Addr) (tn : Nat -> Heap -> Prop) : Prop where
  mem : it ∈ fp
  obj : ∀ i h, tn i h -> ∀ b ∈ fp, ∃ o, h.get? b = some o /\ ∀ v, o.data ≠ .cell v
  keep : ∀ i h h', tn i h -> (∀ b ∈ fp, ∀ o, h.get? b = some o -> h'.get? b = some o) -> tn i h'
  item : ∀ (X : Cx), X.prog = P -> X.w = w -> X.K = K -> X.calm = true -> ∀ (i : Nat) (pins : List (Addr × Obj)) (s : Shared) (σ : St) (H : Hp) (E : Value -> Shared -> Prop), Inv X pins σ H s -> (∀ b ∈ fp, z1R X pins H b) -> tn i s.heap -> J.go i H ->
    wpAny (model P w) X.A (pyNext (.ref it)) (fun r s1 => ∃ u, r = some u /\
      wpAny (model P w) X.A (letOwnedTupleGo tg (.ref it) u) (fun _ s2 => ∃ x H', Inv X pins σ H' s2 /\ RelV x u /\ J.yld i H x H' /\ tn (i + 1) s2.heap /\ ∀ b ∈ fp, H' b = none) E s1) E s
  done : ∀ (X : Cx), X.prog = P -> X.w = w -> X.K = K -> X.calm = true -> ∀ (i : Nat) (pins : List (Addr × Obj)) (s : Shared) (σ : St) (H : Hp) (E : Value -> Shared -> Prop), Inv X pins σ H s -> (∀ b ∈ fp, z1R X pins H b) -> tn i s.heap -> J.stop i H ->
    wpAny (model P w) X.A (pyNext (.ref it)) (fun r s1 => r = none /\ Inv X pins σ H s1) E s
  self : ∀ (A : Around) (i : Nat) (s : Shared) (Q : Value -> Shared -> Prop) (E : Value -> Shared -> Prop), tn i s.heap -> Q (.ref it) s -> wpAny (model P w) A (pyIter (.ref it)) Q E s
abbrev TI := St -> Hp -> (It -> Hp -> Prop) -> Prop
def PIE (X : Cx) (pins : List (Addr × Obj)) (σ : St) (tg : Expr) (R : It -> Hp -> Prop) (itv : Value) (s2 : Shared) : Prop :=
  ∃ (it : Addr) (fp : List Addr) (tn : Nat -> Heap -> Prop) (J : It) (H' : Hp), itv = .ref it /\ Inv X pins σ H' s2 /\ Turn X.prog X.w X.K tg J fp it tn /\ tn 0 s2.heap /\ (∀ b ∈ fp, z1R X pins H' b) /\ R J H'
def PI (X : Cx) (tg iter : Expr) (wi : TI) : Prop :=
  ∀ (pins : List (Addr × Obj)) (s : Shared) (σ : St) (H : Hp) (R : It -> Hp -> Prop), Inv X pins σ H s -> wi σ H R ->
    wpAny (model X.prog X.w) X.A (eval iter X.env) (fun v s1 => wpAny (model X.prog X.w) X.A (pyIter v) (PIE X pins σ tg R) X.xe s1) X.xe s
theorem z48 {M : Model} {A : Around} {E : Value -> Shared -> Prop} {s : Shared} {tg : Expr} {it : Addr} {u : Value} {o : Obj} {n : String} {vs : Array Value} {Q : Unit -> Shared -> Prop} (ho : s.heap.get? it = some o) (hc : o.cls = .type n) (hd : o.data = .fields vs)
    (hn : ["enumerate", "zip", "dict_itemiterator", "dict_reverseitemiterator", "odict_iterator", "itertools.zip_longest", "itertools.pairwise"].contains n = false) (hQ : Q () s) : wpAny M A (letOwnedTupleGo tg (.ref it) u) Q E s := by
  unfold letOwnedTupleGo
  cases tg <;> first
    | exact wpAny_pure hQ
    | (cases u <;> first
        | exact wpAny_pure hQ
        | (refine wpAny_bind (wpAny_load ho ?_)
           rw [hc, hd]
           show wpAny M A (if (["enumerate", "zip", "dict_itemiterator", "dict_reverseitemiterator", "odict_iterator", "itertools.zip_longest", "itertools.pairwise"].contains n && vs[0]? == some (rawInt _)) = true then _ else _) Q E s
           rw [if_neg (by intro h; rw [hn, Bool.false_and] at h; cases h)]
           exact wpAny_pure hQ))
def Itl (K : PySem.W.Frag) (a : Addr) : It :=
  ⟨fun i H => ∃ xs x, SqL K H a xs /\ xs[i]? = some x, fun i H x H' => H' = H /\ ∀ xs, SqL K H a xs -> xs[i]? = some x, fun i H => ∃ xs, SqL K H a xs /\ xs.length <= i⟩
def Itt (K : PySem.W.Frag) (a : Addr) : It :=
  ⟨fun i H => ∃ xs x, SqT K H a xs /\ xs[i]? = some x, fun i H x H' => H' = H /\ ∀ xs, SqT K H a xs -> xs[i]? = some x, fun i H => ∃ xs, SqT K H a xs /\ xs.length <= i⟩
def Itr (lo : Int) (n : Nat) : It := ⟨fun i _ => i < n, fun i H x H' => H' = H /\ x = .int (lo + i), fun i _ => n <= i⟩
theorem z2j {P : Program} {w : World} {K : PySem.W.Frag} {tg : Expr} (a it : Addr) : Turn P w K tg (Itl K a) [it] it (fun i h => h.IsListIter it a i) where
  mem := by simp
  obj := fun i h st b hb => by
    have e : b = it := by simpa using hb
    subst e
    obtain ⟨o, e, c, d⟩ := st
    exact ⟨o, e, fun v z => by rw [d] at z; cases z⟩
  keep := fun i h h' st k => st.at fun o e => k it (by simp) o e
  item := by
    intro X hP hw hK hc i pins s σ H E I hf st hg
    subst hP hw hK
    obtain ⟨xs, x, hq, hx⟩ := hg
    obtain ⟨its, rv, p, hz⟩ := I.list hq
    obtain ⟨u, hu, ru⟩ := rv.get hx
    obtain ⟨f0, f1, f2, f3, f4, f5⟩ := hf it (by simp)
    refine wpAny_pyNext_list_item st p.isList (x := u) (by simpa using hu) fun h' st' sb => ?_
    have I1 : Inv X pins σ H { s with heap := h' } := I.turned (t' := s.toks) (fun b o hb e => (sb.2 b hb).trans e) f0 f1 f3 f4 f5
    obtain ⟨o, e, c, d⟩ := id st'
    exact ⟨u, rfl, z48 (s := { s with heap := h' }) e c d (by decide) ⟨x, H, I1, ru, ⟨rfl, fun ys hy => by rw [I.list_inj hy hq]; exact hx⟩, st', fun b hb => (hf b hb).1⟩⟩
  done := by
    intro X hP hw hK hc i pins s σ H E I hf st hg
    subst hP hw hK
    obtain ⟨xs, hq, hx⟩ := hg
    obtain ⟨its, rv, p, hz⟩ := I.list hq
    obtain ⟨f0, f1, f2, f3, f4, f5⟩ := hf it (by simp)
    have hl := rv.length
    exact wpAny_pyNext_list_end (I.ok.hd hc) st p.isList (by simp; omega) fun h' eb => ⟨rfl, I.turned (t' := s.toks) (fun b o hb e => eb b o hb e) f0 f1 f3 f4 f5⟩
  self := fun _ _ _ _ _ st h => wpAny_pyIter_listiter st h
theorem z2V {P : Program} {w : World} {K : PySem.W.Frag} {tg : Expr} (it : Addr) (lo : Int) (n : Nat) : Turn P w K tg (Itr lo n) [it] it (fun i h => IsRangeIter h it (lo + (i : Nat) * 1) ((n : Int) - (i : Nat)) 1) where
  mem := by simp
  obj := fun i h st b hb => by
    have e : b = it := by simpa using hb
    subst e
    exact ⟨_, st, fun v z => by
      have z' : Data.fields _ = Data.cell v := z
      cases z'⟩
  keep := fun i h h' st k => k it (by simp) _ st
  item := by
    intro X hP hw hK hc i pins s σ H E I hf st hg
    subst hP hw hK
    obtain ⟨f0, f1, f2, f3, f4, f5⟩ := hf it (by simp)
    have W := Walks.range (prog := X.prog) (w := X.w) (I.ok.hd hc) it lo 1 n
    refine W.item i s _ _ hg st fun v h' tk hv st' kk => ?_
    obtain ⟨t, rfl⟩ := hv
    have I1 : Inv X pins σ H { s with heap := h', toks := tk } := I.turned (fun b o hb e => kk b o (by simpa using hb) e) f0 f1 f3 f4 f5
    refine ⟨_, rfl, z48 (s := { s with heap := h', toks := tk }) (n := "range_iterator") st' rfl rfl (by decide) ⟨.int (lo + i), H, I1, ⟨t, ?_⟩, ⟨rfl, rfl⟩, st', fun b hb => (hf b hb).1⟩⟩
    rw [Int.mul_one]
  done := by
    intro X hP hw hK hc i pins s σ H E I hf st hg
    subst hP hw hK
    obtain ⟨f0, f1, f2, f3, f4, f5⟩ := hf it (by simp)
    exact wpAny_pyNext_range_end (I.ok.hd hc) st (by have : n <= i := hg; omega) fun h' eb => ⟨rfl, I.turned (t' := s.toks) (fun b o hb e => eb b o hb e) f0 f1 f3 f4 f5⟩
  self := fun _ _ _ _ _ st h => wpAny_pyIter_rangeiter st h
section
variable {X : Cx} {tg : Expr}
def z5o (K : PySem.W.Frag) (tl : TE) : TI := fun σ H R => tl σ H fun x H1 => ∃ a, x = .ref a /\ (∃ xs, SqL K H1 a xs) /\ R (Itl K a) H1
def z8E (K : PySem.W.Frag) (tl : TE) : TI := fun σ H R => tl σ H fun x H1 => ∃ a, x = .ref a /\ (∃ xs, SqT K H1 a xs) /\ R (Itt K a) H1
theorem z1S {l : Expr} {tl : TE} (hl : PE X l tl) : PI X tg l (z5o X.K tl) := by
  intro pins s σ H R I h
  refine thn (hl pins s σ H _ I h) fun v s1 ⟨x, H1, I1, r1, q1⟩ => ?_
  obtain ⟨a, e, ⟨xs, hq⟩, q⟩ := q1
  subst e
  cases r1
  obtain ⟨its, rv, p, hz⟩ := I1.list hq
  refine wpAny_pyIter_list p.isList ?_
  refine ⟨s1.heap.objs.size, [s1.heap.objs.size], _, _, H1, rfl, I1.kept (t' := s1.toks) fun b o e => Heap.get?_push_of_some _ e, z2j a _, ⟨_, Heap.get?_push_size _ rfl, rfl, rfl⟩, fun b hb => ?_, q⟩
  have e : b = s1.heap.objs.size := by simpa using hb
  subst e
  exact I1.fpOk (Nat.le_refl _) (I1.hok.fresh (Nat.le_refl _))
theorem z3a {pins : List (Addr × Obj)} {σ : St} {H : Hp} {s : Shared} {R : It -> Hp -> Prop} {E : Value -> Shared -> Prop} {lo hi : Int} {t u v : Tok} {tk : Nat} (I : Inv X pins σ H s) (h1 : -(2 ^ 62) <= lo) (h2 : lo < 2 ^ 62) (h3 : -(2 ^ 62) <= hi) (h4 : hi < 2 ^ 62)
    (q : R (Itr lo (hi - lo).toNat) H) : wpAny (model X.prog X.w) X.A (pyIter (.ref s.heap.objs.size)) (PIE X pins σ tg R) E { s with heap := s.heap.push { cls := .type "range", data := .fields #[.int lo t, .int hi u, .int 1 v] }, toks := tk } := by
  refine wpAny_pyIter_range (IsRange.new ..) (small_one h1 h2 h3 h4) ?_
  have I1 : Inv X pins σ H { s with heap := s.heap.push { cls := .type "range", data := .fields #[.int lo t, .int hi u, .int 1 v] }, toks := tk } := I.kept fun b o e => Heap.get?_push_of_some _ e
  refine ⟨(s.heap.push { cls := .type "range", data := .fields #[.int lo t, .int hi u, .int 1 v] }).objs.size, [(s.heap.push { cls := .type "range", data := .fields #[.int lo t, .int hi u, .int 1 v] }).objs.size], _, _, H, rfl,
    I1.kept (t' := tk) fun b o e => Heap.get?_push_of_some _ e, z2V _ lo (hi - lo).toNat, ?_, fun b hb => ?_, q⟩
  . have e1 : lo + ((0 : Nat) : Int) * 1 = lo := by simp
    have e2 : (((hi - lo).toNat : Nat) : Int) - ((0 : Nat) : Int) = Builtin.Range.rangeSize lo hi 1 := by rw [rangeSize_one]; split <;> omega
    show IsRangeIter _ _ (lo + ((0 : Nat) : Int) * 1) ((((hi - lo).toNat : Nat) : Int) - ((0 : Nat) : Int)) 1
    rw [e1, e2]
    exact Heap.get?_push_size _ rfl
  . have e : b = (s.heap.push { cls := .type "range", data := .fields #[.int lo t, .int hi u, .int 1 v] }).objs.size := by simpa using hb
    subst e
    exact I1.fpOk (Nat.le_refl _) (I1.hok.fresh (Nat.le_refl _))
def z5p (ta : TA) : TI := fun σ H R => ta σ H fun vs H1 => ∃ j : Int, vs = [.int j] /\ -(2 ^ 62) <= j /\ j < 2 ^ 62 /\ R (Itr 0 j.toNat) H1
def z7R (ta : TA) : TI := fun σ H R => ta σ H fun vs H1 => ∃ i j : Int, vs = [.int i, .int j] /\ (-(2 ^ 62) <= i /\ i < 2 ^ 62 /\ -(2 ^ 62) <= j /\ j < 2 ^ 62) /\ R (Itr i (j - i).toNat) H1
theorem z0Y {a : Expr} {ta : TA} {p pos : Pos} (hg : Gl X "range") (hm : X.mg "range" = none) (ha : PA X [a] ta) (hs : starEach [a] X.env = [(false, eval a X.env)] := by rfl) : PI X tg (.Call (.Name "range" p) [a] [] pos) (z5p ta) := by
  intro pins s σ H R I h
  refine Call_ (z1C I hg hm boot_range (PyProof.Rows.callWith_type1 (thn (ha pos pins s σ H _ I h) fun us s1 ⟨vs, H1, I1, r1, q1⟩ => ?_) hs rfl))
  obtain ⟨j, e, q1, q2, q⟩ := q1
  subst e
  cases r1 with
  | cons r rr =>
    cases rr
    obtain ⟨t, rfl⟩ := r
    exact call_range_1 (z3a I1 (by omega) (by omega) q1 q2 (by simpa using q))
def z7S (wi : TI) (g : TG) (tb : TS) : TS := fun D σ H => wi σ H fun J H1 => ∃ W : Nat -> Nat -> St -> Hp -> Prop, (∃ m, W 0 m σ H1) /\ ∀ i m σ H, W i m σ H ->
  (J.stop i H /\ D.nx σ H) \/ (J.go i H /\ ∃ N : St -> Hp -> Prop, (∀ σ' H', N σ' H' -> ∃ m', m' < m /\ W (i + 1) m' σ' H') /\ ∀ x H', J.yld i H x H' -> g x σ H' fun σ2 H2 => tb { D with nx := N, ct := N, bk := D.nx } σ2 H2)
def z1i (fp : List Addr) (h : Heap) : List (Addr × Obj) := fp.filterMap fun b => (h.get? b).map fun o => (b, o)
theorem z0s {fp : List Addr} {h : Heap} {b : Addr} {o : Obj} (hb : b ∈ fp) (e : h.get? b = some o) : (b, o) ∈ z1i fp h := List.mem_filterMap.mpr ⟨b, hb, by rw [e]; rfl⟩
theorem z2k {fp : List Addr} {h : Heap} {p : Addr × Obj} (hp : p ∈ z1i fp h) : p.1 ∈ fp /\ h.get? p.1 = some p.2 := by
  obtain ⟨b, hb, e⟩ := List.mem_filterMap.mp hp
  cases q : h.get? b with
  | none => rw [q] at e; cases e
  | some o =>
    rw [q] at e
    have e' : (b, o) = p := Option.some.inj e
    subst e'
    exact ⟨hb, q⟩
theorem Inv.pinned {pins : List (Addr × Obj)} {σ : St} {H : Hp} {s : Shared} {fp : List Addr} (I : Inv X pins σ H s) (hf : ∀ b ∈ fp, z1R X pins H b) (ho : ∀ b ∈ fp, ∃ o, s.heap.get? b = some o /\ ∀ v, o.data ≠ .cell v) : Inv X (pins ++ z1i fp s.heap) σ H s :=
  I.pins_of fun p hp => (List.mem_append.mp hp).elim (fun z => I.pin p (List.mem_append_right _ z)) fun z => by
    obtain ⟨hb, e⟩ := z2k z
    obtain ⟨f0, f1, f2, _⟩ := hf p.1 hb
    obtain ⟨o, e', d⟩ := ho p.1 hb
    rw [e] at e'; cases e'
    exact ⟨e, f0, f1, f2, d⟩
theorem Inv.unpinned {pins pl : List (Addr × Obj)} {σ : St} {H : Hp} {s : Shared} (I : Inv X (pins ++ pl) σ H s) : Inv X pins σ H s := I.pins_of fun p hp => I.pin p (List.mem_append_right _ (List.mem_append_left _ hp))
theorem z14 {iter : Expr} {body : List Stmt} {wi : TI} {g : TG} {tb : TS} {pos : Pos} (hp : PassesOwn (model X.prog X.w) X.A X.env X.xe) (hc : X.calm = true) (hi : PI X tg iter wi) (hg : PG X tg g) (hb : PSs X body tb)
    (hs : ∀ x, foldedSetIterable iter X.env x = pure x := by intro _; rfl) : PS X (.For tg iter body [] pos) (z7S wi g tb) := by
  intro pins s σ H D I h
  refine wpAny_For (thn (hi pins s σ H _ I h) fun v s1 h1 => thn h1 fun itv s2 h2 => ?_) hs
  obtain ⟨it, fp, tn, J, H2, e, I2, T, st2, f2, W, ⟨m0, w0⟩, turn⟩ := h2
  subst e
  have stat : ∀ {H' : Hp}, (∀ b ∈ fp, H' b = none) -> ∀ b ∈ fp, z1R X pins H' b := fun hn b hb => ⟨hn b hb, (f2 b hb).2⟩
  refine codeAny_forLoop_any (fun n s' => ∃ i σ' H', Inv X pins σ' H' s' /\ tn i s'.heap /\ (∀ b ∈ fp, H' b = none) /\ W i n σ' H') ?_ m0 ⟨0, σ, H2, I2, st2, fun b hb => (f2 b hb).1, w0⟩
  rintro n s3 ⟨i, σ3, H3, I3, st3, fr3, w3⟩
  rcases turn i n σ3 H3 w3 with ⟨stop, qn⟩ | ⟨go, N, hN, step⟩
  . refine wpAny_passesOwn hp (thn (T.done X rfl rfl rfl hc i pins s3 σ3 H3 X.xe I3 (stat fr3) st3 stop) fun r s4 ⟨hr, I4⟩ => ?_)
    subst hr
    exact wpAny_execs_nil ⟨σ3, H3, I4, qn⟩
  . refine wpAny_passesOwn hp (thn (T.item X rfl rfl rfl hc i pins s3 σ3 H3 X.xe I3 (stat fr3) st3 go) fun r s4 ⟨u, hr, h4⟩ => ?_)
    subst hr
    refine wpAny_passesOwn hp (thn h4 fun _ s5 ⟨x, H5, I5, r5, y5, st5, fr5⟩ => ?_)
    have I5' := I5.pinned (stat fr5) (T.obj _ _ st5)
    refine wpAny_passesOwn hp (thn (hg _ s5 σ3 H5 x u _ I5' r5 (step x H5 y5)) fun _ s6 ⟨σ6, H6, I6, q6⟩ => ?_)
    refine wpAny_passesOwn hp (thn (hb _ s6 σ6 H6 _ I6 q6) fun f s7 q7 => ?_)
    have again : ∀ {σ7 : St} {H7 : Hp}, Inv X (pins ++ z1i fp s5.heap) σ7 H7 s7 -> N σ7 H7 -> ∃ m, m < n /\ ∃ i σ' H', Inv X pins σ' H' s7 /\ tn i s7.heap /\ (∀ b ∈ fp, H' b = none) /\ W i m σ' H' := fun {σ7 H7} I7 n7 => by
      obtain ⟨m', hm, w7⟩ := hN σ7 H7 n7
      refine ⟨m', hm, i + 1, σ7, H7, I7.unpinned, T.keep _ _ _ st5 fun b hb o e => (I7.pin (b, o) (List.mem_append_right _ (List.mem_append_right _ (z0s hb e)))).1, fun b hb => ?_, w7⟩
      obtain ⟨o, e, d⟩ := T.obj _ _ st5 b hb
      exact (I7.pin (b, o) (List.mem_append_right _ (List.mem_append_right _ (z0s hb e)))).2.1
    cases f with
    | next => obtain ⟨σ7, H7, I7, n7⟩ := q7; exact again I7 n7
    | cont => obtain ⟨σ7, H7, I7, n7⟩ := q7; exact again I7 n7
    | brk => obtain ⟨σ7, H7, I7, q7⟩ := q7; exact ⟨σ7, H7, I7.unpinned, q7⟩
    | ret v => obtain ⟨x7, σ7, H7, I7, r7, q7⟩ := q7; exact ⟨x7, σ7, H7, I7.unpinned, r7, q7⟩
end
theorem z1T {K : PySem.W.Frag} {a : Addr} {xs : List V} {g : TG} {tb : TS} {D : Ends} {σ : St} {H : Hp} (Pv : Nat -> St -> Hp -> Prop) (h0 : Pv 0 σ H) (hl : ∀ i σ H, i <= xs.length -> Pv i σ H -> SqL K H a xs)
    (hs : ∀ i x σ H, xs[i]? = some x -> Pv i σ H -> g x σ H fun σ2 H2 => tb { D with nx := Pv (i + 1), ct := Pv (i + 1), bk := D.nx } σ2 H2) (hd : ∀ σ H, Pv xs.length σ H -> D.nx σ H) :
    ∃ W : Nat -> Nat -> St -> Hp -> Prop, (∃ m, W 0 m σ H) /\ ∀ i m σ H, W i m σ H ->
      ((Itl K a).stop i H /\ D.nx σ H) \/ ((Itl K a).go i H /\ ∃ N : St -> Hp -> Prop, (∀ σ' H', N σ' H' -> ∃ m', m' < m /\ W (i + 1) m' σ' H') /\ ∀ x H', (Itl K a).yld i H x H' -> g x σ H' fun σ2 H2 => tb { D with nx := N, ct := N, bk := D.nx } σ2 H2) := by
  refine ⟨fun i m σ H => m = xs.length - i /\ i <= xs.length /\ Pv i σ H, ⟨xs.length, by simp, Nat.zero_le _, h0⟩, ?_⟩
  rintro i m σ H ⟨rfl, hi, p⟩
  have q := hl i σ H hi p
  by_cases hlt : i < xs.length
  . refine .inr ⟨⟨xs, xs[i], q, by simp [hlt]⟩, Pv (i + 1), fun σ' H' p' => ⟨xs.length - (i + 1), by omega, rfl, hlt, p'⟩, fun x H' y => ?_⟩
    obtain ⟨e, y⟩ := y
    subst e
    exact hs i x σ _ (y xs q) p
  . have e : i = xs.length := by omega
    subst e
    exact .inl ⟨⟨xs, q, Nat.le_refl _⟩, hd σ H p⟩
theorem z0z {lo : Int} {n : Nat} {g : TG} {tb : TS} {D : Ends} {σ : St} {H : Hp} (Pv : Nat -> St -> Hp -> Prop) (h0 : Pv 0 σ H)
    (hs : ∀ i σ H, i < n -> Pv i σ H -> g (.int (lo + i)) σ H fun σ2 H2 => tb { D with nx := Pv (i + 1), ct := Pv (i + 1), bk := D.nx } σ2 H2) (hd : ∀ σ H, Pv n σ H -> D.nx σ H) :
    ∃ W : Nat -> Nat -> St -> Hp -> Prop, (∃ m, W 0 m σ H) /\ ∀ i m σ H, W i m σ H ->
      ((Itr lo n).stop i H /\ D.nx σ H) \/ ((Itr lo n).go i H /\ ∃ N : St -> Hp -> Prop, (∀ σ' H', N σ' H' -> ∃ m', m' < m /\ W (i + 1) m' σ' H') /\ ∀ x H', (Itr lo n).yld i H x H' -> g x σ H' fun σ2 H2 => tb { D with nx := N, ct := N, bk := D.nx } σ2 H2) := by
  refine ⟨fun i m σ H => m = n - i /\ i <= n /\ Pv i σ H, ⟨n, by simp, Nat.zero_le _, h0⟩, ?_⟩
  rintro i m σ H ⟨rfl, hi, p⟩
  by_cases hlt : i < n
  . refine .inr ⟨hlt, Pv (i + 1), fun σ' H' p' => ⟨n - (i + 1), by omega, rfl, hlt, p'⟩, fun x H' y => ?_⟩
    obtain ⟨e, y⟩ := y
    subst e y
    exact hs i σ _ hlt p
  . have e : i = n := by omega
    subst e
    exact .inl ⟨Nat.le_refl _, hd σ H p⟩
abbrev R2 := V -> V -> Hp -> VK -> Prop
def OpR (X : Cx) (f : Value -> Value -> Sem Value) (r : R2) : Prop :=
  ∀ (pins : List (Addr × Obj)) (s : Shared) (σ : St) (H : Hp) (x y : V) (v u : Value) (Q : VK), Inv X pins σ H s -> RelV x v -> RelV y u -> r x y H Q ->
    wpAny (model X.prog X.w) X.A (f v u) (EP X pins σ Q) X.xe s
def UnR (X : Cx) (f : Value -> Sem Value) (r : V -> Hp -> VK -> Prop) : Prop :=
  ∀ (pins : List (Addr × Obj)) (s : Shared) (σ : St) (H : Hp) (x : V) (v : Value) (Q : VK), Inv X pins σ H s -> RelV x v -> r x H Q ->
    wpAny (model X.prog X.w) X.A (f v) (EP X pins σ Q) X.xe s
def CallR (X : Cx) (f : Value) (r : List V -> Hp -> VK -> Prop) : Prop :=
  ∀ (pins : List (Addr × Obj)) (s : Shared) (σ : St) (H : Hp) (xs : List V) (us : List Value) (Q : VK), Inv X pins σ H s -> Vals xs us -> r xs H Q ->
    wpAny (model X.prog X.w) X.A (call f us) (EP X pins σ Q) X.xe s
def z8F (X : Cx) (r : V -> Hp -> (Bool -> Hp -> Prop) -> Prop) : Prop :=
  ∀ (pins : List (Addr × Obj)) (s : Shared) (σ : St) (H : Hp) (x : V) (v : Value) (Q : Bool -> Hp -> Prop), Inv X pins σ H s -> RelV x v -> r x H Q ->
    wpAny (model X.prog X.w) X.A (truthy v) (TP X pins σ Q) X.xe s
def tOp (r : R2) (ta tb : TE) : TE := fun σ H Q => ta σ H fun x H1 => tb σ H1 fun y H2 => r x y H2 Q
def tUn (r : V -> Hp -> VK -> Prop) (ta : TE) : TE := fun σ H Q => ta σ H fun x H1 => r x H1 Q
def rI (C : Int -> Int -> Prop) (g : Int -> Int -> V) : R2 := fun x y H Q => ∃ i j, x = .int i /\ y = .int j /\ C i j /\ Q (g i j) H
def rI0 (g : Int -> Int -> V) : R2 := fun x y H Q => ∃ i j, x = .int i /\ y = .int j /\ Q (g i j) H
def rU (g : Int -> V) : V -> Hp -> VK -> Prop := fun x H Q => ∃ i, x = .int i /\ Q (g i) H
section
variable {X : Cx} {a b c : Expr} {ta tb tc : TE} {pos : Pos}
theorem z6e (ha : PE X a ta) (hb : PE X b tb) {pins : List (Addr × Obj)} {s : Shared} {σ : St} {H : Hp} {R : V -> V -> Hp -> Prop} (I : Inv X pins σ H s)
    (h : ta σ H fun x H1 => tb σ H1 fun y H2 => R x y H2) {Q : Value -> Shared -> Prop} {f : Value -> Value -> Sem Value}
    (hf : ∀ v u s2 x y H2, Inv X pins σ H2 s2 -> RelV x v -> RelV y u -> R x y H2 -> wpAny (model X.prog X.w) X.A (f v u) Q X.xe s2) :
    wpAny (model X.prog X.w) X.A (eval a X.env) (fun v s₁ => wpAny (model X.prog X.w) X.A (eval b X.env) (fun u s₂ => wpAny (model X.prog X.w) X.A (f v u) Q X.xe s₂) X.xe s₁) X.xe s := by
  refine thn (ha pins s σ H _ I h) fun v s1 ⟨x, H1, I1, r1, q1⟩ => ?_
  refine thn (hb pins s1 σ H1 _ I1 q1) fun u s2 ⟨y, H2, I2, r2, q2⟩ => ?_
  exact hf v u s2 x y H2 I2 r1 r2 q2
theorem z0E {op : Operator} {r : R2} (ho : OpR X (binaryOp op) r) (ha : PE X a ta) (hb : PE X b tb) : PE X (.BinOp a op b pos) (tOp r ta tb) := by
  intro pins s σ H Q I h
  exact wpAny_BinOp (z6e ha hb I h fun v u s2 x y H2 I2 rx ry q => ho pins s2 σ H2 x y v u Q I2 rx ry q)
theorem opI {f : Value -> Value -> Sem Value} {C : Int -> Int -> Prop} {g : Int -> Int -> Int}
    (rule : ∀ (i j : Int) (t u : Tok) (s : Shared) (Q : Value -> Shared -> Prop) (E : Value -> Shared -> Prop), C i j -> Q (.int (g i j) s.toks) { s with toks := s.toks + 1 } -> wpAny (model X.prog X.w) X.A (f (.int i t) (.int j u)) Q E s) :
    OpR X f (rI C fun i j => .int (g i j)) := by
  intro pins s σ H x y v u Q I rx ry h
  obtain ⟨i, j, rfl, rfl, hc, q⟩ := h
  obtain ⟨t, rfl⟩ := rx
  obtain ⟨t', rfl⟩ := ry
  exact rule i j t t' s _ _ hc ⟨.int (g i j), H, I.tok _, ⟨_, rfl⟩, q⟩
theorem z5q {f : Value -> Value -> Sem Value} {g : Int -> Int -> Int}
    (rule : ∀ (i j : Int) (t u : Tok) (s : Shared) (Q : Value -> Shared -> Prop) (E : Value -> Shared -> Prop), Q (.int (g i j) s.toks) { s with toks := s.toks + 1 } -> wpAny (model X.prog X.w) X.A (f (.int i t) (.int j u)) Q E s) :
    OpR X f (rI0 fun i j => .int (g i j)) := by
  intro pins s σ H x y v u Q I rx ry h
  obtain ⟨i, j, rfl, rfl, q⟩ := h
  obtain ⟨t, rfl⟩ := rx
  obtain ⟨t', rfl⟩ := ry
  exact rule i j t t' s _ _ ⟨.int (g i j), H, I.tok _, ⟨_, rfl⟩, q⟩
theorem z5r {f : Value -> Value -> Sem Value} {g : Int -> Int -> Bool}
    (rule : ∀ (i j : Int) (t u : Tok) (s : Shared) (Q : Value -> Shared -> Prop) (E : Value -> Shared -> Prop), Q (.bool (g i j)) s -> wpAny (model X.prog X.w) X.A (f (.int i t) (.int j u)) Q E s) :
    OpR X f (rI0 fun i j => .bl (g i j)) := by
  intro pins s σ H x y v u Q I rx ry h
  obtain ⟨i, j, rfl, rfl, q⟩ := h
  obtain ⟨t, rfl⟩ := rx
  obtain ⟨t', rfl⟩ := ry
  exact rule i j t t' s _ _ ⟨.bl (g i j), H, I, rfl, q⟩
def z8G (i j : Int) : Prop := 0 < j /\ j < 1073741824
def z7T (i j : Int) : Prop := j ≠ 0 /\ j.natAbs < 1073741824
def z6f (i j : Int) : Prop := 0 <= j /\ j <= 1000000 /\ i.natAbs < 2 ^ 64
def CMul (i j : Int) : Prop := (-(2 ^ 64) < i /\ i < 2 ^ 64) \/ (-(2 ^ 64) < j /\ j < 2 ^ 64)
theorem CMul.ok {i j : Int} (h : CMul i j) : IntMulOk i j := by
  rcases h with ⟨h1, h2⟩ | ⟨h1, h2⟩
  . exact .of_left (intBits_le_64 h1 h2)
  . exact .of_right (intBits_le_64 h1 h2)
theorem z2W (k : Nat) : (0 : Int) <= 2 ^ k := by
  rw [two_pow_cast]
  exact Int.natCast_nonneg _
theorem z0U : OpR X (binaryOp .Add) (rI0 fun i j => .int (i + j)) := z5q fun _ _ _ _ _ _ _ q => add_int q
theorem z2l : OpR X (binaryOp .Sub) (rI0 fun i j => .int (i - j)) := z5q fun _ _ _ _ _ _ _ q => sub_int q
theorem z0u : OpR X (binaryOp .Mult) (rI CMul fun i j => .int (i * j)) := opI fun _ _ _ _ _ _ _ hc q => mul_int q hc.ok
theorem z15 : OpR X (binaryOp .Mod) (rI (fun _ j => 0 < j) fun i j => .int (i % j)) := opI fun i j _ _ _ _ _ hc q => by
  have h1 : (0 : Int) < j := hc
  exact mod_int' (by omega) (by rw [Int.fmod_eq_emod_of_nonneg i (by omega)]; exact q)
theorem z2H : OpR X (binaryOp .Pow) (rI z6f fun i j => .int (i ^ j.toNat)) := opI fun _ _ _ _ _ _ _ hc q => pow_int_small hc.1 hc.2.1 hc.2.2 q
theorem z3u : OpR X (binaryOp .RShift) (rI (fun _ j => 0 <= j) fun i j => .int (i / 2 ^ j.toNat)) := opI fun i j _ _ _ _ _ hc q =>
  rshift_int hc (by rw [Int.fdiv_eq_ediv_of_nonneg i (z2W _)]; exact q)
theorem z3v : OpR X (binaryOp .BitAnd) (rI0 fun i j => .int (Builtin.bitAnd i j)) := z5q fun _ _ _ _ _ _ _ q => and_int q
end
def z4s : V -> V -> Bool
  | .non, .non => true | .non, .int _ => true | .int _, .non => true | .non, .bl _ => true | .bl _, .non => true | .non, .str _ => true | .str _, .non => true
  | .int _, .int _ => true | .bl _, .bl _ => true | .str _, .str _ => true | .byt _, .byt _ => true
  | .int _, .str _ => true | .str _, .int _ => true | .bl _, .str _ => true | .str _, .bl _ => true
  | _, _ => false
def rEq : R2 := fun x y H Q => z4s x y = true /\ Q (.bl (decide (x = y))) H
def rNe : R2 := fun x y H Q => z4s x y = true /\ Q (.bl (!decide (x = y))) H
theorem z2m {i j : Int} : decide (V.int i = V.int j) = (i == j) := by
  rw [Bool.eq_iff_iff]
  simp
theorem z3w {i j : Bool} : decide (V.bl i = V.bl j) = (i == j) := by
  rw [Bool.eq_iff_iff]
  simp
theorem z2n {i j : Str} : decide (V.str i = V.str j) = (i == j) := by
  rw [Bool.eq_iff_iff]
  simp
theorem z2o {i j : Array UInt8} : decide (V.byt i = V.byt j) = (i.toList == j.toList) := by
  rw [Bool.eq_iff_iff]
  cases i
  cases j
  simp
section
variable {X : Cx} {a b c : Expr} {ta tb tc : TE} {pos : Pos}
theorem z0D {pins : List (Addr × Obj)} {σ : St} {H : Hp} {s : Shared} {Q : VK} {k k' : Bool} (I : Inv X pins σ H s) (q : Q (.bl k) H) (e : k = k') : EP X pins σ Q (.bool k') s := by
  subst e
  exact ⟨.bl k, H, I, rfl, q⟩
theorem z1U : OpR X (compareOp .Eq) rEq := by
  intro pins s σ H x y v u Q I rx ry h
  obtain ⟨hs, q⟩ := h
  cases x with
  | non =>
    cases rx
    cases y with
    | non => cases ry; exact PySem.EqNone.eq_none_none (z0D I q (by simp))
    | bl j => cases ry; exact PySem.EqNone.eq_none_bool (z0D I q (by simp))
    | int j => obtain ⟨t', rfl⟩ := ry; exact PySem.EqNone.eq_none_int (z0D I q (by simp))
    | str j => obtain ⟨t', rfl⟩ := ry; exact PySem.EqNone.eq_none_str (z0D I q (by simp))
    | _ => exact absurd (show false = true from hs) Bool.false_ne_true
  | bl i =>
    cases rx
    cases y with
    | non => cases ry; exact PySem.EqNone.eq_bool_none (z0D I q (by simp))
    | bl j => cases ry; exact eq_bool (z0D I q z3w)
    | str j => obtain ⟨t', rfl⟩ := ry; exact PySem.EqMixed.eq_bool_str (z0D I q (by simp))
    | _ => exact absurd (show false = true from hs) Bool.false_ne_true
  | int i =>
    obtain ⟨t, rfl⟩ := rx
    cases y with
    | non => cases ry; exact PySem.EqNone.eq_int_none (z0D I q (by simp))
    | int j => obtain ⟨t', rfl⟩ := ry; exact eq_int (z0D I q z2m)
    | str j => obtain ⟨t', rfl⟩ := ry; exact PySem.EqMixed.eq_int_str (z0D I q (by simp))
    | _ => exact absurd (show false = true from hs) Bool.false_ne_true
  | str i =>
    obtain ⟨t, rfl⟩ := rx
    cases y with
    | non => cases ry; exact PySem.EqNone.eq_str_none (z0D I q (by simp))
    | bl j => cases ry; exact PySem.EqMixed.eq_str_bool (z0D I q (by simp))
    | int j => obtain ⟨t', rfl⟩ := ry; exact PySem.EqMixed.eq_str_int (z0D I q (by simp))
    | str j => obtain ⟨t', rfl⟩ := ry; exact eq_str (z0D I q z2n)
    | _ => exact absurd (show false = true from hs) Bool.false_ne_true
  | byt i =>
    obtain ⟨t, rfl⟩ := rx
    cases y with
    | byt j => obtain ⟨t', rfl⟩ := ry; exact PySem.W.eq_bytes (z0D I q z2o)
    | _ => exact absurd (show false = true from hs) Bool.false_ne_true
  | _ => cases y <;> exact absurd (show false = true from hs) Bool.false_ne_true
theorem z49 : OpR X (compareOp .NotEq) rNe := by
  intro pins s σ H x y v u Q I rx ry h
  obtain ⟨hs, q⟩ := h
  cases x with
  | non =>
    cases rx
    cases y with
    | non => cases ry; exact PySem.EqNone.ne_none_none (z0D I q (by simp))
    | bl j => cases ry; exact PySem.EqNone.ne_none_bool (z0D I q (by simp))
    | int j => obtain ⟨t', rfl⟩ := ry; exact PySem.EqNone.ne_none_int (z0D I q (by simp))
    | str j => obtain ⟨t', rfl⟩ := ry; exact PySem.EqNone.ne_none_str (z0D I q (by simp))
    | _ => exact absurd (show false = true from hs) Bool.false_ne_true
  | bl i =>
    cases rx
    cases y with
    | non => cases ry; exact PySem.EqNone.ne_bool_none (z0D I q (by simp))
    | bl j => cases ry; exact ne_bool (z0D I q (congrArg not z3w))
    | str j => obtain ⟨t', rfl⟩ := ry; exact PySem.EqMixed.ne_bool_str (z0D I q (by simp))
    | _ => exact absurd (show false = true from hs) Bool.false_ne_true
  | int i =>
    obtain ⟨t, rfl⟩ := rx
    cases y with
    | non => cases ry; exact PySem.EqNone.ne_int_none (z0D I q (by simp))
    | int j => obtain ⟨t', rfl⟩ := ry; exact ne_int (z0D I q (congrArg not z2m))
    | str j => obtain ⟨t', rfl⟩ := ry; exact PySem.EqMixed.ne_int_str (z0D I q (by simp))
    | _ => exact absurd (show false = true from hs) Bool.false_ne_true
  | str i =>
    obtain ⟨t, rfl⟩ := rx
    cases y with
    | non => cases ry; exact PySem.EqNone.ne_str_none (z0D I q (by simp))
    | bl j => cases ry; exact PySem.EqMixed.ne_str_bool (z0D I q (by simp))
    | int j => obtain ⟨t', rfl⟩ := ry; exact PySem.EqMixed.ne_str_int (z0D I q (by simp))
    | str j => obtain ⟨t', rfl⟩ := ry; exact ne_str (z0D I q (congrArg not z2n))
    | _ => exact absurd (show false = true from hs) Bool.false_ne_true
  | byt i =>
    obtain ⟨t, rfl⟩ := rx
    cases y with
    | byt j => obtain ⟨t', rfl⟩ := ry; exact PySem.W.ne_bytes (z0D I q (congrArg not z2o))
    | _ => exact absurd (show false = true from hs) Bool.false_ne_true
  | _ => cases y <;> exact absurd (show false = true from hs) Bool.false_ne_true
theorem z4A : OpR X (compareOp .Lt) (rI0 fun i j => .bl (decide (i < j))) := z5r fun _ _ _ _ _ _ _ q => lt_int q
theorem z4t : OpR X (compareOp .LtE) (rI0 fun i j => .bl (decide (i <= j))) := z5r fun _ _ _ _ _ _ _ q => le_int q
theorem z4B : OpR X (compareOp .GtE) (rI0 fun i j => .bl (decide (j <= i))) := z5r fun _ _ _ _ _ _ _ q => ge_int q
theorem z2p : OpR X (compareOp .Is) (fun x y H Q => y = .non /\ Q (.bl (decide (x = .non))) H) := by
  intro pins s σ H x y v u Q I rx ry h
  obtain ⟨rfl, q⟩ := h
  cases ry
  refine is_none_gen (z0D I q ?_)
  cases x <;> first
    | (cases rx; rfl)
    | (obtain ⟨t, rfl⟩ := rx; rfl)
theorem z2q : OpR X (compareOp .IsNot) (fun x y H Q => y = .non /\ Q (.bl (!decide (x = .non))) H) := by
  intro pins s σ H x y v u Q I rx ry h
  obtain ⟨rfl, q⟩ := h
  cases ry
  refine isnot_none_gen (z0D I q ?_)
  cases x <;> first
    | (cases rx; rfl)
    | (obtain ⟨t, rfl⟩ := rx; rfl)
def isObj : HO -> Bool
  | .lst _ => true
  | .ins _ _ _ => true
  | _ => false
theorem OpR.or {f : Value -> Value -> Sem Value} {r r' : R2} (h : OpR X f r) (h' : OpR X f r') : OpR X f (fun x y H Q => r x y H Q \/ r' x y H Q) := by
  intro pins s σ H x y v u Q I rx ry q
  rcases q with q | q
  . exact h pins s σ H x y v u Q I rx ry q
  . exact h' pins s σ H x y v u Q I rx ry q
theorem z0J (b : Expr) {op : CmpOp} (h : op ≠ .In := by decide) (h2 : op ≠ .NotIn := by decide) : behindInMarks op b = false := by
  have e1 : (op == CmpOp.In) = false := by cases op <;> first | rfl | exact absurd rfl h
  have e2 : (op == CmpOp.NotIn) = false := by cases op <;> first | rfl | exact absurd rfl h2
  cases b <;> simp [behindInMarks, e1, e2]
def z5s (t : TE) : TT := fun σ H Q => t σ H fun x H' => ∃ k, x = .bl k /\ Q k H'
theorem z0B {op : CmpOp} {r : R2} (ho : OpR X (compareOp op) r) (ha : PE X a ta) (hb : PE X b tb) (hm : behindInMarks op b = false) : PT X (.Compare a [op] [b] pos) (z5s (tOp r ta tb)) := by
  intro pins s σ H Q I h
  refine wpAny_isTrue_Compare1 (thn (ha pins s σ H _ I h) fun v s1 ⟨x, H1, I1, r1, q1⟩ => thn (hb pins s1 σ H1 _ I1 q1) fun u s2 ⟨y, H2, I2, r2, q2⟩ =>
    thn (ho pins s2 σ H2 x y v u _ I2 r1 r2 q2) fun c s3 ⟨z, H3, I3, r3, k, e, q3⟩ => ?_) hm
  subst e
  cases r3
  exact wpAny_truthy_bool ⟨H3, I3, q3⟩
def z6g (r r' : R2) (ta tb tc : TE) : TE := fun σ H Q => ta σ H fun x H1 => tb σ H1 fun y H2 => r x y H2 fun z H3 => ∃ k, z = .bl k /\
  (if k = true then tc σ H3 fun w' H4 => r' y w' H4 Q else Q (.bl false) H3)
def z8H (K : PySem.W.Frag) (x : V) (H : Hp) (k : Bool) : Prop :=
  match x with
  | .non => k = false
  | .bl b => k = b
  | .int i => k = (i != 0)
  | .str y => y.length <= sizeLine /\ k = ((y.length : Int) != 0)
  | .byt y => y.size <= sizeLine /\ k = ((y.size : Int) != 0)
  | .ref p => (∃ xs, SqL K H p xs /\ k = !xs.isEmpty) \/ (∃ xs, SqT K H p xs /\ k = !xs.isEmpty) \/ ∃ kvs, H p = some (.dK kvs) /\ k = !kvs.isEmpty
  | _ => False
theorem z2I : (sizeLine : Nat) < 2 ^ 63 := by rw [sizeLine_eq]; decide
def z5U (b : Expr) : Prop := ∀ o i, subscripted b false o i = operate [o, i] (getItem o i)
theorem vals1 {x : V} {us : List Value} (r : Vals [x] us) : ∃ u, us = [u] /\ RelV x u := by
  cases r with
  | cons r1 r2 => cases r2; exact ⟨_, rfl, r1⟩
theorem vals2 {x y : V} {us : List Value} (r : Vals [x, y] us) : ∃ u w', us = [u, w'] /\ RelV x u /\ RelV y w' := by
  cases r with
  | cons r1 r2 =>
    cases r2 with
    | cons r3 r4 => cases r4; exact ⟨_, _, rfl, r1, r3⟩
def z8I (K : PySem.W.Frag) (x : V) (H : Hp) (n : Nat) : Prop :=
  match x with
  | .str y => y.length <= sizeLine /\ n = y.length
  | .byt y => y.size <= sizeLine /\ n = y.size
  | .ref p => (∃ xs, SqL K H p xs /\ n = xs.length) \/ ∃ xs, SqT K H p xs /\ n = xs.length
  | _ => False
end
structure ObjM (h : Heap) (x dx C : Addr) (mA : Str -> Option Value) : Prop where
  obj : h.get? x = some (PySem.W.instObj C dx)
  ns : h.Ns1 dx mA
  ne : dx ≠ x
theorem z2r {h : Heap} {dx : Addr} {mA : Str -> Option Value} (n : h.Ns1 dx mA) : ∃ od, h.get? dx = some od /\ ∀ name, PySem.W.lookIn name od = some (mA name) := by
  obtain ⟨o, es, ep, ho, hd, hk, _, hm⟩ := n
  refine ⟨o, ho, fun name => ?_⟩
  have e := hm name
  unfold nsFind findBy at e
  rw [<- Array.find?_toList] at e
  unfold PySem.W.lookIn
  rw [hd]
  dsimp only
  split
  . rename_i y q
    rw [q] at e
    exact congrArg some e
  . rename_i q
    rw [q] at e
    have a : es.toList.any (·.refKey) = false := by
      rw [List.any_eq_false]
      intro y hy
      obtain ⟨z, t, hkey⟩ := hk y (Array.mem_toList_iff.mp hy)
      simp [DictEntry.refKey, hkey]
    have a' : ¬ es.toList.any (·.refKey) = true := by rw [a]; exact Bool.false_ne_true
    rw [if_neg a']
    exact congrArg some e
theorem ObjM.look {h : Heap} {x dx C : Addr} {mA : Str -> Option Value} (I : ObjM h x dx C mA) : ∃ od, PySem.W.InstAt h x (PySem.W.instObj C dx) C (some od) /\ ∀ name, PySem.W.lookIn name od = some (mA name) :=
  let ⟨od, ho, hl⟩ := z2r I.ns
  ⟨od, ⟨I.obj, rfl, rfl, ho⟩, hl⟩
section
variable {prog : Program} {w : World} {A : Around} {E : Value -> Shared -> Prop} {s : Shared} {K : PySem.W.Frag} {x dx C f : Addr} {mA : Str -> Option Value} {name : Str} {v : Value}
end
def z5t (f : Str) (v : V) : List (Str × V) -> List (Str × V)
  | [] => [(f, v)]
  | (g, x) :: r => if g = f then (g, v) :: r else (g, x) :: z5t f v r
section
variable {P : Program} {w : World} {H H' : Hp} {h h' : Heap} {a C dx : Addr} {fs fs' : List (Str × V)}
theorem z4C (hok : HOk P w H h) (e : H a = some (.ins C dx fs)) : ∃ mA, ObjM h a dx C mA /\ (∀ f, RelO (fs.lookup f) (mA f)) /\ PySem.Within mA (fs.map (·.1)) /\ fs.length <= 1000 /\ H dx = some (.own a) := by
  obtain ⟨d, z, ne, ob, mA, n, r, q⟩ := (show ObjOk P w H h a (.ins C dx fs) from hok a _ e)
  exact ⟨mA, ⟨ob, n, ne⟩, r, q, z, d⟩
end
structure Cls (K : PySem.W.Frag) (C : Addr) : Prop where
  pg : PySem.W.plainGet K C Str.empty = true
  hd : PySem.W.hasDictIn K C = true
  po : PySem.W.plainOver K C = true
  sa : PySem.W.findIn K (.ref C) "__setattr__" = some (some (.builtin "object.__setattr__"))
theorem Cls.get {K : PySem.W.Frag} {C : Addr} (c : Cls K C) (f : Str) : PySem.W.plainGet K C f = true := c.pg
def z2s (K : PySem.W.Frag) (C : Addr) (f : Str) : Prop := PySem.W.findIn K (.ref C) f = some none
structure Con (K : PySem.W.Frag) (C : Addr) (f : Str) (v : V) (u : Value) : Prop where
  at_ : PySem.W.findIn K (.ref C) f = some (some u)
  rel : RelV v u
  get : PySem.W.specialIn K u "__get__" = some none
  cp : PySem.W.copiedNames.contains f = false
structure Meth (K : PySem.W.Frag) (C : Addr) (m : Str) (f : Addr) : Prop where
  at_ : PySem.W.findIn K (.ref C) m = some (some (.ref f))
  fn : PySem.W.isFn K (.ref f) = true
  kp : PySem.W.keepIn K (.ref f) = true
section
variable {X : Cx} {pins : List (Addr × Obj)} {σ : St} {H : Hp} {s : Shared} {a C dx : Addr} {fs : List (Str × V)} {f : Str} {v : V} {A : Around} {E : Value -> Shared -> Prop}
theorem Inv.made (I : Inv X pins σ H s) : Inv X pins σ (upd (upd H s.heap.objs.size (.own (s.heap.objs.size + 1))) (s.heap.objs.size + 1) (.ins C s.heap.objs.size []))
    { s with heap := (s.heap.push PySem.W.emptyDict).push (PySem.W.instObj C s.heap.objs.size) } := by
  have e1 : (s.heap.push PySem.W.emptyDict).get? s.heap.objs.size = some PySem.W.emptyDict := Heap.get?_push_size s.heap rfl
  have e2 : ((s.heap.push PySem.W.emptyDict).push (PySem.W.instObj C s.heap.objs.size)).get? (s.heap.objs.size + 1) = some (PySem.W.instObj C s.heap.objs.size) := by
    have := Heap.get?_push_size (s.heap.push PySem.W.emptyDict) (o := PySem.W.instObj C s.heap.objs.size) rfl
    rwa [Heap.size_push] at this
  have e3 : (s.heap.push PySem.W.emptyDict).Ns s.heap.objs.size (fun _ => none) := ⟨PySem.W.emptyDict, #[], _, e1, rfl, (fun e he => absurd he (by simp)), fun _ => rfl⟩
  have I1 := I.laid (a := s.heap.objs.size) (o := .own (s.heap.objs.size + 1)) (h' := s.heap.push PySem.W.emptyDict) (t' := s.toks) (fun b u q => Heap.get?_push_of_some _ q) (Nat.le_refl _) ⟨_, e1⟩
  refine I1.laid (a := s.heap.objs.size + 1) (o := .ins C s.heap.objs.size []) (t' := s.toks) (fun b u q => Heap.get?_push_of_some _ q) (Nat.le_of_eq (Heap.size_push _ _)) ?_
  have ne : s.heap.objs.size ≠ s.heap.objs.size + 1 := Nat.ne_of_lt (Nat.lt_succ_self _)
  refine ⟨by rw [z04 ne, z06], Nat.zero_le _, ne, e2, fun _ => none, (Heap.Ns1.of_empty e3).at fun o q => Heap.get?_push_of_some _ q, fun _ => True.intro, fun y hy => absurd rfl hy⟩
end
def z8J (K : PySem.W.Frag) (ta : TE) (f : Str) : TE := fun σ H Q => ta σ H fun x H1 => ∃ a C dx fs v, x = .ref a /\ H1 a = some (.ins C dx fs) /\ Cls K C /\ z2s K C f /\ fs.lookup f = some v /\ Q v H1
def z8K (K : PySem.W.Frag) (ta : TE) (f : Str) : TE := fun σ H Q => ta σ H fun x H1 => ∃ a C dx fs v u, x = .ref a /\ H1 a = some (.ins C dx fs) /\ Cls K C /\ Con K C f v u /\ fs.lookup f = none /\ Q v H1
def z8L (K : PySem.W.Frag) (ta tv : TE) (f : Str) : TS := fun D σ H => tv σ H fun y H1 => ta σ H1 fun x H2 => ∃ a C dx fs, x = .ref a /\ H2 a = some (.ins C dx fs) /\ Cls K C /\ z2s K C f /\ fs.length < 1000 /\
  D.nx σ (upd H2 a (.ins C dx (z5t f y fs)))
def z8M (X : Cx) (op : Operator) (rd : V -> V -> Hp -> VK -> Prop) : Prop :=
  ∀ (pins : List (Addr × Obj)) (s : Shared) (σ : St) (H : Hp) (x y : V) (u v : Value) (Q : VK), Inv X pins σ H s -> RelV x u -> RelV y v -> rd x y H Q -> wpAny (model X.prog X.w) X.A (inplaceOp op u v) (EP X pins σ Q) X.xe s
def z5u (K : PySem.W.Frag) (ta tv : TE) (rd : V -> V -> Hp -> VK -> Prop) (f : Str) : TS := fun D σ H => ta σ H fun x H1 => ∃ a C dx fs v, x = .ref a /\ H1 a = some (.ins C dx fs) /\ Cls K C /\ z2s K C f /\ fs.lookup f = some v /\
  tv σ H1 fun y H2 => rd v y H2 fun z H3 => ∃ dx' fs', H3 a = some (.ins C dx' fs') /\ fs'.length < 1000 /\ D.nx σ (upd H3 a (.ins C dx' (z5t f z fs')))
section
variable {X : Cx} {o e value : Expr} {f : Str} {pos pos' tpos : Pos} {ta tv : TE}
def z8N : V -> V -> Hp -> VK -> Prop := fun x y H Q => ∃ i j, x = .int i /\ y = .int j /\ Q (.int (i + j)) H
def z8O : V -> V -> Hp -> VK -> Prop := fun x y H Q => ∃ i j, x = .int i /\ y = .int j /\ Q (.int (i - j)) H
end
section
variable {X : Cx} {pins : List (Addr × Obj)} {σ : St} {H : Hp} {s : Shared} {A : Around} {E : Value -> Shared -> Prop} {Q : Value -> Shared -> Prop} {c : Value} {b : Bool}
inductive TyOf (K : PySem.W.Frag) (H : Hp) : V -> Value -> Prop where
  | non : TyOf K H .non (.type "NoneType")
  | bl (x : Bool) : TyOf K H (.bl x) (.type "bool")
  | int (i : Int) : TyOf K H (.int i) (.type "int")
  | str (x : Str) : TyOf K H (.str x) (.type "str")
  | flt (x : UInt64) : TyOf K H (.flt x) (.type "float")
  | lst {a : Addr} {xs : List V} (e : H a = some (.lst xs)) : TyOf K H (.ref a) (.type "list")
  | frz {a : Addr} {o : Obj} {xs : List V} (e : H a = some (.frz o (.lst xs))) : TyOf K H (.ref a) (.type "list")
  | tup {a : Addr} {xs : List V} (e : H a = some (.tup xs)) : TyOf K H (.ref a) (.type "tuple")
  | dK {a : Addr} {kvs : List (Key × V)} (e : H a = some (.dK kvs)) : TyOf K H (.ref a) (.type "dict")
  | dT {a : Addr} {kvs : List (List Key × V)} (e : H a = some (.dT kvs)) : TyOf K H (.ref a) (.type "dict")
  | ins {a C dx : Addr} {fs : List (Str × V)} (e : H a = some (.ins C dx fs)) (cl : Cls K C) (ha : PySem.W.findIn K (.ref C) "__class__" = some (some (.builtin "object.__class__")))
      (hn : PySem.W.specialIn K (.builtin "object.__class__") "__get__" = some (some (.builtin "getset_descriptor.__get__"))) (htk : PySem.W.takesIn K (.builtin "object.__class__") = some true)
      (hm : PySem.W.mroIn K C (.type "object") = some true) : TyOf K H (.ref a) (.ref C)
theorem z2t {x : V} {u t : Value} (I : Inv X pins σ H s) (rx : RelV x u) (ty : TyOf X.K H x t) (e : PySem.W.kitOne X.K t c = some b) (h : ∀ tk, Q (.bool b) { s with toks := tk }) :
    wpAny (model X.prog X.w) A (call (.builtin "isinstance") [u, c]) Q E s := by
  cases ty with
  | non => cases (show u = Value.none from rx); exact PySem.W.kia_one PySem.W.kitx_none I.kIn True.intro e (fun z => nomatch z) h
  | bl y => cases (show u = Value.bool y from rx); exact PySem.W.kia_one PySem.W.kitx_bool I.kIn True.intro e (fun z => nomatch z) h
  | int i => obtain ⟨t, q⟩ := (show ∃ t, u = Value.int i t from rx); cases q; exact PySem.W.kia_one PySem.W.kitx_int I.kIn True.intro e (fun z => nomatch z) h
  | str y => obtain ⟨t, q⟩ := (show ∃ t, u = Value.str y t from rx); cases q; exact PySem.W.kia_one PySem.W.kitx_str I.kIn True.intro e (fun z => nomatch z) h
  | flt y => obtain ⟨t, q⟩ := (show ∃ t, u = Value.float y t from rx); cases q; exact PySem.W.kia_one PySem.W.kitx_float I.kIn True.intro e (fun z => nomatch z) h
  | @lst a xs ea =>
    cases (show u = Value.ref a from rx)
    obtain ⟨_, _, n, _, h1⟩ := (show ObjOk X.prog X.w H s.heap a (.lst xs) from I.hok a _ ea)
    exact PySem.W.kia_one PySem.W.kitx_list I.kIn ⟨_, h1, rfl⟩ e (fun z => nomatch z) h
  | @frz a ob xs ea =>
    cases (show u = Value.ref a from rx)
    obtain ⟨_, _, _, n, _, h1⟩ := (show ObjOk X.prog X.w H s.heap a (.frz ob (.lst xs)) from I.hok a _ ea)
    exact PySem.W.kia_one PySem.W.kitx_list I.kIn ⟨_, h1, rfl⟩ e (fun z => nomatch z) h
  | @tup a xs ea =>
    cases (show u = Value.ref a from rx)
    obtain ⟨_, _, _, p⟩ := (show ObjOk X.prog X.w H s.heap a (.tup xs) from I.hok a _ ea)
    obtain ⟨o, h1, h2, _⟩ := p
    exact PySem.W.kia_one PySem.W.kitx_tuple I.kIn ⟨o, h1, h2⟩ e (fun z => nomatch z) h
  | @dK a kvs ea =>
    cases (show u = Value.ref a from rx)
    obtain ⟨_, _, vs, _, p⟩ := (show ObjOk X.prog X.w H s.heap a (.dK kvs) from I.hok a _ ea)
    obtain ⟨o, es, ep, h1, h2, _⟩ := p
    exact PySem.W.kia_one PySem.W.kitx_dict I.kIn ⟨o, h1, h2.1⟩ e (fun z => nomatch z) h
  | @dT a kvs ea =>
    cases (show u = Value.ref a from rx)
    obtain ⟨_, _, xs, _, o, es, ep, h1, h2, _⟩ := (show ObjOk X.prog X.w H s.heap a (.dT kvs) from I.hok a _ ea)
    exact PySem.W.kia_one PySem.W.kitx_dict I.kIn ⟨o, h1, h2.1⟩ e (fun z => nomatch z) h
  | @ins a C dx fs ea cl ha hn htk hm =>
    cases (show u = Value.ref a from rx)
    obtain ⟨mA, O, _⟩ := z4C I.hok ea
    obtain ⟨od, J, _⟩ := O.look
    exact PySem.W.kia_one (PySem.W.kitx_own (cl.get _) cl.hd ha hn htk hm) I.kIn J e (fun z => nomatch z) h
end
structure Room (k : Nat) (A : Around) : Prop where
  hd : A.handled = none
  dp : A.depth + 3 * k + 5 < recursionLimit
  un : A.units + 16 * k + 200 < cLine
theorem Room.mono {j k : Nat} {A : Around} (r : Room k A) (h : j <= k) : Room j A := ⟨r.hd, by have := r.dp; omega, by have := r.un; omega⟩
theorem Room.deeper {k : Nat} {A : Around} (r : Room (k + 1) A) (env : Env) : Room k (A.deeper env) :=
  ⟨r.hd, by have := r.dp; show A.depth + 1 + 3 * k + 5 < _; omega, by have := r.un; show A.units + 3 + 16 * k + 200 < _; omega⟩
theorem Room.in1 {k : Nat} {A : Around} (r : Room (k + 1) A) : Room k A.in1 :=
  ⟨r.hd, by have := r.dp; show A.depth + 3 * k + 5 < _; omega, by have := r.un; show A.units + 1 + 16 * k + 200 < _; omega⟩
theorem Room.depth {k : Nat} {A : Around} (r : Room k A) : A.depth < recursionLimit := by have := r.dp; omega
theorem Room.units {k : Nat} {A : Around} (r : Room k A) : A.units + 64 < cLine := by have := r.un; omega
def z7U : TA := fun _ H Q => Q [] H
def z5v (ta : TE) (tr : TA) : TA := fun σ H Q => ta σ H fun x H1 => tr σ H1 fun xs H2 => Q (x :: xs) H2
section
variable {X : Cx} {e : Expr} {es : List Expr} {te : TE} {t : TA} {pos : Pos}
theorem z05 : PA X [] z7U := fun _ _ _ _ H Q I h => Calls.spliced_nil ⟨[], H, I, .nil, h⟩
theorem z00 (ha : PE X e te) (hr : PA X es t) (hs : starEach (e :: es) X.env = (false, eval e X.env) :: starEach es X.env := by rfl) : PA X (e :: es) (z5v te t) := by
  intro pos pins s σ H Q I h
  rw [hs]
  show wpAny _ _ (spliced ((false, eval e X.env) :: backTo pos (starEach es X.env))) _ _ s
  refine Calls.spliced_cons (thn (ha pins s σ H _ I h) fun u s1 ⟨x, H1, I1, r1, q1⟩ => ?_)
  exact thn (hr pos pins s1 σ H1 _ I1 q1) fun us s2 ⟨xs, H2, I2, r2, q2⟩ => ⟨x :: xs, H2, I2, .cons r1 r2, q2⟩
def z7V (t : TA) : TE := fun σ H Q => t σ H fun xs H1 => xs.length <= sizeLine /\ ∀ p, H1 p = none -> Q (.ref p) (upd H1 p (.tup xs))
def z7W (t : TA) : TE := fun σ H Q => t σ H fun xs H1 => xs.length <= sizeLine /\ ∀ p, H1 p = none -> Q (.ref p) (upd H1 p (.lst xs))
theorem z3x {x1} (h : PA X es t) : PE X (.Tuple es x1 pos) (z7V t) := by
  intro pins s σ H Q I hq
  refine wpAny_Tuple_spliced (thn (h pos pins s σ H _ I hq) fun us s1 ⟨xs, H1, I1, r, z, q⟩ => ⟨by rw [<- r.length]; exact z, ?_⟩)
  have hf : H1 s1.heap.objs.size = none := I1.hok.fresh (Nat.le_refl _)
  refine ⟨.ref s1.heap.objs.size, upd H1 s1.heap.objs.size (.tup xs), I1.laid (t' := s1.toks) (fun b u e => Heap.get?_push_of_some _ e) (Nat.le_refl _) ?_, rfl, q _ hf⟩
  exact ⟨z, us, r, ⟨_, Heap.get?_push_size _ rfl, rfl, _, rfl⟩⟩
theorem z1j (h : PA X es t) : PE X (.List es pos) (z7W t) := by
  intro pins s σ H Q I hq
  refine wpAny_List_spliced (thn (h pos pins s σ H _ I hq) fun us s1 ⟨xs, H1, I1, r, z, q⟩ => ⟨by rw [<- r.length]; exact z, ?_⟩)
  have hf : H1 s1.heap.objs.size = none := I1.hok.fresh (Nat.le_refl _)
  refine ⟨.ref s1.heap.objs.size, upd H1 s1.heap.objs.size (.lst xs), I1.laid (t' := s1.toks) (fun b u e => Heap.get?_push_of_some _ e) (Nat.le_refl _) ?_, rfl, q _ hf⟩
  exact ⟨z, us, 0, r, Heap.get?_push_size _ rfl⟩
end
abbrev Sp := List V -> Hp -> VK -> XK -> Prop
abbrev CXT := List Env -> Hp -> Shared -> XK -> Value -> Shared -> Prop
structure Env0 (P : Program) (w : World) (K : PySem.W.Frag) (mg : Str -> Option Value) (base : Heap) (A : Around) (outer : List Env) (s : Shared) (H : Hp) : Prop where
  frames : A.frames = some outer
  mod : Mod K mg base
  bs : ∀ b o, base.get? b = some o -> s.heap.get? b = some o /\ H b = none
  bsz : base.objs.size <= s.heap.objs.size
  funs : s.heap.FunFrames base outer
  frf : ∀ b ∈ frs outer, H b = none
  hok : HOk P w H s.heap
  bare : AllBare s.gens
def CE (outer : List Env) (P : Program) (w : World) (H : Hp) (s : Shared) (Q : VK) (u : Value) (s' : Shared) : Prop :=
  ∃ v H', s'.os = s.os /\ AllBare s'.gens /\ Un (frs outer) [] H H' s.heap s'.heap /\ HOk P w H' s'.heap /\ RelV v u /\ Q v H'
def CR (CX : CXT) (outer : List Env) (P : Program) (w : World) (H : Hp) (s : Shared) (Q : VK) (E : XK) (r : Result) (s' : Shared) : Prop :=
  match r with
  | .ok (.ret u) => CE outer P w H s Q u s'
  | .ok _ => False
  | .error e => CX outer H s E e s'
structure FnOk (P : Program) (w : World) (K : PySem.W.Frag) (mg : Str -> Option Value) (base : Heap) (CX : CXT) (k : Nat) (f : Addr) (fd : FuncData) (ps : List Str) (sp : Sp) : Prop where
  len : ∀ vs H Q E, sp vs H Q E -> vs.length = ps.length
  run : ∀ (A : Around) (outer : List Env) (s : Shared) (H : Hp) (args : Args) (us : List Value) (vs : List V) (Q : VK) (E : XK), Room k A -> Env0 P w K mg base A outer s H -> BindsTo s fd args (ps.zip us) -> Vals vs us -> sp vs H Q E ->
    codeAny (model P w) A (.call (.ref f) args) (CR CX outer P w H s Q E) s
theorem FnOk.mono {P : Program} {w : World} {K : PySem.W.Frag} {mg : Str -> Option Value} {base : Heap} {CX : CXT} {j k : Nat} {f : Addr} {fd : FuncData} {ps : List Str} {sp : Sp} (F : FnOk P w K mg base CX j f fd ps sp) (h : j <= k) :
    FnOk P w K mg base CX k f fd ps sp := ⟨F.len, fun A outer s H args us vs Q E hr => F.run A outer s H args us vs Q E (hr.mono h)⟩
theorem Env0.in1 {P : Program} {w : World} {K : PySem.W.Frag} {mg : Str -> Option Value} {base : Heap} {A : Around} {outer : List Env} {s : Shared} {H : Hp} (e : Env0 P w K mg base A outer s H) :
    Env0 P w K mg base A.in1 outer s H := ⟨e.frames, e.mod, e.bs, e.bsz, e.funs, e.frf, e.hok, e.bare⟩
section
variable {X : Cx} {pins : List (Addr × Obj)} {σ : St} {H : Hp} {s s' : Shared}
theorem Inv.env0 (I : Inv X pins σ H s) : Env0 X.prog X.w X.K X.mg X.base X.A X.stack s H :=
  ⟨I.ok.frames, I.ok.mod, I.bs, Nat.le_trans I.ok.bsz I.sz, I.stack, I.stkFree, I.hok, I.bare⟩
theorem Inv.after {Q : VK} {u : Value} (I : Inv X pins σ H s) (h : CE X.stack X.prog X.w H s Q u s') : EP X pins σ Q u s' := by
  obtain ⟨v, H', os, bare, un, hok, r, q⟩ := h
  obtain ⟨hh, g, d, t, os'⟩ := s'
  obtain rfl : os' = s.os := os
  exact ⟨v, H', I.call (h' := hh) (g' := g) (d' := d) (t' := t) (ch := []) un hok bare (fun b z => absurd z (by simp)), r, q⟩
end
def z4u (sp : Sp) (dvs : List V) (E : XK) (t : TA) : TE := fun σ H Q => t σ H fun vs H1 => sp (vs ++ dvs) H1 Q E
def z7X (C : Addr) (m : Str) (sp : Sp) (dvs : List V) (E : XK) (ta : TE) (t : TA) : TE := fun σ H Q => ta σ H fun x H1 => ∃ a dx fs, x = .ref a /\ H1 a = some (.ins C dx fs) /\ fs.lookup m = none /\
  t σ H1 fun vs H2 => sp (x :: (vs ++ dvs)) H2 Q E
def z7Y (C : Addr) (sp : Sp) (dvs : List V) (E : XK) (t : TA) : TE := fun σ H Q => t σ H fun vs H1 => ∀ x dx, H1 x = none -> H1 dx = none -> dx ≠ x ->
  sp (.ref x :: (vs ++ dvs)) (upd (upd H1 dx (.own x)) x (.ins C dx [])) (fun v H2 => v = .non /\ Q (.ref x) H2) E
def Binds (K : PySem.W.Frag) (fd : FuncData) (ps : List Str) (ds : List Value) : Prop :=
  ∀ (s : Shared) (us : List Value), K.In s.heap -> (us ++ ds).length = ps.length -> BindsTo s fd ⟨us, []⟩ (ps.zip (us ++ ds))
theorem Binds.all {K : PySem.W.Frag} {fd : FuncData} {ps : List Str} (h : ∀ us : List Value, us.length = ps.length -> bindArgs fd ⟨us, []⟩ = pure (ps.zip us)) : Binds K fd ps [] := fun s us _ hl => by
  rw [List.append_nil] at hl ⊢
  exact .of_eq (h us hl)
def z2u (CX : CXT) (X : Cx) (E : XK) : Prop := ∀ (pins : List (Addr × Obj)) (σ : St) (H : Hp) (s : Shared) (e : Value) (s' : Shared), Inv X pins σ H s -> CX X.stack H s E e s' -> X.xe e s'
section
variable {X : Cx} {CX : CXT} {k : Nat} {f C : Addr} {fd : FuncData} {ps : List Str} {sp : Sp} {dvs : List V} {ds : List Value} {E : XK} {x m : Str} {p pos apos : Pos} {e o : Expr} {es : List Expr} {ta : TE} {t : TA}
theorem z4v {pins : List (Addr × Obj)} {σ : St} {H : Hp} {s : Shared} {Q : VK} {us : List Value} {vs : List V} (F : FnOk X.prog X.w X.K X.mg X.base CX k f fd ps sp) (hr : Room k X.A) (hb : Binds X.K fd ps ds) (hd : Vals dvs ds) (hx : z2u CX X E)
    (I : Inv X pins σ H s) (r : Vals vs us) (h : sp (vs ++ dvs) H Q E) : wpAny (model X.prog X.w) X.A (call (.ref f) us) (EP X pins σ Q) X.xe s := by
  have r2 : Vals (vs ++ dvs) (us ++ ds) := r.append hd
  have hl : (us ++ ds).length = ps.length := by rw [<- r2.length]; exact F.len _ _ _ _ h
  refine wpAny_call (codeAny_mono (F.run X.A X.stack s H ⟨us, []⟩ (us ++ ds) (vs ++ dvs) Q E hr I.env0 (hb s us I.kIn hl) r2 h) fun r s' hq => ?_)
  cases r with
  | error e => exact hx pins σ H s e s' I hq
  | ok fl =>
    cases fl with
    | ret u => exact I.after hq
    | next => exact False.elim hq
    | brk => exact False.elim hq
    | cont => exact False.elim hq
theorem z4D (F : FnOk X.prog X.w X.K X.mg X.base CX k f fd ps sp) (hr : Room k X.A) (hg : Gl X x) (hm : X.mg x = some (.ref f)) (hk : PySem.W.keepIn X.K (.ref f) = true) (hb : Binds X.K fd ps ds) (hd : Vals dvs ds) (hx : z2u CX X E)
    (ha : PA X (e :: es) t) (hdb : (x == ("__debug__" : Str)) = false := by decide) (he : starEach (e :: es) X.env = (false, eval e X.env) :: starEach es X.env := by rfl) (hpl : (backTo pos (starEach es X.env)).any (·.1) = false := by rfl) :
    PE X (.Call (.Name x p) (e :: es) [] pos) (z4u sp dvs E t) := by
  intro pins s σ H Q I h
  refine wpAny_Call_Name_kw (z46 I hg hm ?_ hdb)
  refine PySem.W.callWith_K (h₀ := X.base) I.ok.mod.kin hk (thn (ha pos pins s σ H _ I h) fun us s1 ⟨vs, H1, I1, r, q⟩ => ⟨I1.kIn, ?_⟩) he hpl
  exact z4v F hr hb hd hx I1 r q
structure Mk (K : PySem.W.Frag) (C f : Addr) : Prop where
  makes : PySem.W.makesIn K C = true
  init : PySem.W.findIn K (.ref C) "__init__" = some (some (.ref f))
  fn : PySem.W.isFn K (.ref f) = true
  kp : PySem.W.keepIn K (.ref C) = true
end
def PK (X : Cx) (kws : List Keyword) (t : TA) : Prop :=
  ∀ (pos : Pos) (pins : List (Addr × Obj)) (s : Shared) (σ : St) (H : Hp) (Q : List V -> Hp -> Prop), Inv X pins σ H s -> t σ H Q -> wpAny (model X.prog X.w) X.A (evalAll ((backToKw pos (keywordEach kws X.env)).map (·.2))) (AP X pins σ Q) X.xe s
section
variable {X : Cx} {CX : CXT} {k : Nat} {f C : Addr} {fd : FuncData} {ps ks : List Str} {sp : Sp} {E : XK} {x m : Str} {p pos apos kpos : Pos} {e o : Expr} {es : List Expr} {kws : List Keyword} {te ta : TE} {t tk : TA} {nm : Option Str}
structure KBinds (K : PySem.W.Frag) (fd : FuncData) (ps ks : List Str) (g : List Value -> List Value -> List Value) (gV : List V -> List V -> List V) : Prop where
  to : ∀ (s : Shared) (us ws : List Value), K.In s.heap -> (g us ws).length = ps.length -> BindsTo s fd ⟨us, ks.zip ws⟩ (ps.zip (g us ws))
  rel : ∀ {vs : List V} {us : List Value} {zs : List V} {ws : List Value}, Vals vs us -> Vals zs ws -> Vals (gV vs zs) (g us ws)
def z6h (sp : Sp) (gV : List V -> List V -> List V) (E : XK) (t tk : TA) : TE := fun σ H Q => t σ H fun vs H1 => tk σ H1 fun zs H2 => sp (gV vs zs) H2 Q E
variable {g : List Value -> List Value -> List Value} {gV : List V -> List V -> List V}
end
structure FnScope (N P : List Str) (sc : Scope) : Prop where
  kind : sc.kind = .function
  co : sc.isCoroutine = false
  gen : sc.isGenerator = false
  nd : N.Nodup
  pre : N.take P.length = P
  par : ∀ x ∈ P, sc.names.lookup x = some .local \/ sc.names.lookup x = some .cell
  nofree : ∀ y ∈ sc.names, y.2 ≠ .free
theorem z1k {kindOf : Str -> Option NameKind} {x : Str} : ∀ {binds : List (Str × Value)} {m : Str -> Option Value}, (∀ v, (x, v) ∉ binds) -> bindL kindOf binds m x = m x
  | [], _, _ => rfl
  | (n, v) :: r, m, h => by
    unfold bindL
    rw [z1k fun w hw => h w (List.mem_cons_of_mem _ hw)]
    split
    . have : x ≠ n := by rintro rfl; exact h v List.mem_cons_self
      simp [this]
    . rfl
theorem z1l {kindOf : Str -> Option NameKind} {x : Str} : ∀ {binds : List (Str × Value)} {m : Str -> Option Value}, (∀ v, (x, v) ∉ binds) -> bindC kindOf binds m x = m x
  | [], _, _ => rfl
  | (n, v) :: r, m, h => by
    unfold bindC
    rw [z1l fun w hw => h w (List.mem_cons_of_mem _ hw)]
    split
    . rfl
    . have : x ≠ n := by rintro rfl; exact h v List.mem_cons_self
      simp [this]
theorem z1m {kindOf : Str -> Option NameKind} {x : Str} {v : Value} : ∀ {P : List Str} {vs : List Value} {i : Nat} {m : Str -> Option Value}, P.Nodup -> P[i]? = some x -> vs[i]? = some v -> kindOf x = some .local ->
    bindL kindOf (P.zip vs) m x = some v
  | [], _, _, _, _, h, _, _ => by simp at h
  | _ :: _, [], _, _, _, _, h, _ => by simp at h
  | p :: P, w :: vs, 0, m, nd, h1, h2, hk => by
    simp at h1 h2; subst h1; subst h2
    show bindL kindOf ((p, w) :: P.zip vs) m p = _
    unfold bindL
    rw [z1k fun v hv => (List.nodup_cons.mp nd).1 (List.of_mem_zip hv).1, if_pos hk]
    simp
  | p :: P, w :: vs, i + 1, m, nd, h1, h2, hk => by
    show bindL kindOf ((p, w) :: P.zip vs) m x = _
    unfold bindL
    exact z1m (i := i) (List.nodup_cons.mp nd).2 (by simpa using h1) (by simpa using h2) hk
theorem z1n {kindOf : Str -> Option NameKind} {x : Str} {v : Value} : ∀ {P : List Str} {vs : List Value} {i : Nat} {m : Str -> Option Value}, P.Nodup -> P[i]? = some x -> vs[i]? = some v -> kindOf x ≠ some .local ->
    bindC kindOf (P.zip vs) m x = some v
  | [], _, _, _, _, h, _, _ => by simp at h
  | _ :: _, [], _, _, _, _, h, _ => by simp at h
  | p :: P, w :: vs, 0, m, nd, h1, h2, hk => by
    simp at h1 h2; subst h1; subst h2
    show bindC kindOf ((p, w) :: P.zip vs) m p = _
    unfold bindC
    rw [z1l fun v hv => (List.nodup_cons.mp nd).1 (List.of_mem_zip hv).1, if_neg hk]
    simp
  | p :: P, w :: vs, i + 1, m, nd, h1, h2, hk => by
    show bindC kindOf ((p, w) :: P.zip vs) m x = _
    unfold bindC
    exact z1n (i := i) (List.nodup_cons.mp nd).2 (by simpa using h1) (by simpa using h2) hk
def start (N : List Str) (vs : List V) : St := vs.map some ++ List.replicate (N.length - vs.length) none
def z3y (CX : CXT) (P : Program) (w : World) (K : PySem.W.Frag) (mg : Str -> Option Value) (base : Heap) (N : List Str) (qual : Str) (scope : Scope) (f : Addr) (cd : Value) (A : Around) (outer : List Env) (s : Shared) (H : Hp) (E : XK) : Cx where
  prog := P
  w := w
  K := K
  mg := mg
  base := base
  A := A.deeper (envOfC qual scope s.heap.objs.size f cd)
  N := N
  s₀ := s
  H₀ := H
  env := envOfC qual scope s.heap.objs.size f cd
  outer := outer
  stack := envOfC qual scope s.heap.objs.size f cd :: outer
  ex := []
  calm := true
  fn := fun _ => true
  pn := []
  xe := fun e s' => wpAny (model P w) (A.deeper (envOfC qual scope s.heap.objs.size f cd)) (leaving (envOfC qual scope s.heap.objs.size f cd) e) (fun _ s'' => CX outer H s E e s'') (fun e' s'' => CX outer H s E e' s'') s'
theorem z2J {sc : Scope} {n : Nat} {x : Str} (h : sc.names.lookup x = some .cell) : ∃ c, (cellsFrom n sc.names []).lookup x = some c := by
  have q := PySem.W.cellsFrom_some sc.names n [] (.inl h)
  exact Option.isSome_iff_exists.mp q
theorem z2v {CX : CXT} {P : Program} {w : World} {K : PySem.W.Frag} {mg : Str -> Option Value} {base : Heap} {N ps : List Str} {qual : Str} {scope : Scope} {f : Addr} {cd : Value} {A : Around} {outer : List Env} {s s1 : Shared} {H : Hp} {E : XK} {us : List Value} {vs : List V}
    (S : FnScope N ps scope) (hd : A.handled = none) (e0 : Env0 P w K mg base A outer s H) (hl : vs.length = ps.length) (r : Vals vs us)
    (x : InCallC s s.heap.objs.size (bindL (envOfC qual scope s.heap.objs.size f cd).kindOf (ps.zip us) fun _ => none) (cellsFrom (s.heap.objs.size + 1) scope.names []) (bindC (envOfC qual scope s.heap.objs.size f cd).kindOf (ps.zip us) fun _ => none) s1) :
    Inv (z3y CX P w K mg base N qual scope f cd A outer s H E) [] (start N vs) H s1 := by
  have hpl : ps.length <= N.length := by have := congrArg List.length S.pre; rw [List.length_take] at this; omega
  obtain ⟨h1, tk, rfl, hk⟩ := x.done
  have noA : ∀ b : Addr, b ∉ (z3y CX P w K mg base N qual scope f cd A outer s H E).ex := fun b z => absurd (show b ∈ ([] : List Addr) from z) (by simp)
  refine ⟨⟨e0.mod, S.kind, rfl, rfl, Nat.le_refl _, fun y z c h1 h2 => ?_, fun y hy => ?_, fun y c _ h => ?_, fun _ => hd, Around.frames_deeper e0.frames, .inr ⟨rfl, rfl⟩, fun b z => absurd z (noA b), e0.bs, e0.bsz, fun b _ _ => noA b, fun b z => absurd z (noA b), e0.funs, e0.frf⟩,
    rfl, e0.bare, Un.kept hk, ⟨_, x.toInCall.ns, fun i y v h1 h2 h3 => ?_⟩, fun y c h => ⟨_, x.cell y c h⟩, e0.hok.fresh (Nat.le_refl _), fun y c h => ?_, fun p hp => absurd (show p ∈ ([] : List (Addr × Obj)) from hp) (by simp), e0.hok.kept hk, ?_⟩
  . exact name_of_addr x.apart (PySem.mem_of_lookup h1) (PySem.mem_of_lookup h2)
  . have hy : scope.names.lookup y = some .cell \/ scope.names.lookup y = some .free := hy
    rcases hy with hy | hy
    . exact z2J hy
    . exact absurd rfl (S.nofree _ (PySem.mem_of_lookup hy))
  . exact Nat.le_of_lt (x.above y c (PySem.mem_of_lookup h))
  . have hi : i < vs.length := by
      unfold start at h2
      by_cases hi : i < vs.length
      . exact hi
      . rw [List.getElem?_append_right (by simpa using hi)] at h2
        rw [List.getElem?_replicate] at h2
        split at h2 <;> cases h2
    have ha : vs[i]? = some v := by
      unfold start at h2
      rw [List.getElem?_append_left (by simpa using hi), List.getElem?_map] at h2
      cases e : vs[i]? with
      | none => rw [e] at h2; cases h2
      | some a => rw [e] at h2; cases h2; rfl
    obtain ⟨u, hu, rv⟩ := r.get ha
    have hp : ps[i]? = some y := by
      rw [<- S.pre, List.getElem?_take_of_lt (by omega)]; exact h1
    have ndP : ps.Nodup := by rw [<- S.pre]; exact S.nd.sublist (List.take_sublist _ _)
    refine ⟨u, rv, ?_⟩
    rcases S.par y (List.mem_of_getElem? hp) with k | k
    . exact .inl ⟨k, z1m ndP hp hu k⟩
    . obtain ⟨c, e⟩ := z2J (n := s.heap.objs.size + 1) k
      refine .inr ⟨.inl k, c, e, ?_⟩
      have q := x.cell y c e
      rw [z1n ndP hp hu (by show scope.names.lookup y ≠ _; rw [k]; decide)] at q
      exact q
  . exact e0.hok.fresh (Nat.le_of_lt (x.above y c (PySem.mem_of_lookup h)))
  . unfold start
    show _ = N.length
    rw [List.length_append, List.length_map, List.length_replicate]
    omega
theorem z4E {CX : CXT} {P : Program} {w : World} {K : PySem.W.Frag} {mg : Str -> Option Value} {base : Heap} {k : Nat} {f : Addr} {name qual : Str} {params : Arguments} {body : List Stmt} {scope : Scope} {dV kV doc pm cdv ct oc : Value} {an od : Option Addr}
    {osl : Array (Option Value)} {N ps : List Str} {sp : Sp} (lk : K.lookup f = some ⟨oc, od, .func (PySem.W.fnOf name qual params body scope dV kV doc pm an cdv ct), osl⟩) (hcd : PySem.W.codeIn K cdv qual = true) (S : FnScope N ps scope)
    (len : ∀ vs H Q E, sp vs H Q E -> vs.length = ps.length)
    (hbody : ∀ (A : Around) (outer : List Env) (s : Shared) (H : Hp) (vs : List V) (Q : VK) (E : XK), Room k (A.deeper (envOfC qual scope s.heap.objs.size f cdv)) -> sp vs H Q E ->
      ∃ t, PSs (z3y CX P w K mg base N qual scope f cdv A outer s H E) body t /\ t { nx := fun _ H' => Q .non H', rt := Q } (start N vs) H) :
    FnOk P w K mg base CX (k + 1) f (PySem.W.fnOf name qual params body scope dV kV doc pm an cdv ct) ps sp := by
  refine ⟨len, fun A outer s H args us vs Q E hr e0 hb r hsp => ?_⟩
  have hl := len _ _ _ _ hsp
  have KX : K.In s.heap := e0.mod.kin.keeps fun b o e => (e0.bs b o e).1
  have lim : s.heap.NoLimit := e0.mod.nolimit.keeps fun b o e => (e0.bs b o e).1
  have hkind : ∀ y ∈ ps.zip us, scope.names.lookup y.1 = some .local \/ (scope.names.lookup y.1 = some .cell /\ ((cellsFrom (s.heap.objs.size + 1) scope.names []).lookup y.1).isSome = true) := fun ⟨n, v⟩ hy => by
    rcases S.par n (List.of_mem_zip hy).1 with q | q
    . exact .inl q
    . exact .inr ⟨q, PySem.W.cellsFrom_some _ _ _ (.inl q)⟩
  refine codeAny_call_function hr.depth (KX _ _ lk) rfl S.co S.gen rfl (PySem.W.codeRec_of KX hcd) (hb _ _ _ _ ?_)
  refine wpAny_newFunctionEnv_cells S.kind hkind fun env he s1 x => ?_
  subst he
  refine ⟨lim.keeps x.toInCall.keep, codeAny_func ?_⟩
  obtain ⟨t, ht, hq⟩ := hbody A outer s H vs Q E (hr.deeper _) hsp
  have I : Inv (z3y CX P w K mg base N qual scope f cdv A outer s H E) [] (start N vs) H s1 := z2v S hr.hd e0 hl r x
  refine wpAny_mono (ht [] s1 (start N vs) H _ I hq) (fun fl s' hs => ?_) fun e s' hs => hs
  have fin : ∀ {σ' : St} {H' : Hp} {v : V} {u : Value}, Inv (z3y CX P w K mg base N qual scope f cdv A outer s H E) [] σ' H' s' -> RelV v u -> Q v H' -> CE outer P w H s Q u s' :=
    fun {σ' H' v u} J rv q => ⟨v, H', J.os, J.bare, J.base, J.hok, rv, q⟩
  cases fl with
  | ret u =>
    obtain ⟨v, σ', H', J, rv, q⟩ := hs
    exact fin J rv q
  | next =>
    obtain ⟨σ', H', J, q⟩ := hs
    exact fin (v := V.non) (u := Value.none) J rfl q
  | brk =>
    obtain ⟨_, _, _, q⟩ := hs
    exact False.elim q
  | cont =>
    obtain ⟨_, _, _, q⟩ := hs
    exact False.elim q
section
variable {X : Cx} {x : Str} {p pos : Pos} {e : Expr} {es : List Expr} {t : TA} {id T : String} {r : List V -> Hp -> VK -> Prop}
def tCB (r : List V -> Hp -> VK -> Prop) (t : TA) : TE := fun σ H Q => t σ H fun vs H1 => r vs H1 Q
theorem z0H (hc : CallR X (.builtin id) r) (hg : Gl X x) (hm : X.mg x = none) (hv : bootBuiltins x = some (.builtin id)) (ha : PA X (e :: es) t) (hn : x ≠ "__name__" := by decide) (hdb : (x == ("__debug__" : Str)) = false := by decide)
    (he : starEach (e :: es) X.env = (false, eval e X.env) :: starEach es X.env := by rfl) (hpl : (backTo pos (starEach es X.env)).any (·.1) = false := by rfl) : PE X (.Call (.Name x p) (e :: es) [] pos) (tCB r t) := by
  intro pins s σ H Q I h
  refine wpAny_Call_Name_kw (z1C I hg hm hv ?_ hn hdb)
  exact PyProof.Rows.callWith_builtin1 (thn (ha pos pins s σ H _ I h) fun us s1 ⟨vs, H1, I1, r1, q1⟩ => hc pins s1 σ H1 vs us Q I1 r1 q1) he hpl
theorem z0o (hc : CallR X (.type T) r) (hg : Gl X x) (hm : X.mg x = none) (hv : bootBuiltins x = some (.type T)) (ha : PA X (e :: es) t) (hn : x ≠ "__name__" := by decide) (hdb : (x == ("__debug__" : Str)) = false := by decide)
    (he : starEach (e :: es) X.env = (false, eval e X.env) :: starEach es X.env := by rfl) (hpl : (backTo pos (starEach es X.env)).any (·.1) = false := by rfl) : PE X (.Call (.Name x p) (e :: es) [] pos) (tCB r t) := by
  intro pins s σ H Q I h
  refine wpAny_Call_Name_kw (z1C I hg hm hv ?_ hn hdb)
  exact PyProof.Rows.callWith_type1 (thn (ha pos pins s σ H _ I h) fun us s1 ⟨vs, H1, I1, r1, q1⟩ => hc pins s1 σ H1 vs us Q I1 r1 q1) he hpl
end
end L2
namespace HT
open PySem PyProof.Rows
def lexLt : List Int -> List Int -> Bool
  | [], [] => false
  | [], _ :: _ => true
  | _ :: _, [] => false
  | x :: xs, y :: ys => if x = y then lexLt xs ys else decide (x < y)
section
open PySem.SeqAt
open PySem.AutoSeq1 (wpAny_loadPart')
open PySem.MeetsSeq PySem.MeetsSeq2 PySem.MeetsSeq3
end
section
variable {prog : Program} {w : World} {A : Around} {E : Value -> Shared -> Prop} {s : Shared}
def sIx (n d : Nat) : Option Int -> Nat
  | none => d
  | some v => if v < 0 then (v + (n : Int)).toNat else min v.toNat n
end
end HT
namespace L2
open PySem PySem.Spec PyProof.Rows
abbrev TO := St -> Hp -> (Option Int -> Hp -> Prop) -> Prop
def PO (X : Cx) (e : Option Expr) (t : TO) : Prop :=
  ∀ (pins : List (Addr × Obj)) (s : Shared) (σ : St) (H : Hp) (Q : Option Int -> Hp -> Prop), Inv X pins σ H s -> t σ H Q ->
    wpAny (model X.prog X.w) X.A (evalPart e X.env) (fun u s' => ∃ o H', Inv X pins σ H' s' /\ IsPart u o /\ Q o H') X.xe s
def z5w : TO := fun _ H Q => Q none H
def z7Z (t : TE) : TO := fun σ H Q => t σ H fun x H1 => ∃ i, x = .int i /\ Q (some i) H1
section
variable {X : Cx} {e : Expr} {te : TE} {lo hi : Option Expr} {tl th : TO} {pos p2 : Pos}
def SlR (X : Cx) (r : V -> Option Int -> Option Int -> Hp -> VK -> Prop) : Prop :=
  ∀ (pins : List (Addr × Obj)) (s : Shared) (σ : St) (H : Hp) (x : V) (v vl vu : Value) (lo hi : Option Int) (sl : Addr) (Q : VK), Inv X pins σ H s -> RelV x v -> s.heap.IsSliceOf sl vl vu .none -> IsPart vl lo -> IsPart vu hi -> r x lo hi H Q ->
    ∃ T id, typeLookup (.type T) "__getitem__" = pure (some (.builtin id)) /\ s.TypeIs v T /\ wpAny (model X.prog X.w) X.A (getItem v (.ref sl)) (EP X pins σ Q) X.xe s
theorem SlR.or {r r' : V -> Option Int -> Option Int -> Hp -> VK -> Prop} (h : SlR X r) (h' : SlR X r') : SlR X (fun x lo hi H Q => r x lo hi H Q \/ r' x lo hi H Q) := by
  intro pins s σ H x v vl vu lo hi sl Q I rx hs pl pu q
  rcases q with q | q
  . exact h pins s σ H x v vl vu lo hi sl Q I rx hs pl pu q
  . exact h' pins s σ H x v vl vu lo hi sl Q I rx hs pl pu q
def tSl (r : V -> Option Int -> Option Int -> Hp -> VK -> Prop) (te : TE) (tl th : TO) : TE := fun σ H Q => te σ H fun x H1 => tl σ H1 fun l H2 => th σ H2 fun u H3 => r x l u H3 Q
def z6i (xs : List V) (lo hi : Option Int) : List V := (xs.drop (HT.sIx xs.length 0 lo)).take (HT.sIx xs.length xs.length hi - HT.sIx xs.length 0 lo)
def z8P (K : PySem.W.Frag) : V -> Option Int -> Option Int -> Hp -> VK -> Prop := fun x lo hi H Q => ∃ a xs, x = .ref a /\ SqT K H a xs /\
  ¬ (HT.sIx xs.length 0 lo = 0 /\ HT.sIx xs.length xs.length hi = xs.length) /\ ∀ p, H p = none -> Q (.ref p) (upd H p (.tup (z6i xs lo hi)))
def z8Q (K : PySem.W.Frag) : R2 := fun x y H Q => ∃ a b ns ms, x = .ref a /\ y = .ref b /\ SqT K H a (ns.map V.int) /\ SqT K H b (ms.map V.int) /\ Q (.bl (HT.lexLt ns ms)) H
def z7a (K : PySem.W.Frag) : R2 := fun x y H Q => ∃ a b xs ys, x = .ref a /\ y = .ref b /\ SqT K H a xs /\ SqT K H b ys /\ xs ≠ [] /\ xs.length + ys.length <= sizeLine /\
  (ys = [] -> Q (.ref a) H) /\ (ys ≠ [] -> ∀ p, H p = none -> Q (.ref p) (upd H p (.tup (xs ++ ys))))
end
def ixN (n : Nat) (i : Int) : Option Nat := if 0 <= i then (if i < n then some i.toNat else none) else if -(n : Int) <= i then some (i + n).toNat else none
def atI {α : Type} (xs : List α) (i : Int) : Option α := (ixN xs.length i).bind fun j => xs[j]?
theorem z2w {n : Nat} {i : Int} {j : Nat} (h : ixN n i = some j) : seqIndex? i n = some j /\ j < n /\ -(n : Int) <= i /\ i < n := by
  unfold ixN at h
  by_cases h0 : 0 <= i
  . rw [if_pos h0] at h
    by_cases h1 : i < n
    . rw [if_pos h1] at h
      have e : i.toNat = j := Option.some.inj h
      exact ⟨by rw [seqIndex_of h0 h1, e], by omega, by omega, h1⟩
    . rw [if_neg h1] at h; cases h
  . rw [if_neg h0] at h
    by_cases h1 : -(n : Int) <= i
    . rw [if_pos h1] at h
      have e : (i + n).toNat = j := Option.some.inj h
      exact ⟨by rw [seqIndex_neg (by omega) h1, e], by omega, h1, by omega⟩
    . rw [if_neg h1] at h; cases h
theorem z2x {α : Type} {xs : List α} {i : Int} {v : α} (h : atI xs i = some v) : ∃ j, seqIndex? i xs.length = some j /\ xs[j]? = some v /\ j < xs.length /\ -(xs.length : Int) <= i /\ i < xs.length := by
  unfold atI at h
  cases e : ixN xs.length i with
  | none => rw [e] at h; cases h
  | some j =>
    rw [e] at h
    obtain ⟨h1, h2, h3, h4⟩ := z2w e
    exact ⟨j, h1, h, h2, h3, h4⟩
theorem z0S {α : Type} {xs : List α} {j : Nat} {v : α} (h : xs[j]? = some v) : atI xs (j : Int) = some v := by
  have hj : j < xs.length := (List.getElem?_eq_some_iff.mp h).1
  have e : ixN xs.length (j : Int) = some j := by
    unfold ixN
    rw [if_pos (by omega), if_pos (by omega)]; simp
  unfold atI; rw [e]; exact h
def z4F (b : Expr) : Prop := ∀ o i, subscripted b false o i = operate [o, i] (getItem o i)
def IxR (X : Cx) (r : R2) : Prop :=
  ∀ (value slice : Expr) (pins : List (Addr × Obj)) (s : Shared) (σ : St) (H : Hp) (x y : V) (v u : Value) (Q : VK), Inv X pins σ H s -> RelV x v -> RelV y u -> r x y H Q ->
    subscripted slice false v u = operate [v, u] (getItem v u) -> wpAny (model X.prog X.w) X.A (subscriptTail value slice v u) (EP X pins σ Q) X.xe s
def MtR (X : Cx) (id : String) (r : V -> List V -> Hp -> VK -> Prop) : Prop :=
  ∀ (pins : List (Addr × Obj)) (s : Shared) (σ : St) (H : Hp) (x : V) (xs : List V) (v : Value) (us : List Value) (Q : VK), Inv X pins σ H s -> RelV x v -> Vals xs us -> r x xs H Q ->
    wpAny (model X.prog X.w) X.A (call (.builtin id) (v :: us)) (EP X pins σ Q) X.xe s
section
variable {X : Cx} {a b : Expr} {ta tb : TE} {pos : Pos}
theorem IxR.or {r r' : R2} (h : IxR X r) (h' : IxR X r') : IxR X (fun x y H Q => r x y H Q \/ r' x y H Q) := by
  intro value slice pins s σ H x y v u Q I rx ry q hs
  rcases q with q | q
  . exact h value slice pins s σ H x y v u Q I rx ry q hs
  . exact h' value slice pins s σ H x y v u Q I rx ry q hs
theorem MtR.or {id : String} {r r' : V -> List V -> Hp -> VK -> Prop} (h : MtR X id r) (h' : MtR X id r') : MtR X id (fun x xs H Q => r x xs H Q \/ r' x xs H Q) := by
  intro pins s σ H x xs v us Q I rx rs q
  rcases q with q | q
  . exact h pins s σ H x xs v us Q I rx rs q
  . exact h' pins s σ H x xs v us Q I rx rs q
theorem z0P {r : R2} (hr : IxR X r) (ha : PE X a ta) (hb : PE X b tb) (hs : z4F b) : PE X (.Subscript a b pos) (tOp r ta tb) := by
  intro pins s σ H Q I h
  exact Subscript_ (z6e ha hb I h fun v u s2 x y H2 I2 rx ry q => hr a b pins s2 σ H2 x y v u Q I2 rx ry q (hs _ _))
def z5x (K : PySem.W.Frag) : R2 := fun x y H Q => ∃ p xs i v, x = .ref p /\ y = .int i /\ SqL K H p xs /\ atI xs i = some v /\ Q v H
def z5y (K : PySem.W.Frag) : R2 := fun x y H Q => ∃ p xs i v, x = .ref p /\ y = .int i /\ SqT K H p xs /\ atI xs i = some v /\ Q v H
def z7b : R2 := fun x y H Q => ∃ z i c, x = .str z /\ y = .int i /\ z.length <= sizeLine /\ atI z.cps.toList i = some c /\ Q (.str ⟨#[c]⟩) H
theorem z0M : IxR X (z5x X.K) := by
  intro value slice pins s σ H x y v u Q I rx ry h hs
  obtain ⟨p, xs, i, z, rfl, rfl, hq, he, q⟩ := h
  cases rx
  obtain ⟨t, rfl⟩ := ry
  obtain ⟨its, r, pl, hz⟩ := I.list hq
  obtain ⟨j, h1, h2, h3, h4, h5⟩ := z2x he
  obtain ⟨w, ew, rw'⟩ := r.get h2
  have hl := r.length
  have hn := z2I
  have fin : EP X pins σ Q w s := ⟨z, H, I, rw', q⟩
  by_cases h0 : 0 <= i
  . have hj : i.toNat = j := by
      rw [seqIndex_of h0 h5] at h1
      exact Option.some.inj h1
    exact item_listR pl.isList h0 (by omega) (by rw [hj]; simpa using ew) fin hs
  . have hj : (i + (its.toArray.size : Int)).toNat = j := by
      rw [seqIndex_neg (by omega) h4] at h1
      rw [List.size_toArray, <- hl]
      exact Option.some.inj h1
    exact subscriptTail_builtinR (x := w) pl.isList.typeIs slot_list_getitem.lookup
      (wpAny_getItem_list_neg (Q := fun r s' => r = w /\ EP X pins σ Q r s') pl.isList (by omega) (by rw [List.size_toArray] <;> omega) (by omega) (by rw [hj]; simpa using ew) ⟨rfl, fin⟩) hs
theorem z0Z : IxR X (z5y X.K) := by
  intro value slice pins s σ H x y v u Q I rx ry h hs
  obtain ⟨p, xs, i, z, rfl, rfl, hq, he, q⟩ := h
  cases rx
  obtain ⟨t, rfl⟩ := ry
  obtain ⟨its, r, pl, hz⟩ := I.tuple hq
  obtain ⟨j, h1, h2, h3, h4, h5⟩ := z2x he
  obtain ⟨w, ew, rw'⟩ := r.get h2
  have hl := r.length
  have hn := z2I
  have fin : EP X pins σ Q w s := ⟨z, H, I, rw', q⟩
  exact subscriptTail_builtinR (x := w) pl.typeIs slot_tuple_getitem.lookup
    (getItem_tuple (j := j) (Q := fun r s' => r = w /\ EP X pins σ Q r s') pl (by omega) (by omega) (by rw [List.size_toArray, <- hl]; exact h1) (by simpa using ew) ⟨rfl, fin⟩) hs
def rIx (K : PySem.W.Frag) : R2 := fun x y H Q => z5x K x y H Q \/ z5y K x y H Q \/ z7b x y H Q
theorem z2X (its : List Value) (n j : Nat) (u : Value) : Obj.mapSeq (·.setIfInBounds j u) { cls := .type "list", data := .seq its.toArray n } = { cls := .type "list", data := .seq (its.set j u).toArray n } := by
  simp [Obj.mapSeq]
theorem Inv.lst {pins : List (Addr × Obj)} {σ : St} {H : Hp} {s : Shared} {p : Addr} {xs : List V} (I : Inv X pins σ H s) (h : H p = some (.lst xs)) :
    ∃ (its : List Value) (n : Nat), Vals xs its /\ s.heap.get? p = some { cls := .type "list", data := .seq its.toArray n } /\ xs.length <= sizeLine := by
  obtain ⟨z, its, n, r, e⟩ := I.hok p _ h
  exact ⟨its, n, r, e, z⟩
theorem Inv.lstUpd {pins : List (Addr × Obj)} {σ : St} {H : Hp} {s : Shared} {p : Addr} {xs ys : List V} {its its' : List Value} {n n' : Nat} {f : Obj -> Obj} (I : Inv X pins σ H s) (h : H p = some (.lst xs))
    (ho : s.heap.get? p = some { cls := .type "list", data := .seq its.toArray n }) (hf : f { cls := .type "list", data := .seq its.toArray n } = { cls := .type "list", data := .seq its'.toArray n' }) (r : Vals ys its') (hz : ys.length <= sizeLine) (t : Nat) :
    Inv X pins σ (upd H p (.lst ys)) { s with heap := s.heap.update p f, toks := t } := by
  have e : (s.heap.update p f).get? p = some { cls := .type "list", data := .seq its'.toArray n' } := by
    rw [Heap.get?_update_self f ho (by rw [hf] <;> rfl), hf]
  refine I.write (x := p) (e := p) (by rw [h]; trivial) (.inl rfl) (fun b u hb q => (Heap.get?_update_other _ _ (Ne.symm hb)).trans q) ⟨_, e⟩ ?_
  exact ⟨hz, its', n', r, e⟩
def z5z : V -> V -> V -> Hp -> (Hp -> Prop) -> Prop := fun o i v H Q => ∃ p xs k j, o = .ref p /\ i = .int k /\ H p = some (.lst xs) /\ ixN xs.length k = some j /\ Q (upd H p (.lst (xs.set j v)))
theorem set_list : z6a X z5z := by
  intro pins s σ H o i v ov iv u Q I ro ri rv h
  obtain ⟨p, xs, k, j, rfl, rfl, hp, hj, q⟩ := h
  cases ro
  obtain ⟨t, rfl⟩ := ri
  obtain ⟨its, n, r, ho, hz⟩ := I.lst hp
  obtain ⟨h1, h2, h3, h4⟩ := z2w hj
  have hl := r.length
  have hn := z2I
  have I' : Inv X pins σ (upd H p (.lst (xs.set j v))) { s with heap := s.heap.update p (Obj.mapSeq (·.setIfInBounds j u)) } :=
    I.lstUpd hp ho (z2X its n j u) (r.set rv j) (by rw [List.length_set]; exact hz) s.toks
  by_cases h0 : 0 <= k
  . have hk : k.toNat = j := by
      rw [seqIndex_of h0 h4] at h1
      exact Option.some.inj h1
    exact PySem.W.ki_setAt ho h0 (by omega) (by rw [List.size_toArray, <- hl]; exact h4) (by rw [hk]; exact ⟨_, I', q⟩)
  . have hk : (k + (its.toArray.size : Int)).toNat = j := by
      rw [seqIndex_neg (by omega) h3] at h1
      rw [List.size_toArray, <- hl]
      exact Option.some.inj h1
    exact PySem.W.ki_setBack ho (by omega) (by rw [List.size_toArray, <- hl]; exact h3) (by omega) (by rw [hk]; exact ⟨_, I', q⟩)
def z8R (K : PySem.W.Frag) : V -> Option Int -> Option Int -> Hp -> VK -> Prop := fun x lo hi H Q => ∃ a xs, x = .ref a /\ SqL K H a xs /\ ∀ p, H p = none -> Q (.ref p) (upd H p (.lst (z6i xs lo hi)))
def z4w : V -> Bool
  | .non => true
  | .bl _ => true
  | .int _ => true
  | .str _ => true
  | _ => false
def eqV : V -> V -> Bool
  | .non, .non => true
  | .bl a, .bl b => a == b
  | .bl a, .int b => (if a then 1 else 0) == b
  | .int a, .bl b => a == (if b then 1 else 0)
  | .int a, .int b => a == b
  | .str a, .str b => a == b
  | _, _ => false
def eqU (x : V) (u : Value) : Bool := match u with
  | .none => eqV .non x
  | .bool b => eqV (.bl b) x
  | .int i _ => eqV (.int i) x
  | .str z _ => eqV (.str z) x
  | _ => false
def inV (x : V) (xs : List V) : Bool := xs.any fun y => eqV y x
def rIn (K : PySem.W.Frag) (neg : Bool) : R2 := fun x y H Q => ∃ p xs, y = .ref p /\ (SqL K H p xs \/ SqT K H p xs) /\ z4w x = true /\ xs.all z4w = true /\ Q (.bl (if neg then !inV x xs else inV x xs)) H
theorem z09 : CallR X (.builtin "len") (fun xs H Q => ∃ p ys, xs = [.ref p] /\ (SqL X.K H p ys \/ SqT X.K H p ys) /\ Q (.int ys.length) H) := by
  intro pins s σ H xs us Q I r h
  obtain ⟨p, ys, rfl, hq, q⟩ := h
  obtain ⟨u, rfl, rx⟩ := vals1 r
  cases rx
  have hn := z2I
  rcases hq with hq | hq
  . obtain ⟨its, r', pl, hz⟩ := I.list hq
    have hlen := r'.length
    exact Calls.call_len_list pl.isList (by simp only [List.size_toArray] <;> omega) ⟨.int ys.length, H, I.tok _, ⟨s.toks + 1, by rw [List.size_toArray, hlen]⟩, q⟩
  . obtain ⟨its, r', pl, hz⟩ := I.tuple hq
    have hlen := r'.length
    exact len_tuple pl (by simp only [List.size_toArray] <;> omega) ⟨.int ys.length, H, I.tok _, ⟨s.toks + 1, by rw [List.size_toArray, hlen]⟩, q⟩
theorem CallR.or {f : Value} {r r' : List V -> Hp -> VK -> Prop} (h : CallR X f r) (h' : CallR X f r') : CallR X f (fun xs H Q => r xs H Q \/ r' xs H Q) := by
  intro pins s σ H xs us Q I rs q
  rcases q with q | q
  . exact h pins s σ H xs us Q I rs q
  . exact h' pins s σ H xs us Q I rs q
theorem z16 : CallR X (.type "list") (fun xs H Q => ∃ p ys, xs = [.ref p] /\ (SqL X.K H p ys \/ SqT X.K H p ys) /\ ∀ l, H l = none -> Q (.ref l) (upd H l (.lst ys))) := by
  intro pins s σ H xs us Q I r h
  obtain ⟨p, ys, rfl, hq, q⟩ := h
  obtain ⟨u, rfl, rx⟩ := vals1 r
  cases rx
  have fin : ∀ (its : List Value), Vals ys its -> ys.length <= sizeLine -> ∀ (h' : Heap) (c' : Nat), (∀ b o', s.heap.get? b = some o' -> h'.get? b = some o') ->
      h'.get? s.heap.objs.size = some { cls := .type "list", dict := none, data := .seq its.toArray c', slots := #[] } -> EP X pins σ Q (.ref s.heap.objs.size) { s with heap := h' } := fun its r' hz h' c' kp e =>
    ⟨.ref s.heap.objs.size, _, I.laid (t' := s.toks) kp (Nat.le_refl _) (show ObjOk X.prog X.w _ h' _ (.lst ys) from ⟨hz, its, c', r', e⟩), rfl, q _ (I.hok.fresh (Nat.le_refl _))⟩
  rcases hq with hq | hq
  . obtain ⟨its, r', pl, hz⟩ := I.list hq
    have hlen := r'.length
    obtain ⟨o, ho, hc, n, hd⟩ := pl.isList
    exact call_list_seq p (.inl rfl) ho hc hd (fun h' c' kp e => fin its r' hz h' c' kp e) (by simp only [List.size_toArray] <;> omega)
  . obtain ⟨its, r', pl, hz⟩ := I.tuple hq
    have hlen := r'.length
    obtain ⟨o, ho, hc, n, hd⟩ := pl
    exact call_list_seq p (.inr rfl) ho hc hd (fun h' c' kp e => fin its r' hz h' c' kp e) (by simp only [List.size_toArray] <;> omega)
theorem z0l : CallR X (.type "tuple") (fun xs H Q => ∃ p ys, xs = [.ref p] /\ ((SqL X.K H p ys /\ ∀ l, H l = none -> Q (.ref l) (upd H l (.tup ys))) \/ (SqT X.K H p ys /\ Q (.ref p) H))) := by
  intro pins s σ H xs us Q I r h
  obtain ⟨p, ys, rfl, h⟩ := h
  obtain ⟨u, rfl, rx⟩ := vals1 r
  cases rx
  rcases h with ⟨hq, q⟩ | ⟨hq, q⟩
  . obtain ⟨its, r', pl, hz⟩ := I.list hq
    have hlen := r'.length
    refine call_tuple_list pl.isList (fun h' kp => ?_) (by simp only [List.size_toArray] <;> omega)
    have I1 : Inv X pins σ H { s with heap := h' } := I.kept (t' := s.toks) kp
    have I2 : Inv X pins σ (upd H h'.objs.size (.tup ys)) { s with heap := h'.push { cls := .type "tuple", data := .seq its.toArray } } :=
      I1.laid (t' := s.toks) (fun b o e => Heap.get?_push_of_some _ e) (Nat.le_refl _) (show ObjOk X.prog X.w _ _ _ (.tup ys) from ⟨hz, its, r', IsTup.new _ _⟩)
    exact ⟨.ref h'.objs.size, _, I2, rfl, q _ (I1.hok.fresh (Nat.le_refl _))⟩
  . obtain ⟨its, r', pl, hz⟩ := I.tuple hq
    exact call_tuple_same pl ⟨.ref p, H, I, rfl, q⟩
def tyV (K : PySem.W.Frag) (T : String) (x : V) (H : Hp) : Prop := match x with
  | .str _ => T = "str"
  | .int _ => T = "int"
  | .ref p => (T = "list" /\ ∃ xs, SqL K H p xs) \/ (T = "tuple" /\ ∃ o, K.lookup p = some o /\ o.cls = .type "tuple" /\ o.dict = none) \/
      (T = "dict" /\ ((∃ kvs, H p = some (.dK kvs)) \/ ∃ kvs, H p = some (.dT kvs))) \/ (T = "set" /\ ∃ S n, H p = some (.set S n))
  | _ => False
theorem z3z {pins : List (Addr × Obj)} {σ : St} {H : Hp} {s : Shared} {T : String} {x : V} {v : Value} (I : Inv X pins σ H s) (r : RelV x v) (ty : tyV X.K T x H) :
    s.TypeIs v T /\ ∀ a, v = .ref a -> ∃ ob, s.heap.get? a = some ob /\ ob.dict = none := by
  cases x with
  | str z =>
    obtain ⟨t, rfl⟩ := r
    cases (show T = "str" from ty)
    exact ⟨typeIs_str s z t, fun _ e => nomatch e⟩
  | int i =>
    obtain ⟨t, rfl⟩ := r
    cases (show T = "int" from ty)
    exact ⟨typeIs_int s i t, fun _ e => nomatch e⟩
  | ref p =>
    cases r
    rcases ty with ⟨rfl, xs, hq⟩ | ⟨rfl, o, hk, hc, hd⟩ | ⟨rfl, hk⟩ | ⟨rfl, S, n, hk⟩
    . obtain ⟨its, _, pl, _⟩ := I.list hq
      refine ⟨pl.isList.typeIs, fun a e => ?_⟩
      cases e
      obtain ⟨o, n, e, c, hd, _⟩ := pl
      exact ⟨o, e, hd⟩
    . refine ⟨⟨o, I.kIn p o hk, hc⟩, fun a e => ?_⟩
      cases e
      exact ⟨o, I.kIn _ o hk, hd⟩
    . have z : ∃ o, s.heap.get? p = some o /\ o.ExactDict := by
        rcases hk with ⟨kvs, hk⟩ | ⟨kvs, hk⟩
        . obtain ⟨_, _, _, _, o, _, _, e, ex, _⟩ := I.hok p _ hk
          exact ⟨o, e, ex⟩
        . obtain ⟨_, _, _, _, o, _, _, e, ex, _⟩ := I.hok p _ hk
          exact ⟨o, e, ex⟩
      obtain ⟨o, e, ex⟩ := z
      refine ⟨⟨o, e, ex.1⟩, fun a e2 => ?_⟩
      cases e2
      exact ⟨o, e, ex.2.1⟩
    . obtain ⟨o, _, _, _, e, ex, _⟩ := I.hok p _ hk
      refine ⟨⟨o, e, ex.1⟩, fun a e2 => ?_⟩
      cases e2
      exact ⟨o, e, ex.2.1⟩
  | _ => exact False.elim ty
def z7c (K : PySem.W.Frag) (T : String) (r : V -> List V -> Hp -> VK -> Prop) (to : TE) : TE := fun σ H Q => to σ H fun x H1 => tyV K T x H1 /\ r x [] H1 Q
def tBM (K : PySem.W.Frag) (T : String) (r : V -> List V -> Hp -> VK -> Prop) (to : TE) (t : TA) : TE := fun σ H Q => to σ H fun x H1 => tyV K T x H1 /\ t σ H1 fun xs H2 => r x xs H2 Q
variable {o e : Expr} {es : List Expr} {to : TE} {t : TA} {name : Str} {apos cpos : Pos} {T id : String} {r : V -> List V -> Hp -> VK -> Prop}
theorem z2y (pa : PlainAttrs T) (slot : Slot T name id) (hty : typeOf (.builtin id) = pure (.type "method_descriptor")) (hm : MtR X id r) (ho : PE X o to)
    (hbase : attributeBase o name X.env (eval o X.env) = eval o X.env := by rfl) (hline : (apos.endLine == cpos.line) = true := by rfl) : PE X (.Call (.Attribute o name apos) [] [] cpos) (z7c X.K T r to) := by
  intro pins s σ H Q I h
  refine wpAny_Call_method0_late hbase hline (thn (ho pins s σ H _ I h) fun v s1 ⟨x, H1, I1, r1, ty, q1⟩ => ?_)
  obtain ⟨h1, h2⟩ := z3z I1 r1 ty
  exact ⟨T, id, pa, slot, hty, h1, h2, Calls.callWith_builtin rfl (PySem.evalArgs_none (hm pins s1 σ H1 x [] v [] Q I1 r1 .nil q1))⟩
theorem z3b (pa : PlainAttrs T) (slot : Slot T name id) (hty : typeOf (.builtin id) = pure (.type "method_descriptor")) (hm : MtR X id r) (ho : PE X o to) (ha : PA X (e :: es) t)
    (hbase : attributeBase o name X.env (eval o X.env) = eval o X.env := by rfl)
    (hfew : ((backTo cpos (starEach (e :: es) X.env)).all (fun x => !x.1) && (backToKw cpos (keywordEach [] X.env)).all (fun x => x.1.isSome)
      && decide ((e :: es).length + ([] : List Keyword).length + (if ([] : List Keyword).isEmpty then 0 else 1) < 30)) = true := by rfl)
    (hline : (apos.endLine == cpos.line) = true := by rfl) (hs : starEach (e :: es) X.env = (false, eval e X.env) :: starEach es X.env := by rfl) (hplain : (backTo cpos (starEach es X.env)).any (·.1) = false := by rfl) :
    PE X (.Call (.Attribute o name apos) (e :: es) [] cpos) (tBM X.K T r to t) := by
  intro pins s σ H Q I h
  refine wpAny_Call_method_late hbase hfew hline rfl (thn (ho pins s σ H _ I h) fun v s1 ⟨x, H1, I1, r1, ty, q1⟩ => ?_)
  obtain ⟨h1, h2⟩ := z3z I1 r1 ty
  refine ⟨T, id, pa, slot, hty, h1, h2, ?_⟩
  have hA := ha cpos pins s1 σ H1 _ I1 q1
  rw [hs] at hA ⊢
  refine Calls.callWith_builtin (by show (false || (backTo cpos (starEach es X.env)).any (·.1)) = false; rw [hplain] <;> rfl) (Calls.evalArgs_plain ?_)
  exact thn hA fun us s2 ⟨vs, H2, I2, r2, q2⟩ => hm pins s2 σ H2 x vs v us Q I2 r1 r2 q2
/- xs.append(e), list.index on a module's tuple .. are MtR facts of 06m -/
end
def MtM (X : Cx) (id : String) (r : V -> List V -> Hp -> VK -> Prop) : Prop :=
  ∀ (pins : List (Addr × Obj)) (s : Shared) (σ : St) (H : Hp) (x : V) (xs : List V) (v : Value) (us : List Value) (Q : VK), Inv X pins σ H s -> RelV x v -> Vals xs us -> r x xs H Q ->
    wpAny (model X.prog X.w) X.A (call (.builtin id) (v :: us)) (EP X pins σ Q) X.xe s
theorem Vals.one : ∀ {x : V} {us : List Value}, Vals [x] us -> ∃ u, us = [u] /\ RelV x u
  | _, _, .cons r .nil => ⟨_, rfl, r⟩
theorem Vals.two : ∀ {x y : V} {us : List Value}, Vals [x, y] us -> ∃ u v, us = [u, v] /\ RelV x u /\ RelV y v
  | _, _, _, .cons r (.cons q .nil) => ⟨_, _, rfl, r, q⟩
theorem Vals.zero : ∀ {us : List Value}, Vals [] us -> us = []
  | _, .nil => rfl
theorem Vals.dropLast {xs : List V} {us : List Value} (h : Vals xs us) : Vals xs.dropLast us.dropLast := by
  induction h with
  | nil => exact .nil
  | cons r t ih =>
    cases t with
    | nil => exact .nil
    | cons q t' => exact .cons r ih
theorem Vals.eraseIdx : ∀ {xs : List V} {us : List Value} (i : Nat), Vals xs us -> Vals (xs.eraseIdx i) (us.eraseIdx i)
  | _, _, _, .nil => .nil
  | _, _, 0, .cons _ t => t
  | _, _, i + 1, .cons r t => .cons r (Vals.eraseIdx i t)
theorem Vals.reverse {xs : List V} {us : List Value} (h : Vals xs us) : Vals xs.reverse us.reverse := by
  induction h with
  | nil => exact .nil
  | cons r t ih => rw [List.reverse_cons, List.reverse_cons]; exact Vals.append ih (.cons r .nil)
section
variable {X : Cx} {pins : List (Addr × Obj)} {σ : St} {H : Hp} {s : Shared} {l b : Addr} {xs ys zs : List V}
theorem Inv.lset {its its' : List Value} {n : Nat} {f : Array Value -> Array Value} {t' : Nat} (I : Inv X pins σ H s) (hH : H l = some (.lst xs))
    (e : s.heap.get? l = some { cls := .type "list", data := .seq its.toArray n }) (hf : f its.toArray = its'.toArray) (hv : Vals ys its') (hz : ys.length <= sizeLine) :
    Inv X pins σ (upd H l (.lst ys)) { s with heap := s.heap.update l (Obj.mapSeq f), toks := t' } := by
  have q := PySem.IsL.update e f
  rw [hf] at q
  refine I.write (x := l) (e := l) (by rw [hH]; exact trivial) (.inl rfl) (fun b' u hb hu => (Heap.get?_update_other s.heap (Obj.mapSeq f) (Ne.symm hb)).trans hu) ⟨_, q⟩ ?_
  exact ⟨hz, its', _, hv, q⟩
theorem Inv.fresh (I : Inv X pins σ H s) : H s.heap.objs.size = none := I.hok.fresh (Nat.le_refl _)
theorem Inv.lstM (I : Inv X pins σ H s) (hH : H l = some (.lst xs)) : xs.length <= sizeLine /\ ∃ (its : List Value) (n : Nat), Vals xs its /\ xs.length = its.length /\ s.heap.get? l = some { cls := .type "list", data := .seq its.toArray n } := by
  obtain ⟨z, its, n, r, e⟩ := I.hok l _ hH
  exact ⟨z, its, n, r, r.length, e⟩
end
section
variable {X : Cx}
def z4G : V -> List V -> Hp -> VK -> Prop := fun x vs H Q => ∃ l xs y, x = .ref l /\ vs = [y] /\ H l = some (.lst xs) /\ xs.length < sizeLine /\ Q .non (upd H l (.lst (xs ++ [y])))
theorem z11 : MtM X "list.append" z4G := by
  intro pins s σ H x vs v us Q I rx rv h
  obtain ⟨l, xs, y, rfl, rfl, hH, hz, q⟩ := h
  cases rx
  obtain ⟨u, rfl, ru⟩ := rv.one
  obtain ⟨z, its, n, r, hl, e⟩ := I.lstM hH
  refine call_meets F.slot_list_append ⟨_, e, rfl⟩ F.entry_list_append (F.args_list_append_2 _ _) (PySem.list_append l its.toArray n u (by rw [List.size_toArray]; omega)) ⟨e, ?_⟩
  refine ⟨.non, _, I.lset (its' := its ++ [u]) hH e (by simp) (r.append (.cons ru .nil)) ?_, rfl, q⟩
  rw [List.length_append, List.length_singleton]
  omega
def z60 : V -> List V -> Hp -> VK -> Prop := fun x vs H Q => ∃ l b xs zs, x = .ref l /\ vs = [.ref b] /\ H l = some (.lst xs) /\ H b = some (.lst zs) /\ xs.length + zs.length <= sizeLine /\ Q .non (upd H l (.lst (xs ++ zs)))
def z8S : V -> List V -> Hp -> VK -> Prop := fun x vs H Q => ∃ l xs y, x = .ref l /\ vs = [] /\ H l = some (.lst xs) /\ xs[xs.length - 1]? = some y /\ Q y (upd H l (.lst xs.dropLast))
def z6j : V -> List V -> Hp -> VK -> Prop := fun x vs H Q => ∃ l xs i k y, x = .ref l /\ vs = [.int i] /\ H l = some (.lst xs) /\ -(2 ^ 63) <= i /\ i < 2 ^ 63 /\ seqIndex? i xs.length = some k /\ xs[k]? = some y /\ Q y (upd H l (.lst (xs.eraseIdx k)))
def z5V : V -> List V -> Hp -> VK -> Prop := fun x vs H Q => ∃ l xs, x = .ref l /\ vs = [] /\ H l = some (.lst xs) /\ Q .non (upd H l (.lst xs.reverse))
def z4x : V -> List V -> Hp -> VK -> Prop := fun x vs H Q => ∃ l xs, x = .ref l /\ vs = [] /\ H l = some (.lst xs) /\ Q .non (upd H l (.lst []))
theorem z1V : MtM X "list.clear" z4x := by
  intro pins s σ H x vs v us Q I rx rv h
  obtain ⟨l, xs, rfl, rfl, hH, q⟩ := h
  cases rx
  have hus := rv.zero
  subst hus
  obtain ⟨z, its, n, r, hl, e⟩ := I.lstM hH
  refine call_meets F.slot_list_clear ⟨_, e, rfl⟩ F.entry_list_clear (F.args_list_clear_1 _) (AutoSeq1.list_clear_list_0 l its.toArray n (by rw [List.size_toArray]; omega)) ⟨e, ?_⟩
  exact ⟨.non, _, I.lset (its' := []) (ys := []) hH e rfl .nil (Nat.zero_le _), rfl, q⟩
def z8T : R2 := fun x y H Q => ∃ l b xs zs, x = .ref l /\ y = .ref b /\ H l = some (.lst xs) /\ H b = some (.lst zs) /\ xs.length + zs.length <= sizeLine /\ ∀ p, H p = none -> Q (.ref p) (upd H p (.lst (xs ++ zs)))
def z8U : R2 := fun x y H Q => ∃ l k xs, x = .ref l /\ y = .int k /\ H l = some (.lst xs) /\ -(2 ^ 63) <= k /\ k < 2 ^ 63 /\ xs.length * k.toNat <= sizeLine /\
  ∀ p, H p = none -> Q (.ref p) (upd H p (.lst (List.replicate k.toNat xs).flatten))
end
section
variable {prog : Program} {w : World} {A : Around} {E : Value -> Shared -> Prop} {s : Shared}
end
section
variable {X : Cx}
end
section
variable {κ : Type} [DecidableEq κ]
def z1x (kvs : List (κ × V)) (k : κ) : Option V := (kvs.find? fun kv => decide (kv.1 = k)).map (·.2)
def putK (kvs : List (κ × V)) (k : κ) (v : V) : List (κ × V) :=
  if (kvs.any fun kv => decide (kv.1 = k)) = true then kvs.map (fun kv => if kv.1 = k then (kv.1, v) else kv) else kvs ++ [(k, v)]
def z2z (kvs : List (κ × V)) (k : κ) : List (κ × V) := kvs.filter fun kv => decide (kv.1 ≠ k)
theorem z1W {p : κ × V} {r : List (κ × V)} {k : κ} (e : p.1 = k) : z1x (p :: r) k = some p.2 := by simp [z1x, List.find?_cons, e]
theorem z1X {p : κ × V} {r : List (κ × V)} {k : κ} (e : ¬ p.1 = k) : z1x (p :: r) k = z1x r k := by simp [z1x, List.find?_cons, e]
theorem z2K (k : κ) : ∀ kvs : List (κ × V), (kvs.any fun kv => decide (kv.1 = k)) = (z1x kvs k).isSome
  | [] => rfl
  | p :: r => by
    rw [List.any_cons]
    by_cases e : p.1 = k
    . simp only [z1W e, decide_eq_true e, Bool.true_or, Option.isSome_some]
    . rw [z1X e, decide_eq_false e, Bool.false_or]; exact z2K k r
theorem RelO.isSome_eq {o : Option V} {u : Option Value} (r : RelO o u) : o.isSome = u.isSome := by
  cases o with
  | none => cases u with
    | none => rfl
    | some _ => exact (show False from r).elim
  | some _ => cases u with
    | none => exact (show False from r).elim
    | some _ => rfl
theorem RelO.getD {o : Option V} {u : Option Value} {d : V} {d' : Value} (r : RelO o u) (rd : RelV d d') : RelV (o.getD d) (u.getD d') := by
  cases o with
  | none => cases u with
    | none => exact rd
    | some _ => exact (show False from r).elim
  | some _ => cases u with
    | none => exact (show False from r).elim
    | some _ => exact r
theorem KV.val {kvs : List (κ × V)} {vs : List (κ × Value)} (r : KV kvs vs) (k : κ) : RelO (z1x kvs k) (valueAt vs k) := by
  unfold KV at r
  induction r with
  | nil => exact True.intro
  | @cons p q ps qs h t ih =>
    obtain ⟨h1, h2⟩ := h
    by_cases e : p.1 = k
    . have e' : q.1 = k := h1.symm.trans e
      have b : valueAt (q :: qs) k = some q.2 := by simp [valueAt, List.find?_cons, e']
      rw [z1W e, b]; exact h2
    . have e' : ¬ q.1 = k := fun z => e (h1.trans z)
      have b : valueAt (q :: qs) k = valueAt qs k := by simp [valueAt, List.find?_cons, e']
      rw [z1X e, b]; exact ih
theorem KV.any {kvs : List (κ × V)} {vs : List (κ × Value)} (r : KV kvs vs) (k : κ) : (kvs.any fun kv => decide (kv.1 = k)) = vs.any fun kv => decide (kv.1 = k) := by
  unfold KV at r
  induction r with
  | nil => rfl
  | cons h t ih => rw [List.any_cons, List.any_cons, ih, h.1]
theorem KV.repl {kvs : List (κ × V)} {vs : List (κ × Value)} (r : KV kvs vs) (k : κ) {y : V} {u : Value} (ry : RelV y u) :
    KV (kvs.map fun kv => if kv.1 = k then (kv.1, y) else kv) (vs.map fun kv => if kv.1 = k then (kv.1, u) else kv) := by
  unfold KV at r ⊢
  induction r with
  | nil => exact .nil
  | @cons p q ps qs h t ih =>
    rw [List.map_cons, List.map_cons]
    refine .cons ?_ ih
    obtain ⟨h1, h2⟩ := h
    by_cases e : p.1 = k
    . rw [if_pos e, if_pos (h1.symm.trans e)]; exact ⟨h1, ry⟩
    . rw [if_neg e, if_neg (fun z => e (h1.trans z))]; exact ⟨h1, h2⟩
theorem KV.put {kvs : List (κ × V)} {vs : List (κ × Value)} (r : KV kvs vs) (k : κ) {y : V} {u : Value} (ry : RelV y u) : KV (putK kvs k y) (stored vs k u) := by
  unfold putK stored
  rw [r.any k]
  by_cases e : (vs.any fun kv => decide (kv.1 = k)) = true
  . rw [if_pos e, if_pos e]; exact r.repl k ry
  . rw [if_neg e, if_neg e]; exact Paired.snoc r ⟨rfl, ry⟩
theorem KV.drop {kvs : List (κ × V)} {vs : List (κ × Value)} (r : KV kvs vs) (k : κ) : KV (z2z kvs k) (without vs k) := by
  unfold KV at r ⊢
  unfold z2z without
  induction r with
  | nil => exact .nil
  | @cons p q ps qs h t ih =>
    obtain ⟨h1, h2⟩ := h
    rw [List.filter_cons, List.filter_cons]
    by_cases e : p.1 = k
    . have a : ¬ decide (p.1 ≠ k) = true := by simp [e]
      have b : ¬ decide (q.1 ≠ k) = true := by simp [h1.symm.trans e]
      rw [if_neg a, if_neg b]; exact ih
    . have e' : ¬ q.1 = k := fun z => e (h1.trans z)
      have a : decide (p.1 ≠ k) = true := by simp [e]
      have b : decide (q.1 ≠ k) = true := by simp [e']
      rw [if_pos a, if_pos b]; exact .cons ⟨h1, h2⟩ ih
theorem KV.keys {kvs : List (κ × V)} {vs : List (κ × Value)} (r : KV kvs vs) : kvs.map (·.1) = vs.map (·.1) := by
  unfold KV at r
  induction r with
  | nil => rfl
  | cons h t ih => rw [List.map_cons, List.map_cons, ih, h.1]
theorem KV.length {kvs : List (κ × V)} {vs : List (κ × Value)} (r : KV kvs vs) : kvs.length = vs.length := Paired.length r
end
abbrev KT (H : Hp) : List (List Key × V) -> List (List Key × Addr × Value) -> Prop := Paired fun p q => p.1 = q.1 /\ H q.2.1 = some (.tup (p.1.map kV)) /\ RelV p.2 q.2.2
theorem KT.val {H : Hp} {kvs : List (List Key × V)} {xs : List (List Key × Addr × Value)} (r : KT H kvs xs) (k : List Key) : RelO (z1x kvs k) ((atKey xs k).map (·.2)) := by
  induction r with
  | nil => exact True.intro
  | @cons p q ps qs h t ih =>
    obtain ⟨h1, _, h2⟩ := h
    by_cases e : p.1 = k
    . have e' : q.1 = k := h1.symm.trans e
      have b : atKey (q :: qs) k = some q.2 := by simp [atKey, List.find?_cons, e']
      rw [z1W e, b]; exact h2
    . have e' : ¬ q.1 = k := fun z => e (h1.trans z)
      have b : atKey (q :: qs) k = atKey qs k := by simp [atKey, List.find?_cons, e']
      rw [z1X e, b]; exact ih
theorem KT.repl {H : Hp} {kvs : List (List Key × V)} {xs : List (List Key × Addr × Value)} (r : KT H kvs xs) (k : List Key) {y : V} {u : Value} (ry : RelV y u) :
    KT H (kvs.map fun kv => if kv.1 = k then (kv.1, y) else kv) (xs.map (putAt k u)) := by
  induction r with
  | nil => exact .nil
  | @cons p q ps qs h t ih =>
    rw [List.map_cons, List.map_cons]
    refine .cons ?_ ih
    obtain ⟨h1, h2, h3⟩ := h
    unfold putAt
    by_cases e : p.1 = k
    . rw [if_pos e, if_pos (h1.symm.trans e)]; exact ⟨h1, h2, ry⟩
    . rw [if_neg e, if_neg (fun z => e (h1.trans z))]; exact ⟨h1, h2, h3⟩
theorem KT.put {H : Hp} {kvs : List (List Key × V)} {xs : List (List Key × Addr × Value)} (r : KT H kvs xs) (k : List Key) {b : Addr} {y : V} {u : Value} (hb : H b = some (.tup (k.map kV))) (ry : RelV y u) :
    KT H (putK kvs k y) (storedH xs k b u) := by
  have e : (kvs.any fun kv => decide (kv.1 = k)) = (atKey xs k).isSome := by
    rw [z2K, (r.val k).isSome_eq, Option.isSome_map]
  unfold putK storedH
  rw [e]
  by_cases q : (atKey xs k).isSome = true
  . rw [if_pos q, if_pos q]; exact r.repl k ry
  . rw [if_neg q, if_neg q]; exact Paired.snoc r ⟨rfl, hb, ry⟩
theorem KT.keeps {H H' : Hp} {kvs : List (List Key × V)} {xs : List (List Key × Addr × Value)} (r : KT H kvs xs) (ht : ∀ b ys, H b = some (.tup ys) -> H' b = some (.tup ys)) : KT H' kvs xs :=
  Paired.mapP r fun _ _ z => ⟨z.1, ht _ _ z.2.1, z.2.2⟩
section
variable {P : Program} {w : World} {H : Hp} {h : Heap} {a : Addr}
end
def DGet (H : Hp) (a : Addr) (y : V) (r : Option V) : Prop :=
  (∃ kvs k, Rd H a (.dK kvs) /\ y = kV k /\ r = z1x kvs k) \/ ∃ kvs k b, Rd H a (.dT kvs) /\ y = .ref b /\ H b = some (.tup (k.map kV)) /\ r = z1x kvs k
def DPut (H : Hp) (a : Addr) (y v : V) (H' : Hp) : Prop :=
  (∃ kvs k, H a = some (.dK kvs) /\ y = kV k /\ kvs.length < sizeLine /\ H' = upd H a (.dK (putK kvs k v))) \/
  ∃ kvs k b, H a = some (.dT kvs) /\ y = .ref b /\ H b = some (.tup (k.map kV)) /\ kvs.length < sizeLine /\ H' = upd H a (.dT (putK kvs k v))
theorem DGet.k {H : Hp} {a : Addr} {kvs : List (Key × V)} {k : Key} (e : H a = some (.dK kvs)) : DGet H a (kV k) (z1x kvs k) := .inl ⟨kvs, k, .inl e, rfl, rfl⟩
theorem DGet.t {H : Hp} {a b : Addr} {kvs : List (List Key × V)} {k : List Key} (e : H a = some (.dT kvs)) (eb : H b = some (.tup (k.map kV))) : DGet H a (.ref b) (z1x kvs k) := .inr ⟨kvs, k, b, .inl e, rfl, eb, rfl⟩
theorem DPut.k {H : Hp} {a : Addr} {kvs : List (Key × V)} {k : Key} {v : V} (e : H a = some (.dK kvs)) (hl : kvs.length < sizeLine) : DPut H a (kV k) v (upd H a (.dK (putK kvs k v))) := .inl ⟨kvs, k, e, rfl, hl, rfl⟩
theorem DPut.t {H : Hp} {a b : Addr} {kvs : List (List Key × V)} {k : List Key} {v : V} (e : H a = some (.dT kvs)) (eb : H b = some (.tup (k.map kV))) (hl : kvs.length < sizeLine) :
    DPut H a (.ref b) v (upd H a (.dT (putK kvs k v))) := .inr ⟨kvs, k, b, e, rfl, eb, hl, rfl⟩
section
variable {X : Cx} {pins : List (Addr × Obj)} {σ : St} {H : Hp} {s : Shared} {a : Addr} {y v : V} {u r : Value} {o : Option V} {A : Around} {E : Value -> Shared -> Prop}
end
section
variable {X : Cx} {pins : List (Addr × Obj)} {σ : St} {H : Hp} {s : Shared} {a : Addr} {kvs : List (Key × V)} {k : Key} {u : Value} {A : Around} {E : Value -> Shared -> Prop}
end
def z8V (i : Expr) : Prop := ∀ ov iv, subscripted i false ov iv = operate [ov, iv] (getItem ov iv)
def z7d (td ty : TE) : TE := fun σ H Q => td σ H fun x H1 => ty σ H1 fun y H2 => ∃ a v, x = .ref a /\ DGet H2 a y (some v) /\ Q v H2
def z8W (ty td : TE) : TE := fun σ H Q => ty σ H fun y H1 => td σ H1 fun x H2 => ∃ a o, x = .ref a /\ DGet H2 a y o /\ Q (.bl o.isSome) H2
def z61 (ty td : TE) : TE := fun σ H Q => ty σ H fun y H1 => td σ H1 fun x H2 => ∃ a o, x = .ref a /\ DGet H2 a y o /\ Q (.bl (!o.isSome)) H2
def z7e (td ty tv : TE) : TS := fun D σ H => tv σ H fun v H1 => td σ H1 fun x H2 => ty σ H2 fun y H3 => ∃ a H4, x = .ref a /\ DPut H3 a y v H4 /\ D.nx σ H4
def z7f (td ty tv : TE) (rd : V -> V -> Hp -> VK -> Prop) : TS := fun D σ H => td σ H fun x H1 => ty σ H1 fun y H2 => ∃ a v, x = .ref a /\ DGet H2 a y (some v) /\
  tv σ H2 fun y2 H3 => rd v y2 H3 fun z H4 => ∃ H5, DPut H4 a y z H5 /\ D.nx σ H5
def z7g (td ty : TE) : TS := fun D σ H => td σ H fun x H1 => ty σ H1 fun y H2 => ∃ a kvs k, x = .ref a /\ H2 a = some (.dK kvs) /\ y = kV k /\ (z1x kvs k).isSome = true /\ D.nx σ (upd H2 a (.dK (z2z kvs k)))
section
variable {X : Cx} {o i e value : Expr} {pos pos' tpos : Pos} {td ty tv : TE}
end
def z6k : TE := fun _ H Q => ∀ p, H p = none -> Q (.ref p) (upd H p (.dK []))
def z6l : TE := fun _ H Q => ∀ p, H p = none -> Q (.ref p) (upd H p (.dT []))
section
variable {X : Cx} {pos : Pos}
end
def z30 : List (TE × TE) -> St -> Hp -> (List (V × V) -> Hp -> Prop) -> Prop
  | [], _, H, Q => Q [] H
  | (tk, tv) :: r, σ, H, Q => tk σ H fun x H1 => tv σ H1 fun y H2 => z30 r σ H2 fun ps H3 => Q ((x, y) :: ps) H3
abbrev VV : List (V × V) -> List (Value × Value) -> Prop := Paired fun p q => RelV p.1 q.1 /\ RelV p.2 q.2
def PPs (X : Cx) (pos : Pos) (keys : List (Option Expr)) (values : List Expr) (trs : List (TE × TE)) : Prop :=
  ∀ (pins : List (Addr × Obj)) (s : Shared) (σ : St) (H : Hp) (Q : List (V × V) -> Hp -> Prop), Inv X pins σ H s -> z30 trs σ H Q ->
    wpAny (model X.prog X.w) X.A (evalPairs (pairTrees keys values X.env pos)) (fun vs s' => ∃ ps H', Inv X pins σ H' s' /\ VV ps vs /\ Q ps H') X.xe s
def z4y (kvs more : List (Key × V)) : List (Key × V) := more.foldl (fun acc kv => putK acc kv.1 kv.2) kvs
def z7h (trs : List (TE × TE)) : TE := fun σ H Q => ∀ p, H p = none -> z30 trs σ (upd H p (.dK [])) fun ps H2 => H2 p = some (.dK []) /\ ∃ kvs : List (Key × V), ps = kvs.map (fun kv => (kV kv.1, kv.2)) /\ kvs.length <= 15 /\ Q (.ref p) (upd H2 p (.dK (z4y [] kvs)))
structure M1 (X : Cx) (o : Expr) (m : Str) (apos : Pos) (e : Expr) (cpos : Pos) : Prop where
  base : attributeBase o m X.env (eval o X.env) = eval o X.env
  few : ((backTo cpos (starEach [e] X.env)).all (fun x => !x.1) && (backToKw cpos (keywordEach [] X.env)).all (fun x => x.1.isSome)
    && decide (([e] : List Expr).length + ([] : List Keyword).length + (if ([] : List Keyword).isEmpty then 0 else 1) < 30)) = true
  line : (apos.endLine == cpos.line) = true
  trees : backTo cpos (starEach [e] X.env) = [(false, eval e X.env)]
structure M2 (X : Cx) (o : Expr) (m : Str) (apos : Pos) (e f : Expr) (cpos : Pos) : Prop where
  base : attributeBase o m X.env (eval o X.env) = eval o X.env
  few : ((backTo cpos (starEach [e, f] X.env)).all (fun x => !x.1) && (backToKw cpos (keywordEach [] X.env)).all (fun x => x.1.isSome)
    && decide (([e, f] : List Expr).length + ([] : List Keyword).length + (if ([] : List Keyword).isEmpty then 0 else 1) < 30)) = true
  line : (apos.endLine == cpos.line) = true
  trees : backTo cpos (starEach [e, f] X.env) = [(false, eval e X.env), (false, eval f X.env)]
def IsD (H : Hp) (a : Addr) : Prop := (∃ kvs, Rd H a (.dK kvs)) \/ ∃ kvs, Rd H a (.dT kvs)
section
variable {X : Cx} {pins : List (Addr × Obj)} {σ : St} {H : Hp} {s : Shared} {a : Addr} {y d : V} {u r : Value} {o : Option V} {A : Around} {E : Value -> Shared -> Prop}
end
def z6m (td ty : TE) : TE := fun σ H Q => td σ H fun x H1 => ∃ a, x = .ref a /\ IsD H1 a /\ ty σ H1 fun y H2 => ∃ o, DGet H2 a y o /\ Q (o.getD .non) H2
def z6n (td ty tx : TE) : TE := fun σ H Q => td σ H fun x H1 => ∃ a, x = .ref a /\ IsD H1 a /\ ty σ H1 fun y H2 => tx σ H2 fun z H3 => ∃ o, DGet H3 a y o /\ Q (o.getD z) H3
def z6o (td ty : TE) : TE := fun σ H Q => td σ H fun x H1 => ∃ a, x = .ref a /\ IsD H1 a /\ ty σ H1 fun y H2 => ∃ kvs k v, H2 a = some (.dK kvs) /\ y = kV k /\ z1x kvs k = some v /\ Q v (upd H2 a (.dK (z2z kvs k)))
def z6p (td ty tx : TE) : TE := fun σ H Q => td σ H fun x H1 => ∃ a, x = .ref a /\ IsD H1 a /\ ty σ H1 fun y H2 => tx σ H2 fun z H3 => ∃ kvs k, H3 a = some (.dK kvs) /\ y = kV k /\
  (∀ v, z1x kvs k = some v -> Q v (upd H3 a (.dK (z2z kvs k)))) /\ (z1x kvs k = none -> Q z H3)
section
variable {X : Cx} {o e f : Expr} {apos cpos : Pos} {td ty tx : TE}
end
section
variable {X : Cx} {pins : List (Addr × Obj)} {σ : St} {H : Hp} {s : Shared} {a : Addr} {kvs : List (Key × V)} {A : Around} {E : Value -> Shared -> Prop}
end
section
variable {X : Cx} {pins : List (Addr × Obj)} {σ : St} {H : Hp} {s : Shared} {a : Addr} {y : V} {u : Value} {A : Around} {E : Value -> Shared -> Prop}
end
end L2
namespace Att
open PySem PySem.W PySem.Calls PyProof.Rows
theorem z1D {P : Params} {h : Heap} : ∀ (ns : List Int) (vs : List Value), WellAll P h vs (ns.map WData.int) -> IntsAre vs ns := by
  intro ns
  induction ns with
  | nil =>
    intro vs w
    rw [List.map_nil] at w
    cases w
    exact .nil
  | cons n ns ih =>
    intro vs w
    rw [List.map_cons] at w
    cases w with
    | cons a b =>
      cases a
      exact .cons _ _ (ih _ b)
theorem z31 {l : OpenLaw} {n : Nat} (hn : l.most = some n) {P : Params} {h : Heap} {args : List WData} {vals : List Value}
    (hpre : l.row.toRowW.claim.pre args = true) (hwl : WellAll P h vals args) :
    ∃ a vs ns, vals = [Value.ref a] /\ args = [WData.list (ns.map WData.int)] /\ h.get? a = some { cls := .type "list", data := .seq vs.toArray } /\ IntsAre vs ns /\ ns.length <= n := by
  have hsh : WShape.hasAll [] args [.list .int] = true := (pre_splitW hpre).1
  have hc : l.pre.holds [] { args := args } = true := (pre_splitW hpre).2
  obtain ⟨d, r, rfl, h1, h2⟩ := hasAllW_cons hsh
  obtain rfl := hasAllW_nil h2
  obtain ⟨xs, rfl, h3⟩ := hasW_list h1
  obtain ⟨ns, rfl⟩ := items_int h3
  have hlen : ns.length <= n := by
    unfold OpenLaw.pre at hc
    have h4 : (WTm.not (.lt (.lit (.int (n : Int))) (.len (.arg 0)))).holds [] { args := [.list (ns.map .int)] } = true := by
      have h4 := (holds_andW hc).1
      rw [hn] at h4
      exact h4
    have h5 := condW_of h4 (w_not (w_lt w_lit (w_len_list (w_arg rfl))))
    rw [List.length_map] at h5
    refine Nat.le_of_not_lt fun q => ?_
    have q' : (n : Int) < ((ns.length : Nat) : Int) := by omega
    first
      | (rw [decide_eq_true q'] at h5; exact absurd h5 (by decide))
      | (simp at h5; omega)
  cases hwl with
  | cons w1 w2 =>
    cases w2
    cases w1 with
    | list ho hall => exact ⟨_, _, ns, rfl, rfl, ho, z1D ns _ hall, hlen⟩
theorem z32 (l : OpenLaw) (args : List WData) : l.row.toRowW.claim.post args (.bool true) args = true :=
  postW_of (r := l.row.toRowW) (X := (true == true))
    (show WShape.has [] (.bool true) .bool = true by first | rfl | decide | simp [WShape.has, WShape.arms, WShape.armsAll])
    (show (WTm.eq .res (.lit (.bool true))).value [] { args := args, res := some (.bool true), after := args } = some (.bool (true == true)) from w_eq_bool (w_res rfl) w_lit) rfl
theorem attach_call {l : OpenLaw} {n : Nat} {q : Program} {loose : List Str} {XP : (Str -> Option Value) -> Heap -> Prop} {YP : World -> Heap -> Prop} {d : DefRec}
    (hn : l.most = some n) (hdf : d.params.defaults = [])
    (call : ∀ (w : World) (s₀ s₁ : Shared) (mg mb : Str -> Option Value) (fa : Addr) (o : Obj) (pm cd doc : Value) (a : Addr) (vs : List Value) (ns : List Int),
      Ground q loose [] XP w s₀ mg mb s₁.heap -> YP w s₁.heap ->
      s₁.heap.get? fa = some o -> o.data = .func (docDef d.name d.params d.body d.scope pm cd doc) -> s₁.heap.CodeRec cd d.name -> mg d.name = some (.ref fa) ->
      s₁.heap.get? a = some { cls := .type "list", data := .seq vs.toArray } -> IntsAre vs ns -> ns.length <= n -> s₁.gens = #[] ->
      codeAny (model l.prog w) callerA (.call (.ref fa) ⟨[.ref a], []⟩) (fun r s' => r = .ok (.ret (.bool true)) /\ OldK s₁.heap s'.heap /\ s'.os = s₁.os /\ AllBare s'.gens) s₁) :
    WalkO q loose XP YP l.row.toRowW d [] (fun f vs => PySem.call f vs) := by
  intro w s₀ s₁ mg mb G Y fa o pm cd doc dV kV ho hd hcd hD hmg hg args vals as hpre hlay hrd hwl hlo
  obtain rfl : dV = .none := Dflts.none hD hdf
  obtain rfl : kV = .none := Dflts.noKw hD
  obtain ⟨a, vs, ns, rfl, rfl, hobj, hints, hlen⟩ := z31 hn hpre hwl
  refine enter_call (codeAny_mono (call w s₀ s₁ mg mb fa o pm cd doc a vs ns G Y ho (fd_plain hd) hcd hmg hobj hints hlen hg) fun r s' hq => ?_)
  obtain ⟨rfl, h2, h3, h4⟩ := hq
  exact ⟨.inl ⟨.bool true, .bool true, [], rfl, fun _ => rfl, .bool true, z32 l _, fun _ => ⟨List.Pairwise.nil, fun _ hm => (nomatch hm)⟩⟩, h2, h3, h4⟩
section
variable {prog : Program} {w : World} {A : Around} {E : Value -> Shared -> Prop} {s : Shared} {K : Frag}
def z6q (h : Heap) : Heap := { h with objs := #[] }
def ledger (h : Heap) (L d : Addr) : List (Addr × Obj) := (List.range h.objs.size).filterMap fun a => if a = L \/ a = d then none else (h.get? a).map fun o => (a, o)
end
end Att
namespace L2
open PySem PySem.Spec PyProof.Rows
theorem z1E : ∀ {vs : List Value} {ns : List Int}, IntsAre vs ns -> Vals (ns.map V.int) vs
  | _, _, .nil => .nil
  | _, _, .cons n t h => .cons ⟨t, rfl⟩ (z1E h)
def z62 (H : Hp) : Prop := ∀ b, H b = none \/ ∃ o xs, H b = some (.frz o (.lst xs))
theorem z3c {P : Program} {w : World} {K : PySem.W.Frag} {mg mb : Str -> Option Value} {CX : CXT} {k : Nat} {fa a : Addr} {fd : FuncData} {x : Str} {sp : Sp} {s₁ : Shared} {vs : List Value} {ns : List Int}
    (KX : K.In s₁.heap) (hns : s₁.heap.Ns mainGlobals mg) (hb : s₁.heap.Ns builtinsNs mb) (hbb : ∀ x : Str, x ≠ "__name__" -> mb x = bootBuiltins x) (hlim : s₁.heap.NoLimit) (hg : s₁.gens = #[])
    (ha : s₁.heap.get? a = some { cls := .type "list", data := .seq vs.toArray }) (hi : IntsAre vs ns) (hl : ns.length <= sizeLine) (hr : Room k callerA)
    (F : ∀ base : Heap, K.In base -> base.Ns mainGlobals mg -> FnOk P w K mg base CX k fa fd [x] sp) (hbind : ∀ (s : Shared) (u : Value), BindsTo s fd ⟨[u], []⟩ [(x, u)])
    (hsp : ∀ H : Hp, z62 H -> SqL K H a (ns.map V.int) -> sp [.ref a] H (fun v _ => v = .bl true) fun _ _ _ => False)
    (hCX : ∀ H e s', CX [] H s₁ (fun _ _ _ => False) e s' -> False) :
    codeAny (model P w) callerA (.call (.ref fa) ⟨[.ref a], []⟩) (fun r s' => r = .ok (.ret (.bool true)) /\ OldK s₁.heap s'.heap /\ s'.os = s₁.os /\ AllBare s'.gens) s₁ := by
  have rv := z1E hi
  have lenV := hi.length
  have core : ∀ H : Hp, z62 H -> SqL K H a (ns.map V.int) -> HOk P w H s₁.heap -> (∀ b, H b ≠ none -> b = a) -> (H a ≠ none -> K.lookup a = none) ->
      codeAny (model P w) callerA (.call (.ref fa) ⟨[.ref a], []⟩) (fun r s' => r = .ok (.ret (.bool true)) /\ OldK s₁.heap s'.heap /\ s'.os = s₁.os /\ AllBare s'.gens) s₁ := by
    intro H hO hS hok hA hK
    have base_of : ∀ {b : Addr} {o : Obj}, s₁.heap.get? b = some o -> H b = none -> (z1z s₁.heap H).get? b = some o := fun e n => z2E e n
    have noA : ∀ {b : Addr} {o : Obj} {es : Array DictEntry} {ep : Nat}, s₁.heap.get? b = some o -> o.data = .dict es ep -> H b = none := fun {b o es ep} e d => by
      cases q : H b with
      | none => rfl
      | some u =>
        have e' : b = a := hA b (by rw [q]; simp)
        subst e'
        rw [ha] at e; cases e
        have d' : Data.seq vs.toArray _ = Data.dict es ep := d
        cases d'
    have nsK : ∀ {b : Addr} {m : Str -> Option Value}, s₁.heap.Ns b m -> (z1z s₁.heap H).Ns b m := fun {b m} ⟨o, es, ep, e, d, r⟩ => ⟨o, es, ep, base_of e (noA e d), d, r⟩
    have hKb : K.In (z1z s₁.heap H) := fun b o e => base_of (KX b o e) (by
      cases q : H b with
      | none => rfl
      | some u =>
        have e' : b = a := hA b (by rw [q]; simp)
        subst e'
        rw [hK (by rw [q]; simp)] at e; cases e)
    have hM : Mod K mg (z1z s₁.heap H) := ⟨hKb, nsK hns, ⟨mb, nsK hb, hbb⟩, let ⟨mc, h1, h2⟩ := hlim; ⟨mc, nsK h1, h2⟩⟩
    have e0 : Env0 P w K mg (z1z s₁.heap H) callerA [] s₁ H := ⟨rfl, hM, fun b o e => z2h e, Nat.le_of_eq (z1c _ _), trivial, fun b hb => absurd (show b ∈ ([] : List Addr) from hb) (by simp), hok, .of_eq hg⟩
    refine codeAny_mono ((F _ hKb (nsK hns)).run callerA [] s₁ H ⟨[.ref a], []⟩ [.ref a] [.ref a] _ _ hr e0 (hbind s₁ (.ref a)) (.cons rfl .nil) (hsp H hO hS)) fun r s' h => ?_
    cases r with
    | error e => exact (hCX H e s' h).elim
    | ok fl =>
      cases fl with
      | next => exact False.elim h
      | brk => exact False.elim h
      | cont => exact False.elim h
      | ret u =>
        obtain ⟨v, H', os, bare, un, hok', r', q⟩ := h
        have q' : v = .bl true := q
        subst q'
        obtain rfl : u = Value.bool true := r'
        refine ⟨rfl, OldK.of_keep fun b o e => ?_, os, bare⟩
        cases q : H b with
        | none => exact un.keep b o e q (by intro z; exact absurd (show b ∈ ([] : List Addr) from z) (by simp)) (by simp)
        | some u =>
          rcases hO b with z | ⟨ob, xs, z⟩
          . rw [q] at z; cases z
          . have z2 := un.frzs b ob _ z
            obtain ⟨e1, _⟩ := hok b _ z
            obtain ⟨e2, _⟩ := hok' b _ z2
            rw [e] at e1; cases e1
            exact e2
  cases hk : K.lookup a with
  | some o =>
    have e := KX a o hk
    rw [ha] at e
    cases e
    refine core (fun _ => none) (fun _ => .inl rfl) (.inr ⟨_, vs.toArray, _, hk, rfl, rfl, rfl, by rw [List.size_toArray, lenV]; exact hl, by simpa using rv⟩) (fun b u z => by have z' : (none : Option HO) = some u := z; cases z') (fun b z => absurd rfl z) fun z => absurd rfl z
  | none =>
    refine core (fun b => if b = a then some (.frz { cls := .type "list", data := .seq vs.toArray } (.lst (ns.map V.int))) else none) (fun b => ?_) (.inl (.inr ⟨{ cls := .type "list", data := .seq vs.toArray }, if_pos rfl⟩)) (fun b u z => ?_) (fun b z => ?_) fun _ => hk
    . by_cases hb : b = a
      . exact .inr ⟨_, _, if_pos hb⟩
      . exact .inl (if_neg hb)
    . by_cases hb : b = a
      . have z' := (if_pos hb).symm.trans z
        cases z'
        subst hb
        exact ⟨ha, by rw [List.length_map]; exact hl, vs, _, rv, ha⟩
      . have z' := (if_neg hb).symm.trans z
        cases z'
    . by_cases hb : b = a
      . exact hb
      . exact absurd (if_neg hb) z
abbrev KOf {K : PySem.W.Frag} {h : Heap} (_ : K.In h) : PySem.W.Frag := K
theorem walk_of {l : PySem.W.OpenLaw} {n k : Nat} {q : Program} {loose : List Str} {XP : (Str -> Option Value) -> Heap -> Prop} {YP : World -> Heap -> Prop} {d : DefRec} {K : Params -> PySem.W.Frag} {CX : World -> CXT} {sp : World -> Sp} {x : Str}
    (hn : l.most = some n) (hn2 : n <= sizeLine) (hdf : d.params.defaults = []) (hr : Room k callerA)
    (hY : ∀ (w : World) (h : Heap), YP w h -> (K w.params).In h)
    (F : ∀ (w : World) (mg : Str -> Option Value) (fa : Addr) (h : Heap), (K w.params).In h -> h.Ns mainGlobals mg -> mg d.name = some (.ref fa) ->
      ∃ fd : FuncData, (∀ (s : Shared) (u : Value), BindsTo s fd ⟨[u], []⟩ [(x, u)]) /\
        ∀ base : Heap, (K w.params).In base -> base.Ns mainGlobals mg -> FnOk l.prog w (K w.params) mg base (CX w) k fa fd [x] (sp w))
    (hsp : ∀ (w : World) (H : Hp) (a : Addr) (ns : List Int), ns.length <= n -> z62 H -> SqL (K w.params) H a (ns.map V.int) -> sp w [.ref a] H (fun v _ => v = .bl true) fun _ _ _ => False)
    (hCX : ∀ (w : World) (H : Hp) (s : Shared) (e : Value) (s' : Shared), CX w [] H s (fun _ _ _ => False) e s' -> False) :
    PySem.W.WalkO q loose XP YP l.row.toRowW d [] (fun f vs => PySem.call f vs) := by
  refine Att.attach_call hn hdf fun w s₀ s₁ mg mb fa o pm cd doc a vs ns G Y ho hd hcd hmg hobj hints hlen hg => ?_
  have KX := hY w _ Y
  obtain ⟨fd, hb, hF⟩ := F w mg fa _ KX G.T.g hmg
  exact z3c KX G.T.g G.T.b G.T.builtins G.T.nolimit hg hobj hints (Nat.le_trans hlen hn2) hr hF hb (fun H hO hS => hsp w H a ns hlen hO hS) fun H e s' => hCX w H s₁ e s'
end L2
/- THE LAST THEOREM (shape; LID, My.* are yours):
   My.Adr: a structure of the addresses that your layer names (classes, functions); My.Txt K t: a structure (Prop) of the equations over K;
   My.txt_mk : {K} {implicit addresses ..} (e1 : nsIn K mainGlobals "law" = some (some (.ref f))) (e2 : K.lookup f = some ⟨oc, od, .func (fnOf "law" "law" params body scope dV kV doc pm an cdv ct), sl⟩) (e3 : codeIn K cdv "law" = true) .. : ∃ t, My.Txt K t
set_option maxRecDepth 100000 in
set_option maxHeartbeats 0 in
theorem PySem.Challenge.cw_LID_holds : PySem.Challenge.rw_LID.Holds := by
  w_on; o_law; k_head; (case hw => w_witness2)
  k_fill
  refine L2.walk_of (l := PySem.Challenge.rw_LID) (n := 63) (k := 40) (x := "script") (CX := fun w => ..) (sp := fun _ => My.sp_law) rfl (by decide) rfl ⟨rfl, by decide, by decide⟩ (fun w h Y => PySem.W.kIn_of Y) ?F ?S ?C
  case F =>
    intro w mg fa h KX G hmg
    have T : ∃ t, My.Txt (L2.KOf KX) t := by
      dsimp only [L2.KOf]
      refine' My.txt_mk ?e1 ?e2 ?e3 ..
      (case e1 => PySem.W.k_is)
      (case e2 => PySem.W.k_is)
      ..
    obtain ⟨t, T⟩ := T
    have e0 := hmg.symm.trans (PySem.W.mg_of KX G T.law)
    cases e0
    exact ⟨_, fun s u => .of_eq rfl, fun base kb nb => My.law_fn T kb nb⟩
  case S => exact fun w H a ns hl hO hS => ..
  case C => exact ..
(the tactic k_is has no namespace: write k_is) -/
namespace L2
open PySem PySem.Spec PyProof.Rows
def inClass (s : Stmt) (j : Nat) : Stmt := match s with
  | .ClassDef _ _ _ body _ _ _ _ _ _ _ => body.getD j (.Pass ⟨0, 0, 0, 0⟩)
  | _ => .Pass ⟨0, 0, 0, 0⟩
def z0G (s : Stmt) : Arguments := match s with
  | .FunctionDef _ a _ _ _ _ _ _ _ _ => a
  | _ => { posonlyargs := [], args := [], vararg := none, kwonlyargs := [], kw_defaults := [], kwarg := none, defaults := [] }
def z0C (s : Stmt) : List Stmt := match s with
  | .FunctionDef _ _ b _ _ _ _ _ _ _ => b
  | _ => []
def z02 (s : Stmt) : Scope := match s with
  | .FunctionDef _ _ _ _ _ _ sc _ _ _ => sc
  | _ => { kind := .function, names := [], isGenerator := false, isCoroutine := false }
abbrev CX0 : CXT := fun _ _ _ _ _ _ => False
abbrev E0 : XK := fun _ _ _ => False
theorem z63 {X : Cx} : z2u CX0 X E0 := fun _ _ _ _ _ _ _ h => h.elim
structure Fun (K : PySem.W.Frag) (x qual : Str) (st : Stmt) (f : Addr) (fd : FuncData) : Prop where
  ex : ∃ (oc : Value) (od : Option Addr) (kV doc pm : Value) (an : Option Addr) (cdv ct : Value) (osl : Array (Option Value)),
    fd = PySem.W.fnOf x qual (z0G st) (z0C st) (z02 st) .none kV doc pm an cdv ct /\ K.lookup f = some ⟨oc, od, .func fd, osl⟩ /\ PySem.W.codeIn K cdv qual = true
  kp : PySem.W.keepIn K (.ref f) = true
section
variable {P : Program} {w : World} {K : PySem.W.Frag} {mg : Str -> Option Value} {base : Heap}
theorem Fun.ok {x qual : Str} {st : Stmt} {f : Addr} {fd : FuncData} {N ps : List Str} {k : Nat} {sp : Sp} (F : Fun K x qual st f fd) (S : FnScope N ps (z02 st)) (len : ∀ vs H Q E, sp vs H Q E -> vs.length = ps.length)
    (hbody : ∀ (cdv : Value) (A : Around) (outer : List Env) (s : Shared) (H : Hp) (vs : List V) (Q : VK) (E : XK), Room k (A.deeper (envOfC qual (z02 st) s.heap.objs.size f cdv)) -> sp vs H Q E ->
      ∃ t, PSs (z3y CX0 P w K mg base N qual (z02 st) f cdv A outer s H E).nox (z0C st) t /\ t { nx := fun _ H' => Q .non H', rt := Q } (start N vs) H) : FnOk P w K mg base CX0 (k + 1) f fd ps sp := by
  obtain ⟨oc, od, kV, doc, pm, an, cdv, ct, osl, rfl, lk, hcd⟩ := F.ex
  refine z4E lk hcd S len fun A outer s H vs Q E hr hsp => ?_
  obtain ⟨t, h, q⟩ := hbody cdv A outer s H vs Q E hr hsp
  exact ⟨t, h.nox, q⟩
theorem Fun.binds {x qual : Str} {st : Stmt} {f : Addr} {fd : FuncData} {ps : List Str} (F : Fun K x qual st f fd)
    (h : ∀ (kV doc pm : Value) (an : Option Addr) (cdv ct : Value) (us : List Value), us.length = ps.length -> bindArgs (PySem.W.fnOf x qual (z0G st) (z0C st) (z02 st) .none kV doc pm an cdv ct) ⟨us, []⟩ = pure (ps.zip us)) : Binds K fd ps [] := by
  obtain ⟨oc, od, kV, doc, pm, an, cdv, ct, osl, rfl, lk, hcd⟩ := F.ex
  exact .all (h kV doc pm an cdv ct)
theorem z0a {x qual : Str} {st : Stmt} {f : Addr} {oc : Value} {od an : Option Addr} {osl : Array (Option Value)} {kV doc pm cdv ct : Value} (l : K.lookup f = some ⟨oc, od, .func (PySem.W.fnOf x qual (z0G st) (z0C st) (z02 st) .none kV doc pm an cdv ct), osl⟩)
    (c : PySem.W.codeIn K cdv qual = true) (k : PySem.W.keepIn K (.ref f) = true) : Fun K x qual st f (PySem.W.fnOf x qual (z0G st) (z0C st) (z02 st) .none kV doc pm an cdv ct) := ⟨⟨oc, od, kV, doc, pm, an, cdv, ct, osl, rfl, l, c⟩, k⟩
end
theorem z0R {n : Nat} (h : n <= 1000) : n < sizeLine := Nat.lt_of_le_of_lt h (by decide)
section
variable {X : Cx}
theorem pv (i : Nat) {x : Str} {pos : Pos} (hN : X.N[i]? = some x := by rfl) (hv : Vis X.env.scope x := by first | exact Or.inl rfl | exact Or.inr (Or.inl rfl) | exact Or.inr (Or.inr rfl)) (hd : (x == ("__debug__" : Str)) = false := by decide)
    (hcd : (x == ("__classdict__" : Str)) = false := by decide) : PE X (.Name x pos) (z6X i) := z4l hN hv hd hcd
end
theorem z64 {A B : Prop} (h : B) : if false = true then A else B := by
  rw [if_neg Bool.false_ne_true]
  exact h
theorem z4z {A B : Prop} (h : A) : if true = true then A else B := by
  rw [if_pos rfl]
  exact h
theorem z6r {c A B : Prop} [Decidable c] (h1 : c -> A) (h2 : ¬ c -> B) : if c then A else B := by
  by_cases h : c
  . rw [if_pos h]
    exact h1 h
  . rw [if_neg h]
    exact h2 h
def Same (H H' : Hp) : Prop := ∀ b o, H b = some o -> H' b = some o
theorem Same.refl (H : Hp) : Same H H := fun _ _ h => h
theorem Same.trans {H H1 H2 : Hp} (a : Same H H1) (b : Same H1 H2) : Same H H2 := fun c o h => b c o (a c o h)
theorem Same.free {H H' : Hp} (e : Same H H') {l : Addr} (h : H' l = Option.none) : H l = Option.none := by
  cases q : H l with
  | none => rfl
  | some o =>
    rw [e l o q] at h
    cases h
theorem Same.seq {K : PySem.W.Frag} {H H' : Hp} {a : Addr} {xs : List V} (e : Same H H') (h : SqL K H a xs) : SqL K H' a xs := by
  rcases h with (h | ⟨o, h⟩) | h
  . exact .inl (.inl (e _ _ h))
  . exact .inl (.inr ⟨o, e _ _ h⟩)
  . exact .inr h
section
variable {κ : Type} [DecidableEq κ]
end
end L2
set_option maxHeartbeats 4000000
namespace L2
open PySem PySem.Spec PyProof.Rows
structure Df (K : PySem.W.Frag) (mg : Str -> Option Value) (x : Str) (st : Stmt) (ps : List Str) (f : Addr) (fd : FuncData) : Prop where
  F : Fun K x x st f fd
  b : Binds K fd ps []
  m : mg x = some (.ref f)
def z7i (K : PySem.W.Frag) : Sp := fun vs H Q _ => ∃ (a : Addr) (ns : List Int), vs = [.ref a] /\ SqL K H a (ns.map V.int) /\ ns.length <= 63 /\ ∀ H', Q (.bl true) H'
theorem Same.new {H : Hp} {l : Addr} {o : HO} (h : H l = none) : Same H (upd H l o) := fun b u e => by
  rw [z04 (z08 e h)]
  exact e
theorem Same.tup {K : PySem.W.Frag} {H H' : Hp} {a : Addr} {xs : List V} (e : Same H H') (h : SqT K H a xs) : SqT K H' a xs := by
  rcases h with (h | ⟨o, h⟩) | h
  . exact .inl (.inl (e _ _ h))
  . exact .inl (.inr ⟨o, e _ _ h⟩)
  . exact .inr h
theorem z3d {ns : List Int} {x : V} (h : x ∈ ns.map V.int) : ∃ z, x = .int z := by
  obtain ⟨z, _, e⟩ := List.mem_map.mp h
  exact ⟨z, e.symm⟩
theorem z50 {b : Bool} {A B : Prop} (hb : b = false) (h : B) : if b = true then A else B := by
  subst hb
  exact z64 h
section
variable {X : Cx}
def z8X : R2 := fun x y H Q => ∃ b c, x = V.bl b /\ y = V.bl c /\ Q (.bl (b == c)) H
def z65 : R2 := fun x y H Q => ∃ b c, x = V.bl b /\ y = V.bl c /\ Q (.bl (b != c)) H
def tyS (H : Hp) : V -> Option String
  | .non => some "NoneType"
  | .bl _ => some "bool"
  | .int _ => some "int"
  | .str _ => some "str"
  | .ref a => match H a with
    | some (.lst _) => some "list"
    | some (.frz _ (.lst _)) => some "list"
    | some (.tup _) => some "tuple"
    | some (.dK _) => some "dict"
    | some (.dT _) => some "dict"
    | _ => none
  | _ => none
theorem z51 {K : PySem.W.Frag} {H : Hp} {x : V} {T : String} (h : tyS H x = some T) : TyOf K H x (.type T) := by
  cases x with
  | non => cases h; exact .non
  | bl b => cases h; exact .bl b
  | int i => cases h; exact .int i
  | str z => cases h; exact .str z
  | byt b => cases h
  | flt b => cases h
  | ty n => cases h
  | ref a =>
    simp only [tyS] at h
    split at h
    . rename_i e; cases h; exact .lst e
    . rename_i e; cases h; exact .frz e
    . rename_i e; cases h; exact .tup e
    . rename_i e; cases h; exact .dK e
    . rename_i e; cases h; exact .dT e
    . cases h
def z4H (T c : String) : Bool := T == c || (T == "bool" && c == "int")
def z4I : List String := ["NoneType", "bool", "int", "str", "list", "tuple", "dict"]
theorem z33 : ∀ T ∈ z4I, ∀ c ∈ z4I, (if (Value.type T == Value.type c) = true then some true else if PySem.W.kitMeta c = true then (PySem.fastBuiltinMro T).map (·.contains (.type c)) else none) = some (z4H T c) := by decide +kernel
theorem z4J {K : PySem.W.Frag} {T c : String} (hT : T ∈ z4I) (hc : c ∈ z4I) : PySem.W.kitOne K (.type T) (.type c) = some (z4H T c) := z33 T hT c hc
theorem z34 {H : Hp} {x : V} {T : String} (h : tyS H x = some T) : T ∈ z4I := by
  cases x with
  | non => cases h; decide
  | bl b => cases h; decide
  | int i => cases h; decide
  | str z => cases h; decide
  | byt b => cases h
  | flt b => cases h
  | ty n => cases h
  | ref a =>
    simp only [tyS] at h
    split at h <;> first | (cases h; decide) | cases h
theorem z18 : CallR X (.builtin "isinstance") (fun xs H Q => ∃ x c T, xs = [x, .ty c] /\ c ∈ z4I /\ tyS H x = some T /\ Q (.bl (z4H T c)) H) := by
  intro pins s σ H xs us Q I r h
  obtain ⟨x, c, T, rfl, hc, ht, q⟩ := h
  obtain ⟨v, w', rfl, rx, ry⟩ := vals2 r
  cases (show w' = Value.type c from ry)
  exact z2t I rx (z51 ht) (z4J (z34 ht) hc) fun tk => ⟨.bl (z4H T c), H, I.tok tk, rfl, q⟩
end
theorem z1F {cells : List (Str × Addr)} {f : Str × NameKind -> List (Str × Addr) -> Sem (ForInStep (List (Str × Addr)))}
    (hf : ∀ n k r c, k = NameKind.free -> cells.lookup n = some c -> f (n, k) r = pure (.yield ((n, c) :: r))) (hg : ∀ n k r, k ≠ NameKind.free -> f (n, k) r = pure (.yield r)) :
    ∀ (names : List (Str × NameKind)) (acc : List (Str × Addr)), (∀ y ∈ names, y.2 = .free -> ∃ c, cells.lookup y.1 = some c) -> (∀ x c, acc.lookup x = some c -> cells.lookup x = some c) ->
      ∃ cl, forIn names acc f = (pure cl : Sem _) /\ (∀ x c, cl.lookup x = some c -> cells.lookup x = some c) /\ (∀ x c, acc.lookup x = some c -> ∃ d, cl.lookup x = some d) /\ ∀ y ∈ names, y.2 = .free -> ∃ d, cl.lookup y.1 = some d
  | [], acc, _, ha => ⟨acc, by rw [List.forIn_nil], ha, fun x c e => ⟨c, e⟩, fun _ hy => nomatch hy⟩
  | (n, k) :: r, acc, hn, ha => by
    have hr : ∀ y ∈ r, y.2 = .free -> ∃ c, cells.lookup y.1 = some c := fun y hy => hn y (List.mem_cons_of_mem _ hy)
    by_cases hk : k = .free
    . obtain ⟨c, hc⟩ := hn (n, k) List.mem_cons_self hk
      have ha' : ∀ x d, ((n, c) :: acc).lookup x = some d -> cells.lookup x = some d := fun x d e => by
        rw [List.lookup_cons] at e
        cases hx : x == n with
        | true =>
          rw [hx] at e
          cases e
          rw [beq_iff_eq.mp hx]
          exact hc
        | false =>
          rw [hx] at e
          exact ha x d e
      obtain ⟨cl, e, h1, h2, h3⟩ := z1F hf hg r ((n, c) :: acc) hr ha'
      have hh : ∀ x d, acc.lookup x = some d -> ∃ d', cl.lookup x = some d' := fun x d q => by
        cases hx : x == n with
        | true => exact h2 x c (by rw [List.lookup_cons, hx])
        | false => exact h2 x d (by rw [List.lookup_cons, hx]; exact q)
      refine ⟨cl, ?_, h1, hh, fun y hy e' => ?_⟩
      . rw [List.forIn_cons, hf n k acc c hk hc, pure_bind]
        exact e
      . rcases List.mem_cons.mp hy with rfl | hy
        . exact h2 n c (by rw [List.lookup_cons, beq_self_eq_true])
        . exact h3 y hy e'
    . obtain ⟨cl, e, h1, h2, h3⟩ := z1F hf hg r acc hr ha
      refine ⟨cl, ?_, h1, h2, fun y hy e' => ?_⟩
      . rw [List.forIn_cons, hg n k acc hk, pure_bind]
        exact e
      . rcases List.mem_cons.mp hy with rfl | hy
        . exact absurd e' hk
        . exact h3 y hy e'
theorem z35 {sc : Scope} {env : Env} (hfree : ∀ y ∈ sc.names, y.2 = .free -> ∃ c, env.cells.lookup y.1 = some c) :
    ∃ cl : List (Str × Addr), closureFor sc env = pure cl /\ (∀ x c, cl.lookup x = some c -> env.cells.lookup x = some c) /\ ∀ y ∈ sc.names, y.2 = .free -> ∃ c, cl.lookup y.1 = some c := by
  obtain ⟨cl, e, h1, _, h3⟩ := z1F (cells := env.cells) (f := fun (y : Str × NameKind) r => if (y.2 == NameKind.free) = true then (do let a <- cellOf env y.1; pure (ForInStep.yield ((y.1, a) :: r))) else pure (ForInStep.yield r))
    (fun n k r c hk hc => by
      subst hk
      show (if (NameKind.free == NameKind.free) = true then (cellOf env n >>= fun a => pure (ForInStep.yield ((n, a) :: r))) else pure (ForInStep.yield r)) = _
      rw [if_pos (show (NameKind.free == NameKind.free) = true by decide)]
      have e : cellOf env n = pure c := by unfold cellOf; rw [hc]
      rw [e, pure_bind])
    (fun n k r hk => by
      show (if (k == NameKind.free) = true then (cellOf env n >>= fun a => pure (ForInStep.yield ((n, a) :: r))) else pure (ForInStep.yield r)) = _
      rw [if_neg (by simpa using hk)])
    sc.names [] hfree (fun x c q => nomatch q)
  refine ⟨cl, ?_, h1, h3⟩
  unfold closureFor
  first
    | (rw [e]; rfl)
    | (refine Eq.trans (congrArg (fun t => t >>= fun cs => pure cs) e) ?_; rw [pure_bind])
    | (simp only [bind_pure]; exact e)
theorem z0b {env : Env} : ∀ {names : List (Str × NameKind)} {x : Str}, names.lookup x = some .free ->
    ((names.map fun (n, k) => if (k == NameKind.free && env.scope.kind == .function && env.kindOf n == some .cell) then (n, NameKind.cell) else (n, k)).lookup x = some .cell) \/
    ((names.map fun (n, k) => if (k == NameKind.free && env.scope.kind == .function && env.kindOf n == some .cell) then (n, NameKind.cell) else (n, k)).lookup x = some .free)
  | [], _, h => by cases h
  | (n, k) :: r, x, h => by
    have ih := @z0b env r x
    rw [List.map_cons]
    cases hx : x == n with
    | true =>
      rw [List.lookup_cons, hx] at h
      cases h
      by_cases hc : (NameKind.free == NameKind.free && env.scope.kind == .function && env.kindOf n == some .cell) = true
      . left
        show List.lookup x ((if (NameKind.free == NameKind.free && env.scope.kind == .function && env.kindOf n == some .cell) = true then (n, NameKind.cell) else (n, NameKind.free)) :: _) = _
        rw [if_pos hc, List.lookup_cons, hx]
      . right
        show List.lookup x ((if (NameKind.free == NameKind.free && env.scope.kind == .function && env.kindOf n == some .cell) = true then (n, NameKind.cell) else (n, NameKind.free)) :: _) = _
        rw [if_neg hc, List.lookup_cons, hx]
    | false =>
      rw [List.lookup_cons, hx] at h
      have z : ∀ (y : Str × NameKind) (t : List (Str × NameKind)), y.1 = n -> List.lookup x (y :: t) = List.lookup x t := fun y t e => by
        obtain ⟨y1, y2⟩ := y
        cases (show y1 = n from e)
        rw [List.lookup_cons, hx]
      rw [z _ _ (by
        show (if (k == NameKind.free && env.scope.kind == .function && env.kindOf n == some .cell) = true then (n, NameKind.cell) else (n, k)).1 = n
        split <;> rfl)]
      exact ih h
theorem z0p {env : Env} : ∀ {names : List (Str × NameKind)} {x : Str}, (∀ y ∈ names, y.2 ≠ .cell) ->
    (((names.map fun (n, k) => if (k == NameKind.free && env.scope.kind == .function && env.kindOf n == some .cell) then (n, NameKind.cell) else (n, k)).lookup x = some .cell) \/
    ((names.map fun (n, k) => if (k == NameKind.free && env.scope.kind == .function && env.kindOf n == some .cell) then (n, NameKind.cell) else (n, k)).lookup x = some .free)) -> ∃ y ∈ names, y.1 = x /\ y.2 = .free
  | [], _, _, h => by rcases h with h | h <;> cases h
  | (n, k) :: r, x, hc, h => by
    have ih := @z0p env r x fun y hy => hc y (List.mem_cons_of_mem _ hy)
    rw [List.map_cons] at h
    cases hx : x == n with
    | true =>
      have e : x = n := beq_iff_eq.mp hx
      by_cases hk : k = .free
      . exact ⟨(n, k), List.mem_cons_self, e.symm, hk⟩
      . exfalso
        have q : (if (k == NameKind.free && env.scope.kind == .function && env.kindOf n == some .cell) = true then (n, NameKind.cell) else (n, k)) = (n, k) := by
          rw [if_neg]
          intro z
          rw [Bool.and_eq_true, Bool.and_eq_true] at z
          exact hk (by simpa using z.1.1)
        have h' : List.lookup x ((n, k) :: (r.map fun (n, k) => if (k == NameKind.free && env.scope.kind == .function && env.kindOf n == some .cell) then (n, NameKind.cell) else (n, k))) = some .cell \/
            List.lookup x ((n, k) :: (r.map fun (n, k) => if (k == NameKind.free && env.scope.kind == .function && env.kindOf n == some .cell) then (n, NameKind.cell) else (n, k))) = some .free := by
          rw [<- q]
          exact h
        rw [List.lookup_cons, hx] at h'
        rcases h' with z | z
        . exact hc (n, k) List.mem_cons_self (Option.some.inj z)
        . exact hk (Option.some.inj z)
    | false =>
      have z : ∀ (y : Str × NameKind) (t : List (Str × NameKind)), y.1 = n -> List.lookup x (y :: t) = List.lookup x t := fun y t e => by
        obtain ⟨y1, y2⟩ := y
        cases (show y1 = n from e)
        rw [List.lookup_cons, hx]
      rw [z _ _ (by
        show (if (k == NameKind.free && env.scope.kind == .function && env.kindOf n == some .cell) = true then (n, NameKind.cell) else (n, k)).1 = n
        split <;> rfl)] at h
      obtain ⟨y, hy, e⟩ := ih h
      exact ⟨y, List.mem_cons_of_mem _ hy, e⟩
def z1M (X : Cx) (locs : List Str) (ix : List Nat) : List Str := locs ++ ix.map fun i => X.N.getD i Str.empty
def z40 (k : Nat) (ix : List Nat) (σ : St) : St := List.replicate k none ++ ix.map fun i => (σ[i]?).join
abbrev cxC (X : Cx) (sc : Scope) (cl : List (Str × Addr)) (C : Addr) (N : List Str) (fp : List Addr) (s2 : Shared) (H2 : Hp) (pn : List (Addr × Obj)) : Cx :=
  { X with N := N, s₀ := s2, H₀ := H2, env := compEnvC sc cl C X.env, outer := X.stack, ex := fp, fn := fun _ => false, pn := pn, xe := fun _ _ => False }
structure BlkSc (X : Cx) (sc : Scope) (locs : List Str) (ix : List Nat) : Prop where
  kind : sc.kind = .function
  cell : ∀ y ∈ sc.names, y.2 ≠ .cell
  free : ∀ y ∈ sc.names, y.2 = .free -> X.env.kindOf y.1 = some .cell \/ X.env.kindOf y.1 = some .free
  names : ∀ y ∈ sc.names, y.2 = .local -> sc.names.lookup y.1 = some .local
  fr : ∀ i ∈ ix, ∃ x, X.N[i]? = some x /\ sc.names.lookup x = some .free
section
variable {X : Cx} {pins : List (Addr × Obj)} {σ : St} {H2 : Hp} {s2 : Shared} {sc : Scope} {cl : List (Str × Addr)} {locs : List Str} {ix : List Nat} {fp : List Addr}
theorem z0v {names : List (Str × NameKind)} {x : Str} {k : NameKind} : names.lookup x = some k -> (x, k) ∈ names := by
  induction names with
  | nil => intro h; cases h
  | cons y r ih =>
    obtain ⟨n, j⟩ := y
    intro h
    rw [List.lookup_cons] at h
    cases hx : x == n with
    | true =>
      rw [hx] at h
      cases h
      rw [beq_iff_eq.mp hx]
      exact List.mem_cons_self
    | false =>
      rw [hx] at h
      exact List.mem_cons_of_mem _ (ih h)
theorem z52 (I : Inv X pins σ H2 s2) (B : BlkSc X sc locs ix) (hcl : ∀ x c, cl.lookup x = some c -> X.env.cells.lookup x = some c) (hcl' : ∀ y ∈ sc.names, y.2 = .free -> ∃ c, cl.lookup y.1 = some c)
    (hf : ∀ b ∈ fp, z1R X pins H2 b) {C : Addr} (hC : s2.heap.objs.size <= C) (hfC : ∀ b ∈ fp, b ≠ C) {N : List Str} {pn : List (Addr × Obj)} : (cxC X sc cl C N fp s2 H2 pn).Ok where
  mod := I.ok.mod
  kind := B.kind
  glob := I.ok.glob
  blt := I.ok.blt
  above := hC
  inj := fun x y c h1 h2 => I.ok.inj x y c (hcl x c h1) (hcl y c h2)
  has := fun x h => by
    obtain ⟨y, hy, e, hk⟩ := z0p (env := X.env) B.cell h
    subst e
    exact hcl' y hy hk
  cab := fun x c h _ => nomatch h
  hd := I.ok.hd
  frames := I.ok.frames
  stk := .inl rfl
  exf := fun b hb => ⟨hfC b hb, fun x c e => (hf b hb).2.2.2.2.1 x c (hcl x c e)⟩
  bs := fun b o e => I.bs b o e
  bsz := Nat.le_trans I.ok.bsz I.sz
  noex := fun b o e hb => by
    obtain ⟨_, _, _, h4, _⟩ := hf b hb
    rcases h4 with h | h
    . exact I.ok.noex b o e h
    . exact absurd (Nat.lt_of_lt_of_le (Nat.lt_of_lt_of_le (Heap.lt_size e) I.ok.bsz) h) (Nat.lt_irrefl _)
  exfs := fun b hb z => by
    obtain ⟨_, h2, h3, _⟩ := hf b hb
    rcases List.mem_cons.mp (I.stkSub b z) with e | e
    . exact h2 e
    . exact h3 e
  funs := I.stack
  frf := I.stkFree
theorem z36 (I : Inv X pins σ H2 s2) (B : BlkSc X sc locs ix) (hcl : ∀ x c, cl.lookup x = some c -> X.env.cells.lookup x = some c) (hcl' : ∀ y ∈ sc.names, y.2 = .free -> ∃ c, cl.lookup y.1 = some c)
    (hf : ∀ b ∈ fp, z1R X pins H2 b) (hfl : ∀ b ∈ fp, b < s2.heap.objs.size) {h1 : Heap} {tk : Nat} {m0 : Str -> Option Value} {D C : Addr} {oD : Obj} (hD : s2.heap.objs.size <= D) (hC : s2.heap.objs.size <= C) (hDC : D ≠ C)
    (old : ∀ b o, s2.heap.get? b = some o -> h1.get? b = some o) (ns : h1.Ns C m0) (gD : h1.get? D = some oD) (dD : ∀ v, oD.data ≠ .cell v) :
    Inv (cxC X sc cl C (z1M X locs ix) fp s2 H2 (X.pn ++ pins)) [(D, oD)] (z40 locs.length ix σ) H2 { s2 with heap := h1, toks := tk } := by
  have low : ∀ b o, s2.heap.get? b = some o -> b < s2.heap.objs.size := fun b o e => Heap.lt_size e
  have nst : ∀ b, s2.heap.objs.size <= b -> b ∉ frs X.stack := fun b hb z => by
    obtain ⟨_, o, ho, _⟩ := I.stack.mem z
    exact absurd (Nat.lt_of_lt_of_le (low b o ho) hb) (Nat.lt_irrefl _)
  refine ⟨z52 I B hcl hcl' hf hC fun b hb => Nat.ne_of_lt (Nat.lt_of_lt_of_le (hfl b hb) hC), rfl, I.bare, Un.kept old, ⟨m0, ns, fun i x v e1 e2 e3 => ?_⟩, fun x c e => ?_, I.hok.fresh hC, fun x c e => I.freeC x c (hcl x c e), fun p hp => ?_, I.hok.kept old, ?_⟩
  . have e2' : (z40 locs.length ix σ)[i]? = some (some v) := e2
    have e1' : (z1M X locs ix)[i]? = some x := e1
    unfold z40 at e2'
    unfold z1M at e1'
    by_cases hi : i < locs.length
    . rw [List.getElem?_append_left (by rw [List.length_replicate]; exact hi), List.getElem?_replicate, if_pos hi] at e2'
      cases e2'
    . rw [List.getElem?_append_right (by rw [List.length_replicate]; omega), List.length_replicate, List.getElem?_map] at e2'
      rw [List.getElem?_append_right (by omega), List.getElem?_map] at e1'
      cases hj : ix[i - locs.length]? with
      | none =>
        rw [hj] at e2'
        cases e2'
      | some j =>
        rw [hj] at e2' e1'
        have e4 : (σ[j]?).join = some v := Option.some.inj e2'
        have e5 : X.N.getD j Str.empty = x := Option.some.inj e1'
        obtain ⟨x', hx', hfree⟩ := B.fr j (List.mem_of_getElem? hj)
        have e6 : x' = x := by
          rw [<- e5, List.getD_eq_getElem?_getD, hx']
          rfl
        subst e6
        have e7 : σ[j]? = some (some v) := by
          cases hs : σ[j]? with
          | none => rw [hs] at e4; cases e4
          | some o =>
            rw [hs] at e4
            cases o with
            | none => cases e4
            | some w => cases e4; rfl
        have hk := B.free (x', .free) (z0v hfree) rfl
        obtain ⟨m, _, hl⟩ := I.loc
        obtain ⟨u, r, l⟩ := hl j x' v hx' e7 (hk.elim (fun z => .inr (.inl z)) fun z => .inr (.inr z))
        refine ⟨u, r, .inr ⟨z0b (env := X.env) hfree, ?_⟩⟩
        obtain ⟨c, hc⟩ := hcl' (x', .free) (z0v hfree) rfl
        rcases l with ⟨k, _⟩ | ⟨_, c', hc', z⟩
        . rcases hk with hk | hk
          . rw [hk] at k; cases k
          . rw [hk] at k; cases k
        . have q := hcl x' c hc
          rw [hc'] at q
          cases q
          obtain ⟨o, ho, hd⟩ := z
          exact ⟨_, hc, o, old _ _ ho, hd⟩
  . obtain ⟨v, o, ho, hd⟩ := I.cell x c (hcl x c e)
    exact ⟨v, o, old _ _ ho, hd⟩
  . rcases List.mem_append.mp hp with hp | hp
    . obtain ⟨e, n, ne, nf, d⟩ := I.pin p hp
      refine ⟨old _ _ e, n, Nat.ne_of_lt (Nat.lt_of_lt_of_le (low _ _ e) hC), fun z => ?_, d⟩
      rcases List.mem_cons.mp (I.stkSub p.1 z) with q | q
      . exact ne q
      . exact nf q
    . have e : p = (D, oD) := by simpa using hp
      subst e
      exact ⟨gD, I.hok.fresh hD, hDC, nst D hD, dD⟩
  . show (z40 locs.length ix σ).length = (z1M X locs ix).length
    unfold z40 z1M
    rw [List.length_append, List.length_append, List.length_replicate, List.length_map, List.length_map]
theorem z3e {N : List Str} {pn : List (Addr × Obj)} {C D : Addr} {s' : Shared} {σ' : St} {H' : Hp} {ys : List V} {its : List Value} {n : Nat} (I : Inv X pins σ H2 s2) (hf : ∀ b ∈ fp, z1R X pins H2 b) (hD : s2.heap.objs.size <= D)
    (I' : Inv (cxC X sc cl C N fp s2 H2 pn) [(D, { cls := .type "list", data := .seq its.toArray n })] σ' H' s') (hv : Vals ys its) (hz : ys.length <= sizeLine) : H' D = none /\ Inv X pins σ (upd H' D (.lst ys)) s' := by
  obtain ⟨gD, nD, _⟩ := I'.pin (D, { cls := .type "list", data := .seq its.toArray n }) (List.mem_append_right _ List.mem_cons_self)
  have low : ∀ b o, s2.heap.get? b = some o -> b ≠ D := fun b o e => Nat.ne_of_lt (Nat.lt_of_lt_of_le (Heap.lt_size e) hD)
  have lowH : ∀ b o, H2 b = some o -> b ≠ D := fun b o e => Nat.ne_of_lt (Nat.lt_of_lt_of_le (I.hok.lt e) hD)
  have U : Un (frs X.stack) fp H2 H' s2.heap s'.heap := I'.base
  refine ⟨nD, I.call' (ch := fp) I'.os ⟨U.keep, U.slot, fun b o e hn hx => ?_, U.there, fun b xs e => ?_, fun b o u e => ?_, fun b ps e => ?_⟩ (fun b u e => ?_) I'.bare fun b hb => ?_⟩
  . rw [z04 (low b o e)]
    exact U.free b o e hn hx
  . rw [z04 (lowH b _ e)]
    exact U.tups b xs e
  . rw [z04 (lowH b _ e)]
    exact U.frzs b o u e
  . rw [z04 (lowH b _ e)]
    exact U.tbls b ps e
  . by_cases hb : b = D
    . subst hb
      rw [z06] at e
      cases e
      exact ⟨hz, its, n, hv, gD⟩
    . rw [z04 hb] at e
      exact (I'.hok b u e).stay (fun _ _ _ q => q) (fun c q => by rw [z04 (z08 q nD)]; exact q) fun c xs q => by rw [z04 (z08 q nD)]; exact q
  . obtain ⟨_, f1, _, f3, f4, f5⟩ := hf b hb
    exact ⟨f3, f1, f4, f5⟩
end
section
variable {prog : Program} {w : World} {A : Around} {R : Result -> Shared -> Prop} {s : Shared}
theorem z37 {elt tgt src : Expr} {tests : List Expr} {sc : Scope} {p : Pos} {itv acc : Value} {ev : Env} (J : Nat -> Shared -> Prop)
    (turn : ∀ n s, J n s -> wpAny (model prog w) A (pyNext itv) (fun r s1 => match r with
      | none => R (.ok .next) s1
      | some v => wpAny (model prog w) A (letOwnedTupleGo tgt itv v) (fun _ s2 => wpAny (model prog w) A (assign tgt ev v) (fun _ s3 =>
          wpAny (model prog w) A (forIn tests true fun c r => if r = true then do let ok <- isTrue c ev (eval c ev); pure (ForInStep.yield ok) else pure (ForInStep.yield r)) (fun ok s4 =>
            if ok = true then wpAny (model prog w) A (eval elt ev) (fun x s5 => wpAny (model prog w) A (call (.builtin "list.append") [acc, x]) (fun _ s6 => ∃ m, m < n /\ J m s6) (fun _ _ => False) s5) (fun _ _ => False) s4
            else ∃ m, m < n /\ J m s4) (fun _ _ => False) s3) (fun _ _ => False) s2) (fun _ _ => False) s1) (fun _ _ => False) s)
    (n : Nat) (h : J n s) : codeAny (model prog w) A (.compLoop (.ListComp elt [⟨tgt, src, tests, 0⟩] sc p) 0 itv acc ev) R s := by
  refine codeAny_loop rfl J (fun n s hJ => ?_) n h
  show wpAny _ A ((compTurn (.ListComp elt [⟨tgt, src, tests, 0⟩] sc p) 0 itv acc ev).onRaise (fun x => do noteFrame x ev; theTreesLotGoes x)) _ _ s
  refine wpAny_noted (wpAny_noRaise ?_)
  rw [compTurn_list]
  refine wpAny_bind (wpAny_standAt (wpAny_bind (thn (turn n s hJ) fun r s1 h1 => ?_)))
  cases r with
  | none => exact wpAny_pure h1
  | some v =>
    refine wpAny_bind (thn h1 fun _ s2 h2 => wpAny_bind (thn h2 fun _ s3 h3 => wpAny_bind (thn h3 fun ok s4 h4 => ?_)))
    cases ok with
    | false => exact wpAny_pure ⟨rfl, h4⟩
    | true => exact wpAny_bind (wpAny_bind (thn h4 fun x s5 h5 => wpAny_bind (thn h5 fun _ s6 h6 => wpAny_pure (wpAny_pure ⟨rfl, h6⟩))))
end
def PTs (X : Cx) (tests : List Expr) (t : TT) : Prop :=
  ∀ (pins : List (Addr × Obj)) (s : Shared) (σ : St) (H : Hp) (Q : Bool -> Hp -> Prop), Inv X pins σ H s -> t σ H Q ->
    wpAny (model X.prog X.w) X.A (forIn tests true fun c r => if r = true then do let ok <- isTrue c X.env (eval c X.env); pure (ForInStep.yield ok) else pure (ForInStep.yield r)) (TP X pins σ Q) X.xe s
def z6s : TT := fun _ H Q => Q true H
theorem z12 {X : Cx} : PTs X [] z6s := fun _ _ _ H _ I h => wpAny_tests_nil ⟨H, I, h⟩
def z3f (J : It) (g : TG) (tt : TT) (te : TE) (Fin : List V -> Hp -> Prop) (W : Nat -> Nat -> St -> List V -> Hp -> Prop) : Prop :=
  ∀ i m σ ys H, W i m σ ys H -> (J.stop i H /\ ys.length <= sizeLine /\ Fin ys H) \/
    (J.go i H /\ ys.length < sizeLine /\ ∀ x H', J.yld i H x H' -> g x σ H' fun σ2 H2 => tt σ2 H2 fun b H3 => if b = true then te σ2 H3 fun y H4 => ∃ m', m' < m /\ W (i + 1) m' σ2 (ys ++ [y]) H4 else ∃ m', m' < m /\ W (i + 1) m' σ2 ys H3)
def z66 (wi : TI) (k : Nat) (ix : List Nat) (g : TG) (tt : TT) (te : TE) : TE := fun σ H Q => wi σ H fun J H1 =>
  ∃ W : Nat -> Nat -> St -> List V -> Hp -> Prop, (∃ m, W 0 m (z40 k ix σ) [] H1) /\ z3f J g tt te (fun ys H => ∀ l, H l = none -> Q (.ref l) (upd H l (.lst ys))) W
section
variable {X : Cx} {elt tgt iter : Expr} {tests : List Expr} {sc : Scope} {pos : Pos} {locs : List Str} {ix : List Nat} {wi : TI} {g : TG} {tt : TT} {te : TE}
theorem z1N {pins : List (Addr × Obj)} {σ : St} {H2 : Hp} {s2 : Shared} {cl : List (Str × Addr)} {fp : List Addr} {it : Addr} {tn : Nat -> Heap -> Prop} {J : It} {W : Nat -> Nat -> St -> List V -> Hp -> Prop} {Fin : List V -> Hp -> Prop} {RR : Value -> Addr -> Result -> Shared -> Prop} {m0 : Nat} {E : Value -> Shared -> Prop}
    (hc : X.calm = true) (B : BlkSc X sc locs ix)
    (hg : ∀ cl C fp s2 H2 pn, PG (cxC X sc cl C (z1M X locs ix) fp s2 H2 pn) tgt g) (ht : ∀ cl C fp s2 H2 pn, PTs (cxC X sc cl C (z1M X locs ix) fp s2 H2 pn) tests tt) (he : ∀ cl C fp s2 H2 pn, PE (cxC X sc cl C (z1M X locs ix) fp s2 H2 pn) elt te)
    (I : Inv X pins σ H2 s2) (T : Turn X.prog X.w X.K tgt J fp it tn) (st2 : tn 0 s2.heap) (hf : ∀ b ∈ fp, z1R X pins H2 b)
    (hcl : ∀ x c, cl.lookup x = some c -> X.env.cells.lookup x = some c) (hcl' : ∀ y ∈ sc.names, y.2 = .free -> ∃ c, cl.lookup y.1 = some c)
    (w0 : W 0 m0 (z40 locs.length ix σ) [] H2) (turn : z3f J g tt te Fin W)
    (hR : ∀ D C s' H' ys m, H' D = none -> s2.heap.objs.size <= C -> H' C = none -> C ≠ D -> Inv X pins σ (upd H' D (.lst ys)) s' -> Fin ys H' -> s'.heap.Ns C m -> RR (.ref D) C (.ok .next) s') :
    wpAny (model X.prog X.w) X.A (newList []) (fun acc s₃ => wpAny (model X.prog X.w) X.A (newFunctionEnv sc X.env.globals cl [] X.env.qual none .none (some X.env)) (fun cenv s₄ =>
      codeAny (model X.prog X.w) X.A (.compStart (.ListComp elt [⟨tgt, iter, tests, 0⟩] sc pos) 0 (.ref it) acc { cenv with scope := relabel sc X.env }) (RR acc cenv.locals) s₄) E s₃) E s2 := by
  refine wpAny_newObj_type (wpAny_newFunctionEnv B.cell (by intro y hy; cases hy) (fun h1 ns1 sb1 => ?_) B.kind)
  dsimp only at ns1 sb1 ⊢
  generalize eH : s2.heap.push { cls := .type "list", dict := none, data := .seq ([] : List Value).toArray } = G at ns1 sb1 ⊢
  have zG : G.objs.size = s2.heap.objs.size + 1 := by rw [<- eH, Heap.size_push]
  have hDC : s2.heap.objs.size ≠ G.objs.size := by omega
  have old : ∀ b o, s2.heap.get? b = some o -> h1.get? b = some o := fun b o e => sb1.extBut b o (Nat.ne_of_lt (Nat.lt_of_lt_of_le (Heap.lt_size e) (by omega))) (Heap.get?_push_of_some _ (eH ▸ Heap.get?_push_of_some _ e))
  have gD : h1.get? s2.heap.objs.size = some { cls := .type "list", data := .seq ([] : List Value).toArray 0 } := sb1.extBut _ _ hDC (Heap.get?_push_of_some _ (eH ▸ Heap.get?_push_size _ rfl))
  have hfl : ∀ b ∈ fp, b < s2.heap.objs.size := fun b hb => by
    obtain ⟨o, e, _⟩ := T.obj 0 s2.heap st2 b hb
    exact Heap.lt_size e
  have Y := fun tk => z36 (tk := tk) (locs := locs) I B hcl hcl' hf hfl (Nat.le_refl _) (by omega : s2.heap.objs.size <= G.objs.size) hDC old ns1 gD (fun v z => by cases z)
  have st1 : tn 0 h1 := T.keep 0 _ _ st2 fun b _ o e => old b o e
  have stat : ∀ {oD : Obj} {H' : Hp}, (∀ b ∈ fp, H' b = none) -> ∀ b ∈ fp, z1R (cxC X sc cl G.objs.size (z1M X locs ix) fp s2 H2 (X.pn ++ pins)) [(s2.heap.objs.size, oD)] H' b := fun {oD H'} hn b hb => by
    obtain ⟨_, f1, f2, _, f4, f5⟩ := hf b hb
    refine ⟨hn b hb, Nat.ne_of_lt (Nat.lt_of_lt_of_le (hfl b hb) (by show s2.heap.objs.size <= G.objs.size; omega)), fun z => ?_, .inl hb, fun x c e => f4 x c (hcl x c e), fun p hp => ?_⟩
    . rcases List.mem_cons.mp (I.stkSub b z) with q | q
      . exact f1 q
      . exact f2 q
    . rcases List.mem_append.mp hp with hp | hp
      . exact f5 p hp
      . have e : p = (s2.heap.objs.size, oD) := by simpa using hp
        rw [e]
        exact Nat.ne_of_gt (hfl b hb)
  have loop : ∀ tk, codeAny (model X.prog X.w) X.A (.compLoop (.ListComp elt [⟨tgt, iter, tests, 0⟩] sc pos) 0 (.ref it) (.ref s2.heap.objs.size) (compEnvC sc cl G.objs.size X.env)) (RR (.ref s2.heap.objs.size) G.objs.size) { s2 with heap := h1, toks := tk } := by
    intro tk
    refine z37 (fun n s => ∃ i σ' ys its nn H', Inv (cxC X sc cl G.objs.size (z1M X locs ix) fp s2 H2 (X.pn ++ pins)) [(s2.heap.objs.size, { cls := .type "list", data := .seq (List.toArray its) nn })] σ' H' s /\ tn i s.heap /\ (∀ b ∈ fp, H' b = none) /\ Vals ys its /\ W i n σ' ys H') ?_ m0
      ⟨0, _, [], [], 0, H2, Y tk, st1, fun b hb => (hf b hb).1, .nil, w0⟩
    rintro n s ⟨i, σ', ys, its, nn, H', I1, st, fr, hv, hw⟩
    rcases turn i n σ' ys H' hw with ⟨stop, hz, fin⟩ | ⟨go, hz, step⟩
    . refine thn (T.done (cxC X sc cl G.objs.size (z1M X locs ix) fp s2 H2 (X.pn ++ pins)) rfl rfl rfl hc i _ s σ' H' (fun _ _ => False) I1 (stat fr) st stop) fun r s1 ⟨er, I2⟩ => ?_
      subst er
      obtain ⟨nD, I3⟩ := z3e I hf (Nat.le_refl _) I2 hv hz
      obtain ⟨m, ns, _⟩ := I2.loc
      exact hR _ _ s1 H' ys m nD (by omega) I2.free (Ne.symm hDC) I3 fin ns
    . refine thn (T.item (cxC X sc cl G.objs.size (z1M X locs ix) fp s2 H2 (X.pn ++ pins)) rfl rfl rfl hc i _ s σ' H' (fun _ _ => False) I1 (stat fr) st go) fun r s3 ⟨u, er, h3⟩ => ?_
      subst er
      refine thn h3 fun _ s5 ⟨x, H5, I5, r5, y5, st5, fr5⟩ => ?_
      have I5' := I5.pinned (stat fr5) (T.obj _ _ st5)
      refine thn (hg cl G.objs.size fp s2 H2 (X.pn ++ pins) _ s5 σ' H5 x u _ I5' r5 (step x H5 y5)) fun _ s6 ⟨σ6, H6, I6, q6⟩ => ?_
      refine thn (ht cl G.objs.size fp s2 H2 (X.pn ++ pins) _ s6 σ6 H6 _ I6 q6) fun b s7 ⟨H7, I7, q7⟩ => ?_
      have tn7 : ∀ {s' : Shared} {σ'' : St} {H'' : Hp}, Inv (cxC X sc cl G.objs.size (z1M X locs ix) fp s2 H2 (X.pn ++ pins)) ([(s2.heap.objs.size, { cls := .type "list", data := .seq (List.toArray its) nn })] ++ z1i fp s5.heap) σ'' H'' s' -> tn (i + 1) s'.heap /\ ∀ b ∈ fp, H'' b = none := fun J => by
        refine ⟨T.keep _ _ _ st5 fun b hb o e => (J.pin (b, o) (List.mem_append_right _ (List.mem_append_right _ (z0s hb e)))).1, fun b hb => ?_⟩
        obtain ⟨o, e, d⟩ := T.obj _ _ st5 b hb
        exact (J.pin (b, o) (List.mem_append_right _ (List.mem_append_right _ (z0s hb e)))).2.1
      cases b with
      | false =>
        obtain ⟨m', hm, w'⟩ := q7
        exact ⟨m', hm, i + 1, σ6, ys, its, nn, H7, I7.unpinned, (tn7 I7).1, (tn7 I7).2, hv, w'⟩
      | true =>
        refine thn (he cl G.objs.size fp s2 H2 (X.pn ++ pins) _ s7 σ6 H7 _ I7 q7) fun y s8 ⟨yv, H8, I8, r8, q8⟩ => ?_
        obtain ⟨m', hm, w'⟩ := q8
        obtain ⟨gD8, nD8, _⟩ := I8.pin (s2.heap.objs.size, { cls := .type "list", data := .seq (List.toArray its) nn }) (List.mem_append_right _ (List.mem_append_left _ List.mem_cons_self))
        have hl := hv.length
        refine append_at (hsz := by rw [List.size_toArray]; omega) gD8 fun h9 sb9 gD9 => ?_
        have Iu : Inv (cxC X sc cl G.objs.size (z1M X locs ix) fp s2 H2 (X.pn ++ pins)) [] σ6 H8 s8 := I8.pins_of fun p hp => nomatch hp
        have It : Inv (cxC X sc cl G.objs.size (z1M X locs ix) fp s2 H2 (X.pn ++ pins)) [] σ6 H8 { s8 with heap := h9, toks := s8.toks } := Iu.turned (fun b o hb e => (sb9.2 b hb).trans e) nD8 hDC (.inr (Nat.le_refl _))
          (fun x c e => by
            obtain ⟨v, o, ho, _⟩ := I.cell x c (hcl x c e)
            exact Nat.ne_of_lt (Heap.lt_size ho))
          (fun p hp => by
            rcases List.mem_append.mp hp with hp | hp
            . exact Nat.ne_of_lt (Heap.lt_size (I.pin p hp).1)
            . cases hp)
        have gD9' : h9.get? s2.heap.objs.size = some { cls := .type "list", data := .seq (its ++ [y]).toArray (nn + 1) } := by
          rw [gD9, List.push_toArray]
        have In : Inv (cxC X sc cl G.objs.size (z1M X locs ix) fp s2 H2 (X.pn ++ pins)) [(s2.heap.objs.size, { cls := .type "list", data := .seq (its ++ [y]).toArray (nn + 1) })] σ6 H8 { s8 with heap := h9, toks := s8.toks } := It.pins_of fun p hp => by
          have e : p = (s2.heap.objs.size, { cls := .type "list", data := .seq (its ++ [y]).toArray (nn + 1) }) := by simpa using hp
          subst e
          refine ⟨gD9', nD8, hDC, fun z => ?_, fun v z => by cases z⟩
          obtain ⟨_, o, ho, _⟩ := I.stack.mem z
          exact absurd (Heap.lt_size ho) (Nat.lt_irrefl _)
        refine ⟨m', hm, i + 1, σ6, ys ++ [yv], its ++ [y], nn + 1, H8, In, ?_, (tn7 I8).2, Vals.append hv (.cons r8 .nil), w'⟩
        exact T.keep _ _ _ (tn7 I8).1 fun b hb o e => (sb9.2 b (Nat.ne_of_lt (hfl b hb))).trans e
  exact codeAny_compStart_list (loop _) (T.self X.A 0 _ _ _ st1 (loop _))
theorem z1G (hc : X.calm = true) (B : BlkSc X sc locs ix) (hi : PI X tgt iter wi)
    (hg : ∀ cl C fp s2 H2 pn, PG (cxC X sc cl C (z1M X locs ix) fp s2 H2 pn) tgt g) (ht : ∀ cl C fp s2 H2 pn, PTs (cxC X sc cl C (z1M X locs ix) fp s2 H2 pn) tests tt) (he : ∀ cl C fp s2 H2 pn, PE (cxC X sc cl C (z1M X locs ix) fp s2 H2 pn) elt te)
    (hs : ∀ x, foldedSetIterable iter X.env x = pure x := by intro _; rfl) : PE X (.ListComp elt [⟨tgt, iter, tests, 0⟩] sc pos) (z66 wi locs.length ix g tt te) := by
  intro pins s σ H Q I h
  obtain ⟨cl, ecl, hcl, hcl'⟩ := z35 (sc := sc) (env := X.env) fun y hy hk => I.ok.has y.1 (B.free y hy hk)
  rw [eval_ListComp]
  refine wpAny_comprehension_free (use := none) rfl hs ecl B.kind B.names ?_
  refine thn (hi pins s σ H _ I h) fun v s1 h1 => thn h1 fun itv s2 h2 => ?_
  obtain ⟨it, fp, tn, J, H2, e, I2, T, st2, f2, W, ⟨m0, w0⟩, turn⟩ := h2
  subst e
  refine z1N (iter := iter) (pos := pos) (RR := fun acc C => compPost (model X.prog X.w) X.A X.xe none (EP X pins σ Q) acc C) hc B hg ht he I2 T st2 f2 hcl hcl' w0 turn ?_
  intro D C s' H' ys m nD hC nC hCD I3 fin ns
  refine ⟨m, ns, fun h' hs' => ⟨.ref D, _, I3.turned (t' := s'.toks) (fun b o hb e => (hs'.2 b hb).trans e) (by rw [z04 hCD]; exact nC) (Nat.ne_of_gt (Nat.lt_of_lt_of_le I2.lt hC)) (.inr (Nat.le_trans I2.sz hC)) (fun x c e => ?_) (fun p hp => Nat.ne_of_lt (Nat.lt_of_lt_of_le (Heap.lt_size (I2.pin p hp).1) hC)), rfl, fin D nD⟩⟩
  obtain ⟨v, o, ho, _⟩ := I2.cell x c e
  exact Nat.ne_of_lt (Nat.lt_of_lt_of_le (Heap.lt_size ho) hC)
def z67 (i : Nat) (wi : TI) (k : Nat) (ix : List Nat) (g : TG) (tt : TT) (te : TE) : TS := fun D σ H => wi σ H fun J H1 =>
  ∃ W : Nat -> Nat -> St -> List V -> Hp -> Prop, (∃ m, W 0 m (z40 k ix σ) [] H1) /\ z3f J g tt te (fun ys H => ∀ l, H l = none -> D.nx (σ.set i (some (.ref l))) (upd H l (.lst ys))) W
theorem z4K {i : Nat} {y : Str} {py spos : Pos} (hc : X.calm = true) (hN : X.N.Nodup) (hiy : X.N[i]? = some y) (hy : X.env.scope.names.lookup y = some .local) (B : BlkSc X sc locs ix) (hi : PI X tgt iter wi)
    (hg : ∀ cl C fp s2 H2 pn, PG (cxC X sc cl C (z1M X locs ix) fp s2 H2 pn) tgt g) (ht : ∀ cl C fp s2 H2 pn, PTs (cxC X sc cl C (z1M X locs ix) fp s2 H2 pn) tests tt) (he : ∀ cl C fp s2 H2 pn, PE (cxC X sc cl C (z1M X locs ix) fp s2 H2 pn) elt te)
    (hsw : swapsWith (.ListComp elt [⟨tgt, iter, tests, 0⟩] sc pos) (some (.Name y py)) spos.line X.env = pure true)
    (hs : ∀ x, foldedSetIterable iter X.env x = pure x := by intro _; rfl) : PS X (.Assign [.Name y py] (.ListComp elt [⟨tgt, iter, tests, 0⟩] sc pos) spos) (z67 i wi locs.length ix g tt te) := by
  intro pins s σ H D I h
  obtain ⟨cl, ecl, hcl, hcl'⟩ := z35 (sc := sc) (env := X.env) fun y hy hk => I.ok.has y.1 (B.free y hy hk)
  rw [exec_Assign_Name_used _ _ _ _ hsw]
  refine wpAny_bind (wpAny_standAt (wpAny_bind ?_))
  show wpAny _ X.A (do let _ <- comprehension (.ListComp elt [⟨tgt, iter, tests, 0⟩] sc pos) sc X.env _ (newList []) false (eval iter X.env) (some (assign (.Name y py) X.env))) _ _ s
  refine wpAny_bind (thn (wpAny_comprehension_free (use := some (assign (.Name y py) X.env)) (Q := fun _ s' => SP X pins D .next s') rfl hs ecl B.kind B.names ?_) fun _ s' hq => wpAny_pure (wpAny_pure hq))
  refine thn (hi pins s σ H _ I h) fun v s1 h1 => thn h1 fun itv s2 h2 => ?_
  obtain ⟨it, fp, tn, J, H2, e, I2, T, st2, f2, W, ⟨m0, w0⟩, turn⟩ := h2
  subst e
  refine z1N (iter := iter) (pos := pos) (RR := fun acc C => compPost (model X.prog X.w) X.A X.xe (some (assign (.Name y py) X.env)) (fun _ s' => SP X pins D .next s') acc C) hc B hg ht he I2 T st2 f2 hcl hcl' w0 turn ?_
  intro L C s' H' ys m nL hC nC hCL I3 fin ns
  have cL : C ≠ X.env.locals := Nat.ne_of_gt (Nat.lt_of_lt_of_le I2.lt hC)
  have cC : ∀ x c, X.env.cells.lookup x = some c -> c ≠ C := fun x c e => by
    obtain ⟨v, o, ho, _⟩ := I2.cell x c e
    exact Nat.ne_of_lt (Nat.lt_of_lt_of_le (Heap.lt_size ho) hC)
  have cP : ∀ p ∈ X.pn ++ pins, p.1 ≠ C := fun p hp => Nat.ne_of_lt (Nat.lt_of_lt_of_le (Heap.lt_size (I2.pin p hp).1) hC)
  show wpAny _ X.A (assign (.Name y py) X.env (.ref L)) _ _ _
  refine wpAny_assign_Name (z1d (v := .ref L) I3 hN hiy (.inl hy) rfl (fun s4 I4 ⟨a, sb, ha⟩ => ?_) (.inr hy))
  have hCa : C ≠ a := by
    rcases ha with z | z
    . rw [z]; exact cL
    . exact (cC y a z).symm
  exact ⟨m, ns.sameBut sb hCa, fun h' hs' => ⟨_, _, I4.turned (t' := s4.toks) (fun b o hb e => (hs'.2 b hb).trans e) (by rw [z04 hCL]; exact nC) cL (.inr (Nat.le_trans I2.sz hC)) cC cP, fin L nL⟩⟩
end
section
variable {X : Cx}
end
def Ite (K : PySem.W.Frag) (a : Addr) : It :=
  ⟨fun i H => ∃ xs x, SqL K H a xs /\ xs[i]? = some x, fun i H x H' => ∃ T v, H T = none /\ x = .ref T /\ H' = upd H T (.tup [.int i, v]) /\ ∀ xs, SqL K H a xs -> xs[i]? = some v, fun i H => ∃ xs, SqL K H a xs /\ xs.length <= i⟩
theorem z38 {P : Program} {w : World} {K : PySem.W.Frag} {es : List Expr} {k : Nat} {pos : Pos} (a e it : Addr) (hei : e ≠ it) :
    Turn P w K (.Tuple es k pos) (Ite K a) [e, it] e (fun i h => (∃ old, IsEnum h e it (i : Nat) old) /\ h.IsListIter it a i) where
  mem := List.mem_cons_self
  obj := fun i h st b hb => by
    obtain ⟨⟨old, he⟩, o, hi, hc, hd⟩ := st
    rcases List.mem_cons.mp hb with rfl | hb
    . exact ⟨_, he, fun v z => by cases z⟩
    . rw [List.mem_singleton.mp hb]
      exact ⟨o, hi, fun v z => by rw [hd] at z; cases z⟩
  keep := fun i h h' st k => ⟨let ⟨old, he⟩ := st.1; ⟨old, k e List.mem_cons_self _ he⟩, st.2.at fun o q => k it (List.mem_cons_of_mem _ List.mem_cons_self) o q⟩
  item := by
    intro X hP hw hK hc i pins s σ H E I hf st hg
    subst hP hw hK
    obtain ⟨xs, x, hq, hx⟩ := hg
    obtain ⟨its, rv, p, hz⟩ := I.list hq
    obtain ⟨u, hu, ru⟩ := rv.get hx
    obtain ⟨⟨old, he⟩, hit⟩ := st
    obtain ⟨f0, f1, f2, f3, f4, f5⟩ := hf e List.mem_cons_self
    obtain ⟨g0, g1, g2, g3, g4, g5⟩ := hf it (List.mem_cons_of_mem _ List.mem_cons_self)
    refine wpAny_pyNext_enum_item he hit p.isList (x := u) (by simpa using hu) hei fun h' ho hit' hT hsz hk => ?_
    refine ⟨.ref s.heap.objs.size, rfl, wpAny_letOwnedTupleGo_enum ho fun h'' he'' sb => ?_⟩
    have nT : H s.heap.objs.size = none := I.hok.fresh (Nat.le_refl _)
    have kk : ∀ b o, b ≠ e -> b ≠ it -> s.heap.get? b = some o -> h''.get? b = some o := fun b o b1 b2 q => (sb.2 b b1).trans (hk b o b1 b2 q)
    have hTe : s.heap.objs.size ≠ e := Nat.ne_of_gt (Heap.lt_size he)
    have nb : ∀ b u, H b = some u -> b ≠ e /\ b ≠ it := fun b u q => ⟨fun z => (by rw [z, f0] at q; cases q), fun z => (by rw [z, g0] at q; cases q)⟩
    have gT : h''.get? s.heap.objs.size = some { cls := .type "tuple", data := .seq #[.int i s.toks, u] } := (sb.2 _ hTe).trans hT
    have I1 : Inv X pins σ (upd H s.heap.objs.size (.tup [.int i, x])) { s with heap := h'', toks := s.toks + 1 } := by
      refine I.step (g' := s.gens) (d' := s.drawn) (ch := [e, it]) (fun b hb => ?_) (fun b o _ _ hb q _ => kk b o (fun z => hb (by simp [z])) (fun z => hb (by simp [z])) q) (fun b o _ _ hb q _ => ⟨o.slots, kk b o (fun z => hb (by simp [z])) (fun z => hb (by simp [z])) q⟩) (fun b o _ q n => ?_)
        (fun b o hb q => ⟨o, kk b o (fun z => hb (by simp [z])) (fun z => hb (by simp [z])) q⟩) (fun b ys q => ?_) (fun b ob y q => ?_) (fun b ps q => ⟨#[], ?_⟩) (fun m hm => ?_) (fun b y q => ?_) I.bare
      . rcases List.mem_cons.mp hb with rfl | hb
        . exact ⟨f3, f1, f4, f5⟩
        . rw [List.mem_singleton.mp hb]
          exact ⟨g3, g1, g4, g5⟩
      . rw [z04 (Nat.ne_of_lt (Heap.lt_size q))]
        exact n
      . rw [z04 (z08 q nT)]
        exact q
      . rw [z04 (z08 q nT)]
        exact q
      . rw [z04 (z08 q nT), q]
        simp
      . obtain ⟨o, es', ep, ho', r⟩ := hm
        exact ⟨o, es', ep, kk _ o (Ne.symm f1) (Ne.symm g1) ho', r⟩
      . by_cases hb : b = s.heap.objs.size
        . subst hb
          rw [z06] at q
          cases q
          exact ⟨by show 2 <= sizeLine; decide, [.int i s.toks, u], .cons ⟨_, rfl⟩ (.cons ru .nil), _, gT, rfl, _, rfl⟩
        . rw [z04 hb] at q
          refine (I.hok b y q).stay (fun c v hc' z => ?_) (fun c z => by rw [z04 (z08 z nT)]; exact z) fun c ys z => by rw [z04 (z08 z nT)]; exact z
          rcases hc' with z' | z'
          . subst z'
            exact kk c v (nb c y q).1 (nb c y q).2 z
          . exact kk c v (nb c _ z').1 (nb c _ z').2 z
    refine ⟨.ref s.heap.objs.size, _, I1, rfl, ⟨_, x, nT, rfl, rfl, fun ys hy => by rw [I.list_inj hy hq]; exact hx⟩, ⟨⟨u, by simpa using he''⟩, hit'.at fun o q => (sb.2 it (Ne.symm hei)).trans q⟩, fun b hb => ?_⟩
    have hn := (hf b hb).1
    have lt : b < s.heap.objs.size := by
      rcases List.mem_cons.mp hb with rfl | hb
      . exact Heap.lt_size he
      . rw [List.mem_singleton.mp hb]
        obtain ⟨o, q, _⟩ := hit
        exact Heap.lt_size q
    rw [z04 (Nat.ne_of_lt lt)]
    exact hn
  done := by
    intro X hP hw hK hc i pins s σ H E I hf st hg
    subst hP hw hK
    obtain ⟨xs, hq, hx⟩ := hg
    obtain ⟨its, rv, p, hz⟩ := I.list hq
    obtain ⟨⟨old, he⟩, hit⟩ := st
    obtain ⟨g0, g1, g2, g3, g4, g5⟩ := hf it (List.mem_cons_of_mem _ List.mem_cons_self)
    have hl := rv.length
    exact wpAny_pyNext_enum_end (I.ok.hd hc) he hit p.isList (by simp; omega) fun h' eb => ⟨rfl, I.turned (t' := s.toks) (fun b o hb q => eb b o hb q) g0 g1 g3 g4 g5⟩
  self := fun _ _ _ _ _ st h => let ⟨_, he⟩ := st.1; wpAny_pyIter_enum he h
section
variable {X : Cx}
def z68 (K : PySem.W.Frag) (ta : TA) : TI := fun σ H R => ta σ H fun vs H1 => ∃ a, vs = [.ref a] /\ (∃ xs, SqL K H1 a xs) /\ R (Ite K a) H1
theorem z4L {l : Expr} {ta : TA} {p pos : Pos} {es : List Expr} {k : Nat} {tp : Pos} (hg : Gl X "enumerate") (hm : X.mg "enumerate" = none) (ha : PA X [l] ta) (hs : starEach [l] X.env = [(false, eval l X.env)] := by rfl) :
    PI X (.Tuple es k tp) (.Call (.Name "enumerate" p) [l] [] pos) (z68 X.K ta) := by
  intro pins s σ H R I h
  refine Call_ (z1C I hg hm boot_enumerate (PyProof.Rows.callWith_type1 (thn (ha pos pins s σ H _ I h) fun us s1 ⟨vs, H1, I1, r1, q1⟩ => ?_) hs rfl))
  obtain ⟨a, e, ⟨xs, hq⟩, q⟩ := q1
  subst e
  obtain ⟨u, rfl, ru⟩ := vals1 r1
  cases (show u = Value.ref a from ru)
  obtain ⟨its, rv, pl, hz⟩ := I1.list hq
  refine call_enumerate_list pl.isList fun h' he hit hsz hk => ?_
  refine wpAny_pyIter_enum (s := { s1 with heap := h' }) he ?_
  have n1 : H1 s1.heap.objs.size = none := I1.hok.fresh (Nat.le_refl _)
  have n2 : H1 (s1.heap.objs.size + 1) = none := I1.hok.fresh (Nat.le_succ _)
  refine ⟨s1.heap.objs.size + 1, [s1.heap.objs.size + 1, s1.heap.objs.size], _, _, H1, rfl, I1.kept (t' := s1.toks) hk, z38 a _ _ (Nat.succ_ne_self _), ⟨⟨_, by simpa using he⟩, hit⟩, fun b hb => ?_, q⟩
  rcases List.mem_cons.mp hb with rfl | hb
  . exact I1.fpOk (Nat.le_succ _) n2
  . rw [List.mem_singleton.mp hb]
    exact I1.fpOk (Nat.le_refl _) n1
end
def Itv (K : PySem.W.Frag) (a : Addr) (xs : List V) : It :=
  ⟨fun i H => i < xs.length /\ SqL K H a xs, fun i H x H' => H' = H /\ xs[xs.length - 1 - i]? = some x, fun i _ => i = xs.length⟩
theorem z3g {P : Program} {w : World} {K : PySem.W.Frag} {tg : Expr} (a it : Addr) (xs : List V) :
    Turn P w K tg (Itv K a xs) [it] it (fun i h => h.IsRevIter it a ((xs.length : Int) - 1 - (i : Int))) where
  mem := List.mem_cons_self
  obj := fun i h st b hb => by
    rw [List.mem_singleton.mp hb]
    obtain ⟨o, e, c, d⟩ := st
    exact ⟨o, e, fun v z => by rw [d] at z; cases z⟩
  keep := fun i h h' st k => st.at fun o e => k it List.mem_cons_self o e
  item := by
    intro X hP hw hK hc i pins s σ H E I hf st hg
    subst hP hw hK
    obtain ⟨hi, hq⟩ := hg
    obtain ⟨its, rv, p, hz⟩ := I.list hq
    have hl := rv.length
    have hx : xs[xs.length - 1 - i]? = some (xs[xs.length - 1 - i]'(by omega)) := List.getElem?_eq_getElem (by omega)
    obtain ⟨u, hu, ru⟩ := rv.get hx
    obtain ⟨f0, f1, f2, f3, f4, f5⟩ := hf it List.mem_cons_self
    have e : (xs.length : Int) - 1 - (i : Int) = ((xs.length - 1 - i : Nat) : Int) := by omega
    have st' : s.heap.IsRevIter it a ((xs.length - 1 - i : Nat) : Int) := by rw [<- e]; exact st
    refine wpAny_pyNext_rev_item st' p.isList (x := u) (by simpa using hu) fun h' st1 sb => ?_
    have I1 : Inv X pins σ H { s with heap := h' } := I.turned (t' := s.toks) (fun b o hb q => (sb.2 b hb).trans q) f0 f1 f3 f4 f5
    obtain ⟨o, q, c, d⟩ := id st1
    have e2 : ((xs.length - 1 - i : Nat) : Int) - 1 = (xs.length : Int) - 1 - ((i + 1 : Nat) : Int) := by omega
    refine ⟨u, rfl, z48 (s := { s with heap := h' }) q c d (by decide) ⟨_, H, I1, ru, ⟨rfl, hx⟩, ?_, fun b hb => (hf b hb).1⟩⟩
    rw [<- e2]
    exact st1
  done := by
    intro X hP hw hK hc i pins s σ H E I hf st hg
    subst hP hw hK
    cases (show i = xs.length from hg)
    obtain ⟨f0, f1, f2, f3, f4, f5⟩ := hf it List.mem_cons_self
    have e : (xs.length : Int) - 1 - (xs.length : Int) = -1 := by omega
    have st' : s.heap.IsRevIter it a (-1) := by rw [<- e]; exact st
    exact wpAny_pyNext_rev_end (I.ok.hd hc) st' fun h' eb => ⟨rfl, I.turned (t' := s.toks) (fun b o hb q => eb b o hb q) f0 f1 f3 f4 f5⟩
  self := fun _ _ _ _ _ st h => wpAny_pyIter_revIter st h
section
variable {X : Cx} {tg : Expr}
def z7j (K : PySem.W.Frag) (ta : TA) : TI := fun σ H R => ta σ H fun vs H1 => ∃ a xs, vs = [.ref a] /\ SqL K H1 a xs /\ R (Itv K a xs) H1
theorem z53 {l : Expr} {ta : TA} {p pos : Pos} (hg : Gl X "reversed") (hm : X.mg "reversed" = none) (ha : PA X [l] ta) (hs : starEach [l] X.env = [(false, eval l X.env)] := by rfl) :
    PI X tg (.Call (.Name "reversed" p) [l] [] pos) (z7j X.K ta) := by
  intro pins s σ H R I h
  refine Call_ (z1C I hg hm boot_reversed (PyProof.Rows.callWith_type1 (thn (ha pos pins s σ H _ I h) fun us s1 ⟨vs, H1, I1, r1, q1⟩ => ?_) hs rfl))
  obtain ⟨a, xs, e, hq, q⟩ := q1
  subst e
  obtain ⟨u, rfl, ru⟩ := vals1 r1
  cases (show u = Value.ref a from ru)
  obtain ⟨its, rv, pl, hz⟩ := I1.list hq
  have hl := rv.length
  refine call_reversed_list pl.isList ?_
  have st : Heap.IsRevIter (s1.heap.push (revObj a ((its.toArray.size : Int) - 1))) s1.heap.objs.size a ((xs.length : Int) - 1 - ((0 : Nat) : Int)) := by
    have e : (xs.length : Int) - 1 - ((0 : Nat) : Int) = (its.toArray.size : Int) - 1 := by
      rw [List.size_toArray]
      omega
    rw [e]
    exact ⟨_, Heap.get?_push_size _ rfl, rfl, rfl⟩
  refine wpAny_pyIter_revIter (s := { s1 with heap := s1.heap.push (revObj a ((its.toArray.size : Int) - 1)) }) st ?_
  refine ⟨s1.heap.objs.size, [s1.heap.objs.size], _, _, H1, rfl, I1.kept (t' := s1.toks) fun b o e => Heap.get?_push_of_some _ e, z3g a _ xs, st, fun b hb => ?_, q⟩
  rw [List.mem_singleton.mp hb]
  exact I1.fpOk (Nat.le_refl _) (I1.hok.fresh (Nat.le_refl _))
end
theorem z4M {K : PySem.W.Frag} {a : Addr} {xs : List V} {g : TG} {tb : TS} {D : Ends} {σ : St} {H : Hp} (Pv : Nat -> St -> Hp -> Prop) (h0 : Pv 0 σ H) (hl : ∀ i σ H, i <= xs.length -> Pv i σ H -> SqL K H a xs)
    (hs : ∀ (i : Nat) x σ H, i < xs.length -> xs[xs.length - 1 - i]? = some x -> Pv i σ H -> g x σ H fun σ2 H2 => tb { D with nx := Pv (i + 1), ct := Pv (i + 1), bk := D.nx } σ2 H2) (hd : ∀ σ H, Pv xs.length σ H -> D.nx σ H) :
    ∃ W : Nat -> Nat -> St -> Hp -> Prop, (∃ m, W 0 m σ H) /\ ∀ i m σ H, W i m σ H ->
      ((Itv K a xs).stop i H /\ D.nx σ H) \/ ((Itv K a xs).go i H /\ ∃ N : St -> Hp -> Prop, (∀ σ' H', N σ' H' -> ∃ m', m' < m /\ W (i + 1) m' σ' H') /\ ∀ x H', (Itv K a xs).yld i H x H' -> g x σ H' fun σ2 H2 => tb { D with nx := N, ct := N, bk := D.nx } σ2 H2) := by
  refine ⟨fun i m σ H => m = xs.length - i /\ i <= xs.length /\ Pv i σ H, ⟨xs.length, by simp, Nat.zero_le _, h0⟩, ?_⟩
  rintro i m σ H ⟨rfl, hi, p⟩
  have q := hl i σ H hi p
  by_cases hlt : i < xs.length
  . refine .inr ⟨⟨hlt, q⟩, Pv (i + 1), fun σ' H' p' => ⟨xs.length - (i + 1), by omega, rfl, hlt, p'⟩, fun x H' y => ?_⟩
    obtain ⟨e, y⟩ := y
    subst e
    exact hs i x σ _ hlt y p
  . have e : i = xs.length := by omega
    subst e
    exact .inl ⟨rfl, hd σ H p⟩
section
variable {prog : Program} {w : World} {A : Around} {E : Value -> Shared -> Prop} {s : Shared}
abbrev zt1 (h : Heap) (l1 : Addr) : Heap := h.push { cls := .type "tuple_iterator", data := .fields #[.ref l1, .int 0 0] }
abbrev zt2 (h : Heap) (l1 l2 : Addr) : Heap := (zt1 h l1).push { cls := .type "tuple_iterator", data := .fields #[.ref l2, .int 0 0] }
abbrev zt3 (h : Heap) (l1 l2 : Addr) : Heap := (zt2 h l1 l2).push { cls := .type "tuple", data := .seq #[.ref h.objs.size, .ref (zt1 h l1).objs.size] }
abbrev zt4 (h : Heap) (l1 l2 : Addr) : Heap := (zt3 h l1 l2).push { cls := .type "tuple", data := .seq #[.none, .none] }
abbrev zt5 (h : Heap) (l1 l2 : Addr) : Heap := (zt4 h l1 l2).push { cls := .type "zip", data := .fields #[.none, .bool false, .bool false, .ref (zt2 h l1 l2).objs.size, .ref (zt3 h l1 l2).objs.size] }
end
def Itz (K : PySem.W.Frag) (a b : Addr) (xs ys : List V) : It :=
  ⟨fun i H => SqT K H a xs /\ SqT K H b ys /\ i < xs.length /\ i < ys.length, fun i H x H' => ∃ T u v, H T = none /\ x = .ref T /\ H' = upd H T (.tup [u, v]) /\ xs[i]? = some u /\ ys[i]? = some v,
    fun i H => SqT K H a xs /\ SqT K H b ys /\ (xs.length <= i \/ ys.length <= i)⟩
section
variable {X : Cx}
def z8Y (K : PySem.W.Frag) (ta : TA) : TI := fun σ H R => ta σ H fun vs H1 => ∃ a b xs ys, vs = [.ref a, .ref b] /\ SqT K H1 a xs /\ SqT K H1 b ys /\ R (Itz K a b xs ys) H1
end
def z54 (sc dsc : Scope) (N : List Str) (ix : List Nat) : Bool :=
  sc.kind == .function && sc.names.all (fun y => y.2 != .cell) && sc.names.all (fun y => y.2 != .free || dsc.names.lookup y.1 == some .cell || dsc.names.lookup y.1 == some .free) &&
    sc.names.all (fun y => y.2 != .local || sc.names.lookup y.1 == some .local) && ix.all (fun i => match N[i]? with | some x => sc.names.lookup x == some .free | none => false)
theorem BlkSc.look {X : Cx} {sc dsc : Scope} {locs N : List Str} {ix : List Nat} (hs : X.env.scope = dsc) (hN : X.N = N) (c : z54 sc dsc N ix = true) : BlkSc X sc locs ix := by
  unfold z54 at c
  rw [Bool.and_eq_true, Bool.and_eq_true, Bool.and_eq_true, Bool.and_eq_true] at c
  obtain ⟨⟨⟨⟨c1, c2⟩, c3⟩, c4⟩, c5⟩ := c
  refine ⟨by simpa using c1, fun y hy => ?_, fun y hy hk => ?_, fun y hy hk => ?_, fun i hi => ?_⟩
  . simpa using List.all_eq_true.mp c2 y hy
  . have q := List.all_eq_true.mp c3 y hy
    have z : X.env.kindOf y.1 = dsc.names.lookup y.1 := by rw [<- hs]; rfl
    rw [z]
    rw [hk] at q
    simpa using q
  . have q := List.all_eq_true.mp c4 y hy
    rw [hk] at q
    simpa using q
  . have q := List.all_eq_true.mp c5 i hi
    rw [hN]
    cases hx : N[i]? with
    | none => rw [hx] at q; cases q
    | some x =>
      rw [hx] at q
      exact ⟨x, rfl, by simpa using q⟩
section
variable {X : Cx} {sc : Scope} {cl : List (Str × Addr)} {C : Addr} {N : List Str} {fp : List Addr} {s2 : Shared} {H2 : Hp} {pn : List (Addr × Obj)}
theorem z3h : IxR (cxC X sc cl C N fp s2 H2 pn) (z5x X.K) := z0M
theorem z4N {es : List Expr} {k n : Nat} {t : TGs} {pos : Pos} (hc : X.calm = true) (h : PGs (cxC X sc cl C N fp s2 H2 pn) es t)
    (hn : (assignEach es (cxC X sc cl C N fp s2 H2 pn).env).length = n := by rfl) (hst : (assignEach es (cxC X sc cl C N fp s2 H2 pn).env).findIdx? (·.1) = none := by rfl) :
    PG (cxC X sc cl C N fp s2 H2 pn) (.Tuple es k pos) (z6b X.K n t) := z3t hc h hn hst
end
theorem z13 {J : It} {n : Nat} {g : TG} {te : TE} {σ0 : St} {H1 : Hp} {Fin : List V -> Hp -> Prop} (Pv : Nat -> St -> List V -> Hp -> Prop) (h0 : Pv 0 σ0 [] H1) (hn : n <= sizeLine) (len : ∀ i σ ys H, Pv i σ ys H -> ys.length = i)
    (stop : ∀ σ ys H, Pv n σ ys H -> J.stop n H) (go : ∀ i σ ys H, i < n -> Pv i σ ys H -> J.go i H)
    (hs : ∀ i σ ys H x H' (Z : St -> List V -> Hp -> Prop), i < n -> Pv i σ ys H -> J.yld i H x H' -> (∀ σ' ys' H', Pv (i + 1) σ' ys' H' -> Z σ' ys' H') -> g x σ H' fun σ2 H2 => te σ2 H2 fun y H3 => Z σ2 (ys ++ [y]) H3) (hd : ∀ σ ys H, Pv n σ ys H -> Fin ys H) :
    ∃ W : Nat -> Nat -> St -> List V -> Hp -> Prop, (∃ m, W 0 m σ0 [] H1) /\ z3f J g z6s te Fin W := by
  refine ⟨fun i m σ ys H => m = n - i /\ i <= n /\ Pv i σ ys H, ⟨n, rfl, Nat.zero_le _, h0⟩, ?_⟩
  rintro i m σ ys H ⟨rfl, hi, p⟩
  by_cases hlt : i < n
  . refine .inr ⟨go i σ ys H hlt p, by rw [len i σ ys H p]; omega, fun x H' y => ?_⟩
    have q := hs i σ ys H x H' (fun σ2 ys2 H3 => ∃ m', m' < n - i /\ m' = n - (i + 1) /\ i + 1 <= n /\ Pv (i + 1) σ2 ys2 H3) hlt p y fun σ' ys' H'' p' => ⟨n - (i + 1), by omega, rfl, hlt, p'⟩
    exact q
  . have e : i = n := by omega
    subst e
    exact .inl ⟨stop σ ys H p, by rw [len i σ ys H p]; exact hn, hd σ ys H p⟩
def Alk : Nat -> Hp -> V -> V -> Prop
  | 0, _, _, _ => False
  | n + 1, H, x, y => (x = y /\ (x = .non \/ (∃ b, x = .bl b) \/ (∃ i, x = .int i) \/ ∃ z, x = .str z)) \/
      ∃ a b xs ys, x = .ref a /\ y = .ref b /\ ((H a = some (.lst xs) /\ H b = some (.lst ys)) \/ (H a = some (.tup xs) /\ H b = some (.tup ys))) /\ xs.length <= 1000000 /\ xs.length = ys.length /\ ∀ (i : Nat) u v, xs[i]? = some u -> ys[i]? = some v -> Alk n H u v
theorem Alk.mono {H H' : Hp} (s : Same H H') : ∀ {n : Nat} {x y : V}, Alk n H x y -> Alk n H' x y
  | 0, _, _, h => h.elim
  | n + 1, _, _, h => by
    rcases h with h | ⟨a, b, xs, ys, e1, e2, e3, e4, e5, e6⟩
    . exact .inl h
    . refine .inr ⟨a, b, xs, ys, e1, e2, ?_, e4, e5, fun i u v h1 h2 => (e6 i u v h1 h2).mono s⟩
      rcases e3 with ⟨p, q⟩ | ⟨p, q⟩
      . exact .inl ⟨s _ _ p, s _ _ q⟩
      . exact .inr ⟨s _ _ p, s _ _ q⟩
theorem Alk.up {H : Hp} : ∀ {n m : Nat} {x y : V}, n <= m -> Alk n H x y -> Alk m H x y
  | 0, _, _, _, _, h => h.elim
  | n + 1, 0, _, _, hm, _ => absurd hm (Nat.not_succ_le_zero _)
  | n + 1, m + 1, _, _, hm, h => by
    rcases h with h | ⟨a, b, xs, ys, e1, e2, e3, e4, e5, e6⟩
    . exact .inl h
    . exact .inr ⟨a, b, xs, ys, e1, e2, e3, e4, e5, fun i u v h1 h2 => (e6 i u v h1 h2).up (Nat.le_of_succ_le_succ hm)⟩
theorem Alk.int {n : Nat} {H : Hp} (i : Int) : Alk (n + 1) H (.int i) (.int i) := .inl ⟨rfl, .inr (.inr (.inl ⟨i, rfl⟩))⟩
theorem Alk.non {n : Nat} {H : Hp} : Alk (n + 1) H .non .non := .inl ⟨rfl, .inl rfl⟩
theorem Alk.bl {n : Nat} {H : Hp} (b : Bool) : Alk (n + 1) H (.bl b) (.bl b) := .inl ⟨rfl, .inr (.inl ⟨b, rfl⟩)⟩
theorem Alk.ints {n : Nat} {H : Hp} {a b : Addr} {zs ws : List Int} (h1 : H a = some (.lst (zs.map V.int))) (h2 : H b = some (.lst (ws.map V.int))) (e : zs = ws) (hl : zs.length <= 1000000) : Alk (n + 2) H (.ref a) (.ref b) := by
  subst e
  refine .inr ⟨a, b, _, _, rfl, rfl, .inl ⟨h1, h2⟩, by rw [List.length_map]; exact hl, rfl, fun i u v hu hv => ?_⟩
  rw [hu] at hv
  cases hv
  obtain ⟨z, rfl⟩ := z3d (List.mem_of_getElem? hu)
  exact Alk.int z
def z69 (n : Nat) : Sp := fun vs H Q _ => ∃ x y, vs = [x, y] /\ Alk n H x y /\ ∀ H', Same H H' -> Q (.bl true) H'
structure BltA (mg : Str -> Option Value) : Prop where
  isi : mg "isinstance" = none
  tup : mg "tuple" = none
  lst : mg "list" = none
  boo : mg "bool" = none
  str : mg "str" = none
  int : mg "int" = none
  len : mg "len" = none
  all : mg "all" = none
  rng : mg "range" = none
end L2
namespace G
open PySem
def z0O : List (Option Int) -> Int
  | [] => 0
  | c :: r => c.getD 0 + 16 * z0O r
def z0T : List (Option Int) -> Int
  | [] => 0
  | c :: r => (if c.isSome = true then 1 else 0) + 2 * z0T r
def Cell (c : Option Int) : Prop := ∀ z, c = some z -> 0 <= z /\ z <= 15
def Cells (r : List (Option Int)) : Prop := ∀ c ∈ r, Cell c
theorem Cells.tail {c : Option Int} {r : List (Option Int)} (h : Cells (c :: r)) : Cells r := fun d hd => h d (List.mem_cons_of_mem _ hd)
theorem Cell.get {c : Option Int} (h : Cell c) : 0 <= c.getD 0 /\ c.getD 0 <= 15 := by
  cases c with
  | none => exact ⟨by decide, by decide⟩
  | some z => exact h z rfl
theorem z55 (n : Nat) : (16 : Int) ^ (n + 1) = 16 * 16 ^ n := by rw [Int.pow_succ, Int.mul_comm]
theorem z56 (n : Nat) : (2 : Int) ^ (n + 1) = 2 * 2 ^ n := by rw [Int.pow_succ, Int.mul_comm]
theorem z2L : ∀ {r : List (Option Int)} {x : Nat} {c : Option Int}, Cells r -> r[x]? = some c -> z0O r / 16 ^ x % 16 = c.getD 0
  | [], _, _, _, e => by cases e
  | d :: r, 0, c, h, e => by
    cases e
    have hd := (h d List.mem_cons_self).get
    show (d.getD 0 + 16 * z0O r) / 1 % 16 = d.getD 0
    omega
  | d :: r, x + 1, c, h, e => by
    have ih := z2L (x := x) (c := c) h.tail e
    have hd := (h d List.mem_cons_self).get
    show (d.getD 0 + 16 * z0O r) / 16 ^ (x + 1) % 16 = c.getD 0
    rw [z55, <- Int.ediv_ediv_of_nonneg (by decide)]
    have q : (d.getD 0 + 16 * z0O r) / 16 = z0O r := by omega
    rw [q]
    exact ih
theorem z39 : ∀ {r : List (Option Int)} {x : Nat} {c : Option Int}, r[x]? = some c -> z0T r / 2 ^ x % 2 = (if c.isSome = true then 1 else 0)
  | [], _, _, e => by cases e
  | d :: r, 0, c, e => by
    cases e
    show ((if d.isSome = true then 1 else 0) + 2 * z0T r) / 1 % 2 = _
    split <;> omega
  | d :: r, x + 1, c, e => by
    have ih := z39 (x := x) (c := c) e
    show ((if d.isSome = true then 1 else 0) + 2 * z0T r) / 2 ^ (x + 1) % 2 = _
    rw [z56, <- Int.ediv_ediv_of_nonneg (by decide)]
    have q : ((if d.isSome = true then 1 else 0) + 2 * z0T r) / 2 = z0T r := by split <;> omega
    rw [q]
    exact ih
theorem z7k (x : Nat) : (2 : Int) ^ (4 * x) = 16 ^ x := by
  induction x with
  | zero => rfl
  | succ x ih =>
    rw [show 4 * (x + 1) = 4 * x + 1 + 1 + 1 + 1 by omega, z56, z56, z56, z56, ih, z55]
    omega
def pc : Nat -> Nat
  | 0 => 0
  | n + 1 => (n + 1) % 2 + pc ((n + 1) / 2)
decreasing_by omega
def z4O : List (Option Int) -> Nat
  | [] => 0
  | c :: r => (if c.isSome = true then 1 else 0) + z4O r
end G
namespace L2
open PySem PySem.Spec PyProof.Rows G
def z0Q : Option Int -> V
  | none => .non
  | some z => .int z
structure RowsAt (H : Hp) (l : Addr) (ps : List Addr) (rows : List (List (Option Int))) : Prop where
  lst : H l = some (.lst (ps.map V.ref))
  len : ps.length = rows.length
  row : ∀ (i : Nat) p r, ps[i]? = some p -> rows[i]? = some r -> H p = some (.lst (r.map z0Q))
theorem RowsAt.mono {H H' : Hp} {l : Addr} {ps : List Addr} {rows : List (List (Option Int))} (s : Same H H') (h : RowsAt H l ps rows) : RowsAt H' l ps rows := ⟨s _ _ h.lst, h.len, fun i p r e1 e2 => s _ _ (h.row i p r e1 e2)⟩
structure Rect (w h : Nat) (rows : List (List (Option Int))) : Prop where
  len : rows.length = h
  h1 : 1 <= h
  h2 : h <= 64
  w1 : 1 <= w
  w2 : w <= 64
  row : ∀ r ∈ rows, r.length = w /\ Cells r
def PicAt (H : Hp) (p : Addr) (w : Nat) (rows : List (List (Option Int))) : Prop :=
  ∃ pp pm, H p = some (.tup [.int (w : Int), .int (rows.length : Int), .ref pp, .ref pm]) /\ H pp = some (.tup ((rows.map z0O).map V.int)) /\ H pm = some (.tup ((rows.map z0T).map V.int))
theorem PicAt.mono {H H' : Hp} {p : Addr} {w : Nat} {rows : List (List (Option Int))} (s : Same H H') (h : PicAt H p w rows) : PicAt H' p w rows := by
  obtain ⟨pp, pm, h1, h2, h3⟩ := h
  exact ⟨pp, pm, s _ _ h1, s _ _ h2, s _ _ h3⟩
theorem Alk.cell {n : Nat} {H : Hp} (c : Option Int) : Alk (n + 1) H (z0Q c) (z0Q c) := by
  cases c with
  | none => exact Alk.non
  | some z => exact Alk.int z
theorem z3A {ns : List Int} (h : 0 < ns.length) (k : Int) : ∃ z, atI (ns.map V.int) (k % ((ns.map V.int).length : Int)) = some (.int z) := by
  have e : ((ns.map V.int).length : Int) = (ns.length : Int) := by rw [List.length_map]
  rw [e]
  have h1 := Int.emod_nonneg k (show (ns.length : Int) ≠ 0 by omega)
  have h2 := Int.emod_lt_of_pos k (show (0 : Int) < ns.length by omega)
  have e2 : k % (ns.length : Int) = (((k % (ns.length : Int)).toNat : Nat) : Int) := by omega
  rw [e2]
  have hj : (k % (ns.length : Int)).toNat < ns.length := by omega
  refine ⟨ns[(k % (ns.length : Int)).toNat], z0S ?_⟩
  rw [List.getElem?_map, List.getElem?_eq_getElem hj]
  rfl
def look (w h : Nat) (rows : List (List (Option Int))) (x y : Int) : Option Int := if 0 <= x /\ x < w /\ 0 <= y /\ y < h then (rows.getD y.toNat []).getD x.toNat none else none
theorem z41 {zs : List Int} {y : Int} {z : Int} (h0 : 0 <= y) (h : zs[y.toNat]? = some z) : atI (zs.map V.int) y = some (.int z) := by
  have e : y = ((y.toNat : Nat) : Int) := by omega
  rw [e]
  exact z0S (by rw [List.getElem?_map, h]; rfl)
def z42 (K : PySem.W.Frag) : Sp := fun vs H Q _ => ∃ (a : Addr) (ns : List Int) (k m : Int), vs = [.ref a, .int k, .int m] /\ SqL K H a (ns.map V.int) /\ 0 <= k /\ k < 1000000 /\ 0 < m /\ ∀ r, 0 <= r -> r < m -> Q (.int r) H
def z6A (K : PySem.W.Frag) : Sp := fun vs H Q _ => ∃ (a : Addr) (ns : List Int) (k : Int), vs = [.ref a, .int k] /\ SqL K H a (ns.map V.int) /\ 0 <= k /\ k < 10000 /\ ∀ (w h : Int) p, 1 <= w -> w <= 64 -> 1 <= h -> h <= 64 -> H p = none -> Q (.ref p) (upd H p (.tup [.int w, .int h]))
def z6t (K : PySem.W.Frag) : Sp := fun vs H Q _ => ∃ (a : Addr) (ns : List Int) (k w h : Int), vs = [.ref a, .int k, .int w, .int h] /\ SqL K H a (ns.map V.int) /\ 0 <= k /\ k < 10000 /\ 1 <= w /\ w <= 64 /\ 1 <= h /\ h <= 64 /\
  ∀ l ps rows H', Same H H' -> H l = none -> (∀ p ∈ ps, H p = none) -> RowsAt H' l ps rows -> Rect w.toNat h.toNat rows -> Q (.ref l) H'
def z2M : Sp := fun vs H Q _ => ∃ l ps rows w h, vs = [.ref l] /\ RowsAt H l ps rows /\ Rect w h rows /\ ∀ p H', Same H H' -> PicAt H' p w rows -> Q (.ref p) H'
def z43 : Sp := fun vs H Q _ => ∃ p x y w h rows, vs = [.ref p, .int x, .int y] /\ PicAt H p w rows /\ Rect w h rows /\ Q (z0Q (look w h rows x y)) H
def z6B : Sp := fun vs H Q _ => ∃ l r, vs = [.ref l] /\ H l = some (.lst (r.map z0Q)) /\ Cells r /\ r.length <= 64 /\ ∀ H', Same H H' -> Q (.int (z0O r)) H'
def z6u : Sp := fun vs H Q _ => ∃ l r, vs = [.ref l] /\ H l = some (.lst (r.map z0Q)) /\ Cells r /\ r.length <= 64 /\ ∀ H', Same H H' -> Q (.int (z0T r)) H'
theorem z6v (x : Int) : Builtin.bitAnd x 1 = x % 2 := bitAnd_m1 x
theorem z6C (x : Int) : Builtin.bitAnd x 15 = x % 16 := bitAnd_m4 x
structure Ow (P : Program) (w : World) (K : PySem.W.Frag) (mg : Str -> Option Value) (base : Heap) (x : Str) (ps : List Str) (k : Nat) (sp : Sp) : Prop where
  ex : ∃ (f : Addr) (fd : FuncData), mg x = some (.ref f) /\ PySem.W.keepIn K (.ref f) = true /\ Binds K fd ps [] /\ FnOk P w K mg base CX0 k f fd ps sp
theorem Df.ow {P : Program} {w : World} {K : PySem.W.Frag} {mg : Str -> Option Value} {base : Heap} {x : Str} {st : Stmt} {ps : List Str} {f : Addr} {fd : FuncData} {k : Nat} {sp : Sp} (D : Df K mg x st ps f fd) (F : FnOk P w K mg base CX0 k f fd ps sp) :
    Ow P w K mg base x ps k sp := ⟨f, fd, D.m, D.F.kp, D.b, F⟩
section
variable {X : Cx} {k j : Nat} {ps : List Str} {sp : Sp} {x : Str} {p pos : Pos} {e : Expr} {es : List Expr} {t : TA}
theorem z0F (O : Ow X.prog X.w X.K X.mg X.base x ps k sp) (hr : Room j X.A) (hg : Gl X x) (ha : PA X (e :: es) t) (hk : k <= j := by decide) (hdb : (x == ("__debug__" : Str)) = false := by decide)
    (he : starEach (e :: es) X.env = (false, eval e X.env) :: starEach es X.env := by rfl) (hpl : (backTo pos (starEach es X.env)).any (·.1) = false := by rfl) :
    PE X (.Call (.Name x p) (e :: es) [] pos) (z4u sp [] E0 t) := by
  obtain ⟨f, fd, m, kp, b, F⟩ := O.ex
  exact z4D F (hr.mono hk) hg m kp b .nil z63 ha hdb he hpl
end
theorem z21 {c A B : Prop} [Decidable c] (h1 : c -> A) (h2 : ¬ c -> B) : if decide c = true then A else B := by
  by_cases h : c
  . rw [decide_eq_true h, if_pos rfl]; exact h1 h
  . rw [decide_eq_false h, if_neg Bool.false_ne_true]; exact h2 h
theorem z5W {c A B : Prop} [Decidable c] (h1 : ¬ c -> A) (h2 : c -> B) : if (!decide c) = true then A else B := by
  by_cases h : c
  . rw [decide_eq_true h, Bool.not_true, if_neg Bool.false_ne_true]; exact h2 h
  . rw [decide_eq_false h, Bool.not_false, if_pos rfl]; exact h1 h
theorem mulL {i j : Int} (h1 : -18446744073709551616 < i) (h2 : i < 18446744073709551616) : CMul i j := .inl ⟨h1, h2⟩
theorem mulR {i j : Int} (h1 : -18446744073709551616 < j) (h2 : j < 18446744073709551616) : CMul i j := .inr ⟨h1, h2⟩
theorem powS {i j : Int} (h1 : 0 <= j) (h2 : j <= 1000000) (h3 : i.natAbs < 18446744073709551616) : z6f i j := ⟨h1, h2, h3⟩
theorem szV {xs : List V} (h : xs.length <= 100000) : xs.length <= sizeLine := Nat.le_trans h (by decide)
theorem z1y {j : Int} (h1 : 0 <= j) (h2 : j <= 1000000000) : -(2 ^ 62) <= j /\ j < 2 ^ 62 := by
  have : (1000000000 : Int) < 2 ^ 62 := by decide
  omega
def z7l (t u : TS) : TS := fun D σ H => ∃ I : St -> Hp -> Prop, t { D with nx := I } σ H /\ ∀ σ' H', I σ' H' -> u D σ' H'
theorem z1H {X : Cx} {st : Stmt} {rest : List Stmt} {t u : TS} (h1 : PS X st t) (h2 : PSs X rest u) : PSs X (st :: rest) (z7l t u) := by
  intro pins s σ H D I h
  obtain ⟨J, h, hj⟩ := h
  refine wpAny_execs_cons (thn (h1 pins s σ H { D with nx := J } I h) fun f s1 q => ?_)
  cases f with
  | next =>
    obtain ⟨σ', H', I', q⟩ := q
    exact h2 pins s1 σ' H' D I' (hj _ _ q)
  | ret v => exact q
  | brk => exact q
  | cont => exact q
end L2
namespace L2
open PySem PySem.Spec PyProof.Rows G
structure RowsB (H0 H : Hp) (l : Addr) (ps : List Addr) (rows : List (List (Option Int))) : Prop where
  same : Same H0 H
  fl : H0 l = none
  fp : ∀ p ∈ ps, H0 p = none /\ p ≠ l
  rat : RowsAt H l ps rows
theorem Same.put {H0 H : Hp} {p : Addr} {o : HO} (s : Same H0 H) (h : H0 p = none) : Same H0 (upd H p o) := fun b u e => by
  rw [z04 (z08 e h)]
  exact s b u e
theorem RowsB.put {H0 H : Hp} {l p : Addr} {ps : List Addr} {rows : List (List (Option Int))} {o : HO} (B : RowsB H0 H l ps rows) (h0 : H0 p = none) (hl : p ≠ l) (hp : p ∉ ps) : RowsB H0 (upd H p o) l ps rows where
  same := B.same.put h0
  fl := B.fl
  fp := B.fp
  rat := ⟨by rw [z04 (Ne.symm hl)]; exact B.rat.lst, B.rat.len, fun i q r e1 e2 => by
    have hq : q ≠ p := fun e => hp (by rw [<- e]; exact List.mem_of_getElem? e1)
    rw [z04 hq]
    exact B.rat.row i q r e1 e2⟩
theorem RowsB.push {H0 H : Hp} {l p : Addr} {ps : List Addr} {rows : List (List (Option Int))} {r : List (Option Int)} (B : RowsB H0 H l ps rows) (h0 : H0 p = none) (hl : p ≠ l) (hr : H p = some (.lst (r.map z0Q))) :
    RowsB H0 (upd H l (.lst (ps.map V.ref ++ [.ref p]))) l (ps ++ [p]) (rows ++ [r]) where
  same := B.same.put B.fl
  fl := B.fl
  fp := fun q hq => by
    rcases List.mem_append.mp hq with h | h
    . exact B.fp q h
    . rw [List.mem_singleton.mp h]
      exact ⟨h0, hl⟩
  rat := ⟨by rw [z06, List.map_append]; rfl, by rw [List.length_append, List.length_append, B.rat.len]; rfl, fun i q s e1 e2 => by
    have hq : q ≠ l := by
      rcases List.mem_append.mp (List.mem_of_getElem? e1) with h | h
      . exact (B.fp q h).2
      . rw [List.mem_singleton.mp h]
        exact hl
    rw [z04 hq]
    have hlen := B.rat.len
    by_cases hi : i < ps.length
    . rw [List.getElem?_append_left hi] at e1
      rw [List.getElem?_append_left (by omega)] at e2
      exact B.rat.row i q s e1 e2
    . rw [List.getElem?_append_right (by omega)] at e1
      rw [List.getElem?_append_right (by omega)] at e2
      rw [hlen] at e1
      cases hj : i - rows.length with
      | zero =>
        rw [hj] at e1 e2
        cases e1
        cases e2
        exact hr
      | succ n =>
        rw [hj] at e1
        cases e1⟩
theorem RowsB.mono {H0 H H' : Hp} {l : Addr} {ps : List Addr} {rows : List (List (Option Int))} (B : RowsB H0 H l ps rows) (s : Same H H') : RowsB H0 H' l ps rows := ⟨B.same.trans s, B.fl, B.fp, B.rat.mono s⟩
theorem z4P {H0 H : Hp} {l : Addr} (s : Same H0 H) (h : H l = none) : RowsB H0 (upd H l (.lst [])) l [] [] :=
  ⟨s.trans (Same.new h), s.free h, (fun _ hp => nomatch hp), ⟨z06, rfl, (fun _ _ _ e => nomatch e)⟩⟩
theorem Rect.ne {w h : Nat} {rows : List (List (Option Int))} (R : Rect w h rows) : 0 < rows.length := by have := R.len; have := R.h1; omega
theorem RowsAt.at {H : Hp} {l : Addr} {ps : List Addr} {rows : List (List (Option Int))} (a : RowsAt H l ps rows) {i : Nat} (hi : i < rows.length) : ∃ p, ps[i]? = some p /\ H p = some (.lst ((rows[i]'hi).map z0Q)) := by
  have hl := a.len
  exact ⟨ps[i]'(by omega), List.getElem?_eq_getElem _, a.row i _ _ (List.getElem?_eq_getElem _) (List.getElem?_eq_getElem _)⟩
theorem RowsAt.atI {H : Hp} {l : Addr} {ps : List Addr} {rows : List (List (Option Int))} (a : RowsAt H l ps rows) {i : Nat} (hi : i < rows.length) : ∃ p, L2.atI (ps.map V.ref) (i : Int) = some (.ref p) /\ H p = some (.lst ((rows[i]'hi).map z0Q)) := by
  obtain ⟨p, h1, h2⟩ := a.at hi
  exact ⟨p, z0S (by rw [List.getElem?_map, h1]; rfl), h2⟩
theorem Rect.row0 {w h : Nat} {rows : List (List (Option Int))} (R : Rect w h rows) {i : Nat} (hi : i < rows.length) : (rows[i]'hi).length = w /\ Cells (rows[i]'hi) := R.row _ (List.getElem_mem hi)
theorem z3B {w h : Nat} {rows : List (List (Option Int))} {x y : Int} (x0 : 0 <= x) (x1 : x < w) (y0 : 0 <= y) (y1 : y < h) (hy : y.toNat < rows.length) (hx : x.toNat < (rows[y.toNat]'hy).length) : look w h rows x y = (rows[y.toNat]'hy)[x.toNat]'hx := by
  unfold look
  have e1 : rows.getD y.toNat [] = rows[y.toNat]'hy := by rw [List.getD_eq_getElem?_getD, List.getElem?_eq_getElem hy]; rfl
  rw [if_pos ⟨x0, x1, y0, y1⟩, e1, List.getD_eq_getElem?_getD, List.getElem?_eq_getElem hx]
  rfl
theorem PicAt.put {H : Hp} {p q : Addr} {w : Nat} {rows : List (List (Option Int))} {xs : List V} {o : HO} (h : PicAt H p w rows) (hq : H q = some (.lst xs)) : PicAt (upd H q o) p w rows := by
  obtain ⟨a, b, h1, h2, h3⟩ := h
  have ne : ∀ {c : Addr} {ys : List V}, H c = some (.tup ys) -> c ≠ q := fun e z => by
    rw [z, hq] at e
    cases e
  exact ⟨a, b, by rw [z04 (ne h1)]; exact h1, by rw [z04 (ne h2)]; exact h2, by rw [z04 (ne h3)]; exact h3⟩
end L2
namespace L2
open PySem PySem.Spec PyProof.Rows G
def inB (x : V) (a b : Int) : Bool := match x with
  | .int i => decide (a <= i) && decide (i <= b)
  | _ => false
def z6D (x : V) : Bool := match x with
  | .non => true
  | x => inB x 0 15
def z3C : Sp := fun vs H Q _ => ∃ x T, vs = [x] /\ tyS H x = some T /\ Q (.bl (T == "int")) H
theorem z22 : ∀ T ∈ z4I, (if z4H T "int" = true then (!z4H T "bool") else false) = (T == "int") := by decide
def z5X : Sp := fun vs H Q _ => ∃ x a b T, vs = [x, .int a, .int b] /\ tyS H x = some T /\ Q (.bl (inB x a b)) H
def z6w : Sp := fun vs H Q _ => ∃ x T, vs = [x] /\ tyS H x = some T /\ Q (.bl (inB x 1 64)) H
def z5Y : Sp := fun vs H Q _ => ∃ x T, vs = [x] /\ tyS H x = some T /\ Q (.bl (z6D x)) H
def z57 : Sp := fun vs H Q _ => ∃ (l m : Addr) (r r' : List (Option Int)), vs = [.ref l, .ref m] /\ H l = some (.lst (r.map z0Q)) /\ H m = some (.lst (r'.map z0Q)) /\ r.length = r'.length /\ 1 <= r.length /\ r.length <= 64 /\ Cells r /\ ∀ H', Same H H' -> Q (.bl true) H'
def z4a : Sp := fun vs H Q _ => ∃ l ps rows w h, vs = [.ref l] /\ RowsAt H l ps rows /\ Rect w h rows /\ ∀ p H', Same H H' -> H p = none -> PicAt H' p w rows -> Q (.ref p) H'
def z6x : Sp := fun vs H Q _ => ∃ l ps rows w h x y, vs = [.ref l, .int x, .int y] /\ RowsAt H l ps rows /\ Rect w h rows /\ Q (z0Q (look w h rows x y)) H
end L2
namespace L2
open PySem PySem.Spec PyProof.Rows G
end L2
namespace L2
open PySem PySem.Spec PyProof.Rows G
def z6E (K : PySem.W.Frag) : Sp := fun vs H Q _ => ∃ (a : Addr) (ns : List Int) (k : Int), vs = [.ref a, .int k] /\ SqL K H a (ns.map V.int) /\ 0 <= k /\ k < 10000 /\ ∀ (z : Int) H', Same H H' -> Q (.int z) H'
def z8Z (K : PySem.W.Frag) : Sp := fun vs H Q _ => ∃ (a : Addr) (ns : List Int) (p l : Addr) (ps : List Addr) (rows : List (List (Option Int))) (w h : Nat), vs = [.ref a, .ref p, .ref l] /\ SqL K H a (ns.map V.int) /\ PicAt H p w rows /\ RowsAt H l ps rows /\ Rect w h rows /\ ∀ H', Same H H' -> Q (.bl true) H'
section
variable {X : Cx}
def z7m : R2 := fun x y H Q => ∃ a k v, x = .ref a /\ y = .int k /\ H a = some (.tup [v]) /\ 1 <= k /\ k <= 10000 /\ ∀ p H', Same H H' -> H' p = some (.tup (List.replicate k.toNat v)) -> Q (.ref p) H'
end
structure FunD (K : PySem.W.Frag) (x qual : Str) (st : Stmt) (f : Addr) (fd : FuncData) (T : Addr) : Prop where
  ex : ∃ (oc : Value) (od : Option Addr) (kV doc pm : Value) (an : Option Addr) (cdv ct : Value) (osl : Array (Option Value)),
    fd = PySem.W.fnOf x qual (z0G st) (z0C st) (z02 st) (.ref T) kV doc pm an cdv ct /\ K.lookup f = some ⟨oc, od, .func fd, osl⟩ /\ PySem.W.codeIn K cdv qual = true
  kp : PySem.W.keepIn K (.ref f) = true
theorem FunD.ok {P : Program} {w : World} {K : PySem.W.Frag} {mg : Str -> Option Value} {base : Heap} {x qual : Str} {st : Stmt} {f T : Addr} {fd : FuncData} {N ps : List Str} {k : Nat} {sp : Sp} (F : FunD K x qual st f fd T) (S : FnScope N ps (z02 st)) (len : ∀ vs H Q E, sp vs H Q E -> vs.length = ps.length)
    (hbody : ∀ (cdv : Value) (A : Around) (outer : List Env) (s : Shared) (H : Hp) (vs : List V) (Q : VK) (E : XK), Room k (A.deeper (envOfC qual (z02 st) s.heap.objs.size f cdv)) -> sp vs H Q E ->
      ∃ t, PSs (z3y CX0 P w K mg base N qual (z02 st) f cdv A outer s H E).nox (z0C st) t /\ t { nx := fun _ H' => Q .non H', rt := Q } (start N vs) H) : FnOk P w K mg base CX0 (k + 1) f fd ps sp := by
  obtain ⟨oc, od, kV, doc, pm, an, cdv, ct, osl, rfl, lk, hcd⟩ := F.ex
  refine z4E lk hcd S len fun A outer s H vs Q E hr hsp => ?_
  obtain ⟨t, h, q⟩ := hbody cdv A outer s H vs Q E hr hsp
  exact ⟨t, h.nox, q⟩
structure Owd (P : Program) (w : World) (K : PySem.W.Frag) (mg : Str -> Option Value) (base : Heap) (x : Str) (ps : List Str) (dvs : List V) (k : Nat) (sp : Sp) : Prop where
  ex : ∃ (f : Addr) (fd : FuncData) (ds : List Value), mg x = some (.ref f) /\ PySem.W.keepIn K (.ref f) = true /\ Binds K fd ps ds /\ Vals dvs ds /\ FnOk P w K mg base CX0 k f fd ps sp
def z6y (sc : Scope) : Bool := sc.kind == .function && sc.names.all (fun y => y.2 != .cell && y.2 != .free && (y.2 != .local || sc.names.lookup y.1 == some .local))
section
variable {X : Cx} {sc : Scope} {cl : List (Str × Addr)} {C : Addr} {N : List Str} {fp : List Addr} {s2 : Shared} {H2 : Hp} {pn : List (Addr × Obj)} {tg l : Expr} {tl : TE}
end
structure DfD (K : PySem.W.Frag) (mg : Str -> Option Value) (x : Str) (st : Stmt) (ps : List Str) (f : Addr) (fd : FuncData) (T : Addr) : Prop where
  F : FunD K x x st f fd T
  b : Binds K fd ps []
  b1 : Binds K fd ps [.none]
  m : mg x = some (.ref f)
theorem DfD.ow {P : Program} {w : World} {K : PySem.W.Frag} {mg : Str -> Option Value} {base : Heap} {x : Str} {st : Stmt} {ps : List Str} {f T : Addr} {fd : FuncData} {k : Nat} {sp : Sp} (D : DfD K mg x st ps f fd T) (F : FnOk P w K mg base CX0 k f fd ps sp) :
    Ow P w K mg base x ps k sp := ⟨f, fd, D.m, D.F.kp, D.b, F⟩
end L2
namespace L2
open PySem PySem.Spec PyProof.Rows G
theorem z4Q {w h : Nat} {rows : List (List (Option Int))} {y : Int} {i : Nat} (R : Rect w h rows) (y0 : 0 <= y) (hy : y.toNat < rows.length) (hi : i < (rows[y.toNat]'hy).length) : look w h rows (0 + (i : Int)) y = (rows[y.toNat]'hy)[i]'hi := by
  have hw := (R.row0 hy).1
  have hR := R.len
  have e : (0 + (i : Int)).toNat = i := by omega
  have q := z3B (rows := rows) (w := w) (h := h) (x := 0 + (i : Int)) (y := y) (by omega) (by omega) y0 (by omega) hy (by omega)
  rw [q]
  congr 1
def z3D : Sp := fun vs H Q _ => ∃ p y w h rows, vs = [.ref p, .int y] /\ PicAt H p w rows /\ Rect w h rows /\ 0 <= y /\ y < h /\ ∀ l H', Same H H' -> H l = none -> H' l = some (.lst ((rows.getD y.toNat []).map z0Q)) -> Q (.ref l) H'
def z2N : Sp := fun vs H Q _ => ∃ p w h rows, vs = [.ref p] /\ PicAt H p w rows /\ Rect w h rows /\ ∀ l ps H', RowsB H H' l ps rows -> Q (.ref l) H'
def z6z : Sp := fun vs H Q _ => ∃ m : Int, vs = [.int m] /\ 0 <= m /\ Q (.int (pc m.toNat : Int)) H
def z6F : Sp := fun vs H Q _ => ∃ p w h rows, vs = [.ref p] /\ PicAt H p w rows /\ Rect w h rows /\ ∀ H', Same H H' -> Q (.int ((rows.map fun r => (z4O r : Int)).sum)) H'
def z6G : Sp := fun vs H Q _ => ∃ l ps w h rows, vs = [.ref l] /\ RowsAt H l ps rows /\ Rect w h rows /\ ∀ H', Same H H' -> Q (.int ((rows.map fun r => (z4O r : Int)).sum)) H'
end L2
namespace L2
open PySem PySem.Spec PyProof.Rows G
def z5Z : Sp := fun vs H Q _ => ∃ (w h : Int) (c : Option Int), vs = [.int w, .int h, z0Q c] /\ 1 <= w /\ w <= 64 /\ 1 <= h /\ h <= 64 /\ Cell c /\ ∀ p H', Same H H' -> PicAt H' p w.toNat (List.replicate h.toNat (List.replicate w.toNat c)) -> Q (.ref p) H'
end L2
namespace G
open PySem
def z4R : Nat -> Int -> Int -> List (Option Int)
  | 0, _, _ => []
  | n + 1, P, M => (if M % 2 = 1 then some (P % 16) else none) :: z4R n (P / 16) (M / 2)
def z6H : Nat -> Int -> Int -> Bool
  | 0, P, M => decide (P = 0) && decide (M = 0)
  | n + 1, P, M => (decide (M % 2 = 1) || decide (P % 16 = 0)) && z6H n (P / 16) (M / 2)
def roomI : Nat -> Int -> Int
  | 0, _ => 0
  | n + 1, M => (if M % 2 = 1 then 15 else 0) + 16 * roomI n (M / 2)
end G
namespace L2
open PySem PySem.Spec PyProof.Rows
def z7n (K : PySem.W.Frag) : R2 := fun x y H Q => ∃ a b xs ys, x = .ref a /\ y = .ref b /\ SqT K H a xs /\ SqT K H b ys /\ xs.length + ys.length <= sizeLine /\
  (xs = [] -> Q (.ref b) H) /\ (xs ≠ [] -> ys = [] -> Q (.ref a) H) /\ (xs ≠ [] -> ys ≠ [] -> ∀ p, H p = none -> Q (.ref p) (upd H p (.tup (xs ++ ys))))
section
variable {X : Cx}
def z8a (K : PySem.W.Frag) : R2 := fun x y H Q => ∃ (a b pa pb qa qb : Addr) (w h w' h' : Int) (ns ms ns' ms' : List Int), x = .ref a /\ y = .ref b /\ SqT K H a [.int w, .int h, .ref pa, .ref pb] /\ SqT K H b [.int w', .int h', .ref qa, .ref qb] /\
  SqT K H pa (ns.map V.int) /\ SqT K H pb (ms.map V.int) /\ SqT K H qa (ns'.map V.int) /\ SqT K H qb (ms'.map V.int) /\ Q (.bl ((w == w') && ((h == h') && (decide (ns = ns') && decide (ms = ms'))))) H
def z6I (i j : Int) : Prop := i.natAbs < 2 ^ 1000 /\ j.natAbs < 2 ^ 1000
theorem z3E {x : Int} {n : Nat} (h : x.natAbs < 2 ^ n) : Builtin.Int.intBits x <= n := by
  unfold Builtin.Int.intBits
  split
  . exact Nat.zero_le _
  . rename_i h0
    have hx : x.natAbs ≠ 0 := fun e => h0 (by rw [Int.natAbs_eq_zero.mp e]; rfl)
    exact (Nat.log2_lt hx).mpr h
theorem z4S : OpR X (binaryOp .Mult) (rI z6I fun i j => .int (i * j)) := opI fun _ _ _ _ _ _ _ hc q => mul_int q (IntMulOk.of_bits (Nat.le_trans (z3E hc.1) (by decide)) (Nat.le_trans (z3E hc.2) (by decide)))
end
def z70 : Sp := fun vs H Q _ => ∃ w m : Int, vs = [.int w, .int m] /\ 0 <= w /\ w <= 64 /\ 0 <= m /\ Q (.int (G.roomI w.toNat m)) H
end L2
namespace G
def tk : Nat -> List (Option Int) -> List (Option Int)
  | 0, _ => []
  | w + 1, [] => none :: tk w []
  | w + 1, c :: r => c :: tk w r
def z71 (x : Int) (r : List (Option Int)) : List (Option Int) := if 0 <= x then r.drop x.toNat else List.replicate (-x).toNat none ++ r
def z7o (b at' many : Int) : Int := (if 0 <= at' then b / 2 ^ at'.toNat else b * 2 ^ (-at').toNat) % 2 ^ many.toNat
def atR (r : List (Option Int)) (x : Int) : Option Int := if 0 <= x then (r[x.toNat]?).join else none
end G
namespace G
open PySem
def layR : List (Option Int) -> List (Option Int) -> List (Option Int)
  | u :: us, c :: cs => c.or u :: layR us cs
  | _, _ => []
def loI : List (Option Int) -> Nat
  | [] => 0
  | c :: r => if c.isSome = true then 0 else loI r + 1
def hiI : List (Option Int) -> Nat
  | [] => 0
  | c :: r => if hiI r = 0 then (if c.isSome = true then 1 else 0) else hiI r + 1
def isP (r : List (Option Int)) (i : Nat) : Prop := ((r[i]?).join).isSome = true
end G
namespace G
theorem z58 {r : List (Option Int)} {i : Nat} (h : isP r i) : i < r.length := by
  unfold isP at h
  cases hi : r[i]? with
  | none => rw [hi] at h; cases h
  | some c => exact (List.getElem?_eq_some_iff.mp hi).1
def z3F (w : Nat) (rows : List (List (Option Int))) : List (Option Int) := rows.foldl layR (List.replicate w none)
def anyR (rows : List (List (Option Int))) : List (Option Int) := rows.map fun r => if z0T r = 0 then none else some 0
def z8b (rows : List (List (Option Int))) (n : Nat) : List Nat := (List.range n).filter fun y => decide (zR rows y ≠ 0) where
  zR (rows : List (List (Option Int))) (y : Nat) : Int := z0T ((rows[y]?).getD [])
end G
namespace L2
open G
abbrev Rws := List (List (Option Int))
def z0x (rows : Rws) (x y : Nat) : Option Int := (((rows[y]?).getD [])[x]?).join
def z1o (w h : Nat) (f : Nat -> Nat -> Option Int) : Rws := (List.range h).map fun y => (List.range w).map fun x => f x y
theorem z3i (w h : Nat) (f : Nat -> Nat -> Option Int) : (z1o w h f).length = h := by unfold z1o; rw [List.length_map, List.length_range]
theorem Rect.cell {w h : Nat} {rows : Rws} (R : Rect w h rows) (x y : Nat) : Cell (z0x rows x y) := by
  unfold z0x
  cases hy : rows[y]? with
  | none => exact fun z e => nomatch e
  | some r =>
    show Cell ((r[x]?).join)
    cases hx : r[x]? with
    | none => exact fun z e => nomatch e
    | some c => exact (R.row r (List.mem_of_getElem? hy)).2 c (List.mem_of_getElem? hx)
theorem z1p {w h : Nat} {f : Nat -> Nat -> Option Int} (h1 : 1 <= h) (h2 : h <= 64) (w1 : 1 <= w) (w2 : w <= 64) (hc : ∀ x y, Cell (f x y)) : Rect w h (z1o w h f) :=
  ⟨z3i w h f, h1, h2, w1, w2, fun r hr => by
    unfold z1o at hr
    obtain ⟨y, _, rfl⟩ := List.mem_map.mp hr
    refine ⟨by rw [List.length_map, List.length_range], fun c hc' => ?_⟩
    obtain ⟨x, _, rfl⟩ := List.mem_map.mp hc'
    exact hc x y⟩
def z59 (w h : Nat) (rows : Rws) : Rws := z1o h w fun x y => z0x rows y (h - 1 - x)
def z7p (w h : Nat) (rows : Rws) : Rws := z1o w h fun x y => z0x rows (w - 1 - x) y
def z72 (w h : Nat) (rows : Rws) : Rws := z1o w h fun x y => z0x rows x (h - 1 - y)
theorem Rect.turn {w h : Nat} {rows : Rws} (R : Rect w h rows) : Rect h w (z59 w h rows) := z1p R.w1 R.w2 R.h1 R.h2 fun _ _ => R.cell _ _
theorem Rect.upd {w h : Nat} {rows : Rws} (R : Rect w h rows) : Rect w h (z72 w h rows) := z1p R.h1 R.h2 R.w1 R.w2 fun _ _ => R.cell _ _
end L2
namespace L2
open PySem PySem.Spec PyProof.Rows G
def z7q (i j : Int) : Prop := 0 <= j /\ j <= 1000000 /\ i.natAbs < 2 ^ 1000
def rowAt (rows : List (List (Option Int))) (y : Int) : List (Option Int) := if 0 <= y then (rows[y.toNat]?).getD [] else []
def zAt (zs : List Int) (y : Int) : Int := if 0 <= y then (zs[y.toNat]?).getD 0 else 0
def z7r (rows : List (List (Option Int))) (x y : Int) (w : Nat) : List (Option Int) := (List.range w).map fun (i : Nat) => atR (rowAt rows y) (x + (i : Int))
def cutRows (rows : List (List (Option Int))) (x y : Int) (w h : Nat) : List (List (Option Int)) := (List.range h).map fun (j : Nat) => z7r rows x (y + (j : Int)) w
def z5A : Sp := fun vs H Q _ => ∃ (t : Addr) (zs : List Int) (y : Int), vs = [.ref t, .int y] /\ H t = some (.tup (zs.map V.int)) /\ Q (.int (zAt zs y)) H
def z5B : Sp := fun vs H Q _ => ∃ b a m : Int, vs = [.int b, .int a, .int m] /\ 0 <= b /\ b < 2 ^ 256 /\ -1000 <= a /\ a <= 1000 /\ 0 <= m /\ m <= 1000 /\ Q (.int (z7o b a m)) H
def z7s : Sp := fun vs H Q _ => ∃ p x y w h rows w' h', vs = [.ref p, .int x, .int y, .int w', .int h'] /\ PicAt H p w rows /\ Rect w h rows /\ 1 <= w' /\ w' <= 64 /\ 1 <= h' /\ h' <= 64 /\
  ∀ q H', Same H H' -> PicAt H' q w'.toNat (cutRows rows x y w'.toNat h'.toNat) -> Q (.ref q) H'
end L2
namespace L2
open PySem PySem.Spec PyProof.Rows G
structure Made (H H2 : Hp) (f : Nat -> List (Option Int)) (i : Nat) (qs : List Addr) : Prop where
  same : Same H H2
  len : qs.length = i
  fr : ∀ q ∈ qs, H q = none
  at' : ∀ (j : Nat) q, qs[j]? = some q -> H2 q = some (.lst ((f j).map z0Q))
  nd : qs.Nodup
theorem Made.nil {H : Hp} {f : Nat -> List (Option Int)} : Made H H f 0 [] := ⟨Same.refl _, rfl, (fun _ h => nomatch h), (fun _ _ h => nomatch h), List.nodup_nil⟩
theorem Made.push {H H2 H3 : Hp} {f : Nat -> List (Option Int)} {i : Nat} {qs : List Addr} {l : Addr} (M : Made H H2 f i qs) (s : Same H2 H3) (n : H2 l = none) (g : H3 l = some (.lst ((f i).map z0Q))) : Made H H3 f (i + 1) (qs ++ [l]) where
  same := M.same.trans s
  len := by rw [List.length_append, M.len]; rfl
  fr := fun q hq => by
    rcases List.mem_append.mp hq with h | h
    . exact M.fr q h
    . rw [List.mem_singleton.mp h]
      exact M.same.free n
  at' := fun j q e => by
    have hl := M.len
    by_cases hj : j < qs.length
    . rw [List.getElem?_append_left hj] at e
      exact s _ _ (M.at' j q e)
    . rw [List.getElem?_append_right (by omega)] at e
      cases hk : j - qs.length with
      | zero =>
        rw [hk] at e
        cases e
        have ej : j = i := by omega
        rw [ej]
        exact g
      | succ n =>
        rw [hk] at e
        cases e
  nd := by
    refine List.nodup_append.mpr ⟨M.nd, by simp, fun q hq r hr e => ?_⟩
    rw [List.mem_singleton.mp hr] at e
    obtain ⟨j, hj, ej⟩ := List.mem_iff_getElem.mp hq
    have := M.at' j q (by rw [List.getElem?_eq_getElem hj, ej])
    rw [e, n] at this
    cases this
theorem Made.rows {H H2 : Hp} {f : Nat -> List (Option Int)} {n : Nat} {qs : List Addr} {l : Addr} (M : Made H H2 f n qs) (nl : H2 l = none) : RowsB H (upd H2 l (.lst (qs.map V.ref))) l qs ((List.range n).map f) where
  same := M.same.trans (Same.new nl)
  fl := M.same.free nl
  fp := fun p hp => ⟨M.fr p hp, fun e => by
    obtain ⟨j, hj, ej⟩ := List.mem_iff_getElem.mp hp
    have := M.at' j p (by rw [List.getElem?_eq_getElem hj, ej])
    rw [e, nl] at this
    cases this⟩
  rat := ⟨z06, by rw [M.len, List.length_map, List.length_range], fun i p r e1 e2 => by
    have hi : i < n := by
      have := (List.getElem?_eq_some_iff.mp e1).1
      have := M.len
      omega
    rw [List.getElem?_map, List.getElem?_range hi] at e2
    cases e2
    exact (Same.new nl) _ _ (M.at' i p e1)⟩
theorem PicAt.of {H : Hp} {p : Addr} {w : Nat} {rows rows' : List (List (Option Int))} (h : PicAt H p w rows) (e : rows = rows') : PicAt H p w rows' := e ▸ h
def z8c : Sp := fun vs H Q _ => ∃ (l : Addr) (ps : List Addr) (rows : List (List (Option Int))) (w h : Nat), vs = [.int (w : Int), .ref l] /\ RowsAt H l ps rows /\ Rect w h rows /\ ∀ p H', Same H H' -> H p = none -> PicAt H' p w rows -> Q (.ref p) H'
def z6J : Sp := fun vs H Q _ => ∃ (l : Addr) (x : Nat) (ps : List Addr) (rows : List (List (Option Int))) (w h : Nat), vs = [.ref l, .int (x : Int)] /\ RowsAt H l ps rows /\ Rect w h rows /\ x < w /\ ∀ l' H', Same H H' -> H l' = none -> H' l' = some (.lst (((List.range h).map fun i => z0x rows x (h - 1 - i)).map z0Q)) -> Q (.ref l') H'
def z5a : Sp := fun vs H Q _ => ∃ p w h rows, vs = [.ref p] /\ PicAt H p w rows /\ Rect w h rows /\ ∀ q H', Same H H' -> PicAt H' q h (z59 w h rows) -> Q (.ref q) H'
def z4b : Sp := fun vs H Q _ => ∃ p w h rows, vs = [.ref p] /\ PicAt H p w rows /\ Rect w h rows /\ ∀ q H', Same H H' -> PicAt H' q w (z7p w h rows) -> Q (.ref q) H'
def z5C : Sp := fun vs H Q _ => ∃ p w h rows, vs = [.ref p] /\ PicAt H p w rows /\ Rect w h rows /\ ∀ q H', Same H H' -> PicAt H' q w (z72 w h rows) -> Q (.ref q) H'
theorem RowsAt.cell {H : Hp} {l : Addr} {ps : List Addr} {rows : List (List (Option Int))} {w h : Nat} (a : RowsAt H l ps rows) (R : Rect w h rows) {x y : Nat} (hx : x < w) (hy : y < h) :
    ∃ p xs, ps[y]? = some p /\ L2.atI (ps.map V.ref) (y : Int) = some (.ref p) /\ H p = some (.lst xs) /\ L2.atI xs (x : Int) = some (z0Q (z0x rows x y)) := by
  have hR := R.len
  have hl : y < rows.length := by omega
  obtain ⟨p, e0, g⟩ := a.at hl
  have e1 : L2.atI (ps.map V.ref) (y : Int) = some (.ref p) := z0S (by rw [List.getElem?_map, e0]; rfl)
  have hw := (R.row0 hl).1
  refine ⟨p, _, e0, e1, g, z0S ?_⟩
  have e : z0x rows x y = (rows[y]'hl)[x]'(by omega) := by
    unfold z0x
    rw [List.getElem?_eq_getElem hl]
    show ((rows[y]'hl)[x]?).join = _
    rw [List.getElem?_eq_getElem (by omega)]
    rfl
  rw [List.getElem?_map, List.getElem?_eq_getElem (by omega), e]
  rfl
abbrev z7t (h : Heap) (T : Addr) (x y v : Value) : Prop := h.get? T = some { cls := .type "tuple", data := .seq #[x, y, v] }
structure Ap3 (z TI TO i1 i2 i3 l1 l2 l3 : Addr) : Prop where
  TIz : TI ≠ z
  TOz : TO ≠ z
  i1z : i1 ≠ z
  i2z : i2 ≠ z
  i3z : i3 ≠ z
  TITO : TI ≠ TO
  TIi1 : TI ≠ i1
  TIi2 : TI ≠ i2
  TIi3 : TI ≠ i3
  TOi1 : TO ≠ i1
  TOi2 : TO ≠ i2
  TOi3 : TO ≠ i3
  i12 : i1 ≠ i2
  i13 : i1 ≠ i3
  i23 : i2 ≠ i3
  l1z : l1 ≠ z
  l2z : l2 ≠ z
  l3z : l3 ≠ z
  l2i1 : l2 ≠ i1
  l2TO : l2 ≠ TO
  l3i1 : l3 ≠ i1
  l3i2 : l3 ≠ i2
  l3TO : l3 ≠ TO
section
variable {prog : Program} {w : World} {A : Around} {E : Value -> Shared -> Prop} {s : Shared}
abbrev zw1 (h : Heap) (l1 : Addr) : Heap := h.push { cls := .type "tuple_iterator", data := .fields #[.ref l1, .int 0 0] }
abbrev zw2 (h : Heap) (l1 l2 : Addr) : Heap := (zw1 h l1).push { cls := .type "tuple_iterator", data := .fields #[.ref l2, .int 0 0] }
abbrev zw3 (h : Heap) (l1 l2 l3 : Addr) : Heap := (zw2 h l1 l2).push { cls := .type "tuple_iterator", data := .fields #[.ref l3, .int 0 0] }
abbrev zw4 (h : Heap) (l1 l2 l3 : Addr) : Heap := (zw3 h l1 l2 l3).push { cls := .type "tuple", data := .seq #[.ref h.objs.size, .ref (zw1 h l1).objs.size, .ref (zw2 h l1 l2).objs.size] }
abbrev zw5 (h : Heap) (l1 l2 l3 : Addr) : Heap := (zw4 h l1 l2 l3).push { cls := .type "tuple", data := .seq #[.none, .none, .none] }
abbrev zw6 (h : Heap) (l1 l2 l3 : Addr) : Heap := (zw5 h l1 l2 l3).push { cls := .type "zip", data := .fields #[.none, .bool false, .bool false, .ref (zw3 h l1 l2 l3).objs.size, .ref (zw4 h l1 l2 l3).objs.size] }
end
def Itw (K : PySem.W.Frag) (a b c : Addr) (xs ys zs : List V) : It :=
  ⟨fun i H => SqT K H a xs /\ SqT K H b ys /\ SqT K H c zs /\ i < xs.length /\ i < ys.length /\ i < zs.length, fun i H x H' => ∃ T u v r, H T = none /\ x = .ref T /\ H' = upd H T (.tup [u, v, r]) /\ xs[i]? = some u /\ ys[i]? = some v /\ zs[i]? = some r,
    fun i H => SqT K H a xs /\ xs.length <= i⟩
section
variable {X : Cx}
def z7u (K : PySem.W.Frag) (ta : TA) : TI := fun σ H R => ta σ H fun vs H1 => ∃ a b c xs ys zs, vs = [.ref a, .ref b, .ref c] /\ SqT K H1 a xs /\ SqT K H1 b ys /\ SqT K H1 c zs /\ R (Itw K a b c xs ys zs) H1
end
section
variable {X : Cx}
def z8d (K : PySem.W.Frag) : R2 := fun x y H Q => ∃ (a b : Addr) (xs : List V), x = .ref a /\ y = .ref b /\ SqL K H a xs /\ SqL K H b [] /\ Q (.bl (decide (xs.length = 0))) H
end
structure Df2 (K : PySem.W.Frag) (mg : Str -> Option Value) (x : Str) (st : Stmt) (ps : List Str) (f : Addr) (fd : FuncData) (T : Addr) (d e : Int) : Prop where
  F : FunD K x x st f fd T
  b : Binds K fd ps []
  b1 : ∃ t, Binds K fd ps [.int e t]
  b2 : ∃ t u, Binds K fd ps [.int d t, .int e u]
  m : mg x = some (.ref f)
section
variable {P : Program} {w : World} {K : PySem.W.Frag} {mg : Str -> Option Value} {base : Heap} {x : Str} {st : Stmt} {ps : List Str} {f T : Addr} {fd : FuncData} {k : Nat} {sp : Sp} {d e : Int}
theorem Df2.ow (D : Df2 K mg x st ps f fd T d e) (F : FnOk P w K mg base CX0 k f fd ps sp) : Ow P w K mg base x ps k sp := ⟨f, fd, D.m, D.F.kp, D.b, F⟩
end
end L2
namespace L2
open PySem PySem.Spec PyProof.Rows G
def z4T : Sp := fun vs H Q _ => ∃ w lo up m : Int, vs = [.int w, .int lo, .int up, .int m] /\ 0 <= w /\ w <= 64 /\ 0 <= m /\ Q (.int (Builtin.bitOr (Builtin.bitAnd lo (Builtin.bitNot (roomI w.toNat m))) up)) H
def z3G (us cs : Rws) : Rws := List.zipWith layR us cs
def llR (w w2 h2 : Nat) (rows rows2 : Rws) (x y : Int) (j : Nat) : List (Option Int) := (List.range w).map fun (i : Nat) => (look w2 h2 rows2 ((i : Int) - x) ((j : Int) - y)).or (z0x rows i j)
def z73 : Sp := fun vs H Q _ => ∃ (p o : Addr) (x y : Int) (w h w2 h2 : Nat) (rows rows2 : Rws), vs = [.ref p, .ref o, .int x, .int y] /\ PicAt H p w rows /\ Rect w h rows /\ PicAt H o w2 rows2 /\ Rect w2 h2 rows2 /\
  ∀ q H', Same H H' -> PicAt H' q w (z3G rows (cutRows rows2 (-x) (-y) w h)) -> Q (.ref q) H'
def z6K : Sp := fun vs H Q _ => ∃ (l m : Addr) (x y : Int) (w h w2 h2 : Nat) (ps ps2 : List Addr) (rows rows2 : Rws), vs = [.ref l, .ref m, .int x, .int y] /\ RowsAt H l ps rows /\ Rect w h rows /\ RowsAt H m ps2 rows2 /\ Rect w2 h2 rows2 /\
  ∀ l' ps' H', Same H H' -> RowsAt H' l' ps' (z3G rows (cutRows rows2 (-x) (-y) w h)) -> Q (.ref l') H'
def z74 : Sp := fun vs H Q _ => ∃ (p : Addr) (w h : Nat) (rows : Rws), vs = [.ref p] /\ PicAt H p w rows /\ Rect w h rows /\ Q (.int (z0T (z3F w rows))) H
def z75 (w : Nat) (rows : Rws) : Option (List Int) := if z0T (z3F w rows) = 0 then none else some [(loI (z3F w rows) : Int), (loI (anyR rows) : Int), (hiI (z3F w rows) : Int) - (loI (z3F w rows) : Int), (hiI (anyR rows) : Int) - 1 - (loI (anyR rows) : Int) + 1]
def BoxV (H : Hp) (v : V) : Option (List Int) -> Prop
  | none => v = .non
  | some zs => ∃ t, v = .ref t /\ H t = some (.tup (zs.map V.int))
theorem BoxV.mono {H H' : Hp} {v : V} {b : Option (List Int)} (s : Same H H') (h : BoxV H v b) : BoxV H' v b := by
  cases b with
  | none => exact h
  | some zs => obtain ⟨t, e, g⟩ := h; exact ⟨t, e, s _ _ g⟩
def z7v : Sp := fun vs H Q _ => ∃ (p : Addr) (w h : Nat) (rows : Rws), vs = [.ref p] /\ PicAt H p w rows /\ Rect w h rows /\ ∀ v H', Same H H' -> BoxV H' v (z75 w rows) -> Q v H'
def z76 : Sp := fun vs H Q _ => ∃ (l : Addr) (ps : List Addr) (w h : Nat) (rows : Rws), vs = [.ref l] /\ RowsAt H l ps rows /\ Rect w h rows /\ ∀ v H', Same H H' -> BoxV H' v (z75 w rows) -> Q v H'
def pt (rows : Rws) (x y : Nat) : Prop := (z0x rows x y).isSome = true
theorem z6L {w h : Nat} {rows : Rws} (R : Rect w h rows) {x y : Nat} (p : pt rows x y) : x < w /\ y < h := by
  have hR := R.len
  unfold pt z0x at p
  cases hr : rows[y]? with
  | none =>
    rw [hr] at p
    have p' : ((([] : List (Option Int))[x]?).join).isSome = true := p
    cases x <;> cases p'
  | some r =>
    rw [hr] at p
    have hw := (R.row r (List.mem_of_getElem? hr)).1
    have hy := (List.getElem?_eq_some_iff.mp hr).1
    have hx := z58 (r := r) (i := x) p
    omega
structure Gone (w : Nat) (rows : Rws) (y x : Nat) (A D : List Int) : Prop where
  len : A.length = D.length
  small : A.length <= y * w + x
  a : ∀ z, z ∈ A ↔ ∃ x' y' : Nat, (y' < y \/ (y' = y /\ x' < x)) /\ pt rows x' y' /\ z = (x' : Int)
  d : ∀ z, z ∈ D ↔ ∃ x' y' : Nat, (y' < y \/ (y' = y /\ x' < x)) /\ pt rows x' y' /\ z = (y' : Int)
theorem Gone.nil {w : Nat} {rows : Rws} : Gone w rows 0 0 [] [] :=
  ⟨rfl, Nat.zero_le _, fun z => ⟨(fun h => nomatch h), fun ⟨x', y', h, _⟩ => by omega⟩, fun z => ⟨(fun h => nomatch h), fun ⟨x', y', h, _⟩ => by omega⟩⟩
theorem Gone.hole {w : Nat} {rows : Rws} {y x : Nat} {A D : List Int} (g : Gone w rows y x A D) (n : z0x rows x y = none) : Gone w rows y (x + 1) A D := by
  have np : ¬ pt rows x y := fun p => by unfold pt at p; rw [n] at p; cases p
  have key : ∀ x' y' : Nat, pt rows x' y' -> ((y' < y \/ (y' = y /\ x' < x)) ↔ (y' < y \/ (y' = y /\ x' < x + 1))) := fun x' y' p => by
    constructor
    . rintro (h | ⟨h1, h2⟩)
      . exact .inl h
      . exact .inr ⟨h1, by omega⟩
    . rintro (h | ⟨h1, h2⟩)
      . exact .inl h
      . by_cases e : x' = x
        . rw [e, h1] at p
          exact absurd p np
        . exact .inr ⟨h1, by omega⟩
  refine ⟨g.len, by have := g.small; omega, fun z => (g.a z).trans ⟨?_, ?_⟩, fun z => (g.d z).trans ⟨?_, ?_⟩⟩
  all_goals
    rintro ⟨x', y', h, p, e⟩
    exact ⟨x', y', by first | exact (key x' y' p).mp h | exact (key x' y' p).mpr h, p, e⟩
theorem Gone.put {w : Nat} {rows : Rws} {y x : Nat} {A D : List Int} (g : Gone w rows y x A D) {c : Int} (n : z0x rows x y = some c) : Gone w rows y (x + 1) (A ++ [(x : Int)]) (D ++ [(y : Int)]) := by
  have p0 : pt rows x y := by unfold pt; rw [n]; rfl
  have l := g.len
  refine ⟨by rw [List.length_append, List.length_append, l]; rfl, by rw [List.length_append]; have := g.small; show _ + 1 <= _; omega, fun z => ?_, fun z => ?_⟩
  . rw [List.mem_append, g.a z, List.mem_singleton]
    constructor
    . rintro (⟨x', y', h, p, e⟩ | e)
      . exact ⟨x', y', by omega, p, e⟩
      . exact ⟨x, y, by omega, p0, e⟩
    . rintro ⟨x', y', h, p, e⟩
      by_cases q : y' < y \/ (y' = y /\ x' < x)
      . exact .inl ⟨x', y', q, p, e⟩
      . have : x' = x := by omega
        rw [this] at e
        exact .inr e
  . rw [List.mem_append, g.d z, List.mem_singleton]
    constructor
    . rintro (⟨x', y', h, p, e⟩ | e)
      . exact ⟨x', y', by omega, p, e⟩
      . exact ⟨x, y, by omega, p0, e⟩
    . rintro ⟨x', y', h, p, e⟩
      by_cases q : y' < y \/ (y' = y /\ x' < x)
      . exact .inl ⟨x', y', q, p, e⟩
      . have : y' = y := by omega
        rw [this] at e
        exact .inr e
theorem Gone.row {w h : Nat} {rows : Rws} (R : Rect w h rows) {y : Nat} {A D : List Int} (g : Gone w rows y w A D) : Gone w rows (y + 1) 0 A D := by
  have key : ∀ x' y' : Nat, pt rows x' y' -> ((y' < y \/ (y' = y /\ x' < w)) ↔ (y' < y + 1 \/ (y' = y + 1 /\ x' < 0))) := fun x' y' p => by
    have := (z6L R p).1
    omega
  refine ⟨g.len, by have := g.small; rw [Nat.add_mul]; omega, fun z => (g.a z).trans ⟨?_, ?_⟩, fun z => (g.d z).trans ⟨?_, ?_⟩⟩
  all_goals
    rintro ⟨x', y', h, p, e⟩
    exact ⟨x', y', by first | exact (key x' y' p).mp h | exact (key x' y' p).mpr h, p, e⟩
end L2
namespace L2
open PySem PySem.Spec PyProof.Rows G
def z1Y (K : PySem.W.Frag) : Sp := fun vs H Q _ => ∃ (a : Addr) (ns : List Int) (k p m : Int), vs = [.ref a, .int k, .int p, .int m] /\ SqL K H a (ns.map V.int) /\ 0 <= k /\ k < 1000000 /\ 0 < p /\ 0 < m /\ ∀ r, 0 <= r -> r < m -> Q (.int r) H
def z6M (K : PySem.W.Frag) : Sp := fun vs H Q _ => ∃ (a : Addr) (ns : List Int) (k : Int), vs = [.ref a, .int k] /\ SqL K H a (ns.map V.int) /\ 0 <= k /\ k < 100000 /\ ∀ c, Cell c -> Q (z0Q c) H
def z6N : Sp := fun vs H Q _ => ∃ (p d : Addr) (w h : Nat) (rows : Rws), vs = [.ref p, .ref d] /\ PicAt H p w rows /\ PicAt H d w rows /\ Rect w h rows /\ ∀ H', Same H H' -> Q (.bl true) H'
def z5D (w h : Nat) (rows : Rws) (dx dy : Int) : Rws := z1o w h fun i j => look w h rows ((i : Int) + dx) ((j : Int) + dy)
def z77 : Sp := fun vs H Q _ => ∃ (p : Addr) (w h : Nat) (rows : Rws) (dx dy : Int), vs = [.ref p, .int dx, .int dy] /\ PicAt H p w rows /\ Rect w h rows /\ ∀ q H', Same H H' -> PicAt H' q w (z5D w h rows dx dy) -> Q (.ref q) H'
def z78 : Sp := fun vs H Q _ => ∃ (l : Addr) (ps : List Addr) (w h : Nat) (rows : Rws) (dx dy : Int), vs = [.ref l, .int dx, .int dy] /\ RowsAt H l ps rows /\ Rect w h rows /\ ∀ q H', Same H H' -> PicAt H' q w (z5D w h rows dx dy) -> Q (.ref q) H'
abbrev Bx := Int × Int × Int × Int
def bxV (b : Bx) : List V := [.int b.1, .int b.2.1, .int b.2.2.1, .int b.2.2.2]
def z7w (b : Bx) (i j : Int) : Bool := (decide (b.1 <= i) && decide (i < b.1 + b.2.2.1)) && (decide (b.2.1 <= j) && decide (j < b.2.1 + b.2.2.2))
def z7x (w h : Nat) (dx dy : Int) (i j : Int) : Bool := !(decide (0 <= i + dx) && decide (i + dx < w)) || !(decide (0 <= j + dy) && decide (j + dy < h))
def z79 (w h : Nat) (b : Bx) : Prop := 1 <= b.2.2.1 /\ 1 <= b.2.2.2 /\ 0 <= b.1 /\ 0 <= b.2.1 /\ b.1 + b.2.2.1 <= w /\ b.2.1 + b.2.2.2 <= h
structure FreshOk (w h : Nat) (dx dy : Int) (bs : List Bx) : Prop where
  len : bs.length <= 2
  box : ∀ b ∈ bs, z79 w h b
  cnt : ∀ i j : Nat, i < w -> j < h -> bs.countP (fun b => z7w b i j) = if z7x w h dx dy i j = true then 1 else 0
structure BxsAt (H : Hp) (l : Addr) (ts : List Addr) (bs : List Bx) : Prop where
  lst : H l = some (.lst (ts.map V.ref))
  len : ts.length = bs.length
  at' : ∀ (i : Nat) t b, ts[i]? = some t -> bs[i]? = some b -> H t = some (.tup (bxV b))
theorem BxsAt.mono {H H' : Hp} {l : Addr} {ts : List Addr} {bs : List Bx} (s : Same H H') (h : BxsAt H l ts bs) : BxsAt H' l ts bs := ⟨s _ _ h.lst, h.len, fun i t b e1 e2 => s _ _ (h.at' i t b e1 e2)⟩
def z6O : Sp := fun vs H Q _ => ∃ (w h : Nat) (dx dy : Int), vs = [.int w, .int h, .int dx, .int dy] /\ 1 <= w /\ w <= 64 /\ 1 <= h /\ h <= 64 /\ ∀ l ts bs H', Same H H' -> H l = none -> BxsAt H' l ts bs -> FreshOk w h dx dy bs -> Q (.ref l) H'
def z5b : Sp := fun vs H Q _ => ∃ (t : Addr) (b : Bx) (w h : Nat), vs = [.ref t, .int w, .int h] /\ H t = some (.tup (bxV b)) /\ z79 w h b /\ ∀ H', Same H H' -> Q (.bl true) H'
def z5c : Sp := fun vs H Q _ => ∃ (l : Addr) (ts : List Addr) (bs : List Bx) (w h : Nat) (dx dy : Int), vs = [.ref l, .int w, .int h, .int dx, .int dy] /\ w <= 64 /\ h <= 64 /\ BxsAt H l ts bs /\ FreshOk w h dx dy bs /\ ∀ H', Same H H' -> Q (.bl true) H'
def z7A (K : PySem.W.Frag) : Sp := fun vs H Q _ => ∃ (a : Addr) (ns : List Int) (k s : Int), vs = [.ref a, .int k, .int s] /\ SqL K H a (ns.map V.int) /\ 0 <= k /\ k < 1000 /\ 0 <= s /\ s <= 64 /\ ∀ z, Q (.int z) H
end L2
namespace L2
open PySem PySem.Spec PyProof.Rows G
def z4c (z : Int) : Int := if z < 0 then -z else z
def bxA (w h : Nat) (dx : Int) : List Bx := if 0 < z4c dx then [(if 0 < dx then (w : Int) - dx else 0, 0, z4c dx, (h : Int))] else []
def bxB (w h : Nat) (dx dy : Int) : List Bx := if 0 < z4c dy then [(if 0 < dx then 0 else z4c dx, if 0 < dy then (h : Int) - dy else 0, (w : Int) - z4c dx, z4c dy)] else []
def Sc (x : V) : Prop := x = .non \/ (∃ b, x = .bl b) \/ (∃ i, x = .int i) \/ (∃ z, x = .str z) \/ ∃ a, x = .ref a
theorem Sc.int (i : Int) : Sc (.int i) := .inr (.inr (.inl ⟨i, rfl⟩))
theorem Sc.non : Sc .non := .inl rfl
theorem Sc.str (z : Str) : Sc (.str z) := .inr (.inr (.inr (.inl ⟨z, rfl⟩)))
theorem Sc.ref (a : Addr) : Sc (.ref a) := .inr (.inr (.inr (.inr ⟨a, rfl⟩)))
def Eqv : Nat -> Hp -> V -> V -> Prop
  | 0, _, x, y => x = y /\ Sc x
  | n + 1, H, x, y => (x = y /\ Sc x) \/ ∃ a b xs ys, x = .ref a /\ y = .ref b /\ ((H a = some (.lst xs) /\ H b = some (.lst ys)) \/ (H a = some (.tup xs) /\ H b = some (.tup ys))) /\ xs.length = ys.length /\ ∀ (i : Nat) u v, xs[i]? = some u -> ys[i]? = some v -> Eqv n H u v
theorem Eqv.same {n : Nat} {H : Hp} {x : V} (h : Sc x) : Eqv n H x x := by
  cases n with
  | zero => exact ⟨rfl, h⟩
  | succ n => exact .inl ⟨rfl, h⟩
theorem Eqv.mono {H H' : Hp} (s : Same H H') : ∀ {n : Nat} {x y : V}, Eqv n H x y -> Eqv n H' x y
  | 0, _, _, h => h
  | n + 1, _, _, h => by
    rcases h with h | ⟨a, b, xs, ys, e1, e2, e3, e5, e6⟩
    . exact .inl h
    . refine .inr ⟨a, b, xs, ys, e1, e2, ?_, e5, fun i u v h1 h2 => (e6 i u v h1 h2).mono s⟩
      rcases e3 with ⟨p, q⟩ | ⟨p, q⟩
      . exact .inl ⟨s _ _ p, s _ _ q⟩
      . exact .inr ⟨s _ _ p, s _ _ q⟩
theorem z1q : ∀ {xs : List V} {its : List Value} {j : Nat} {v : Value}, Vals xs its -> its[j]? = some v -> ∃ x, xs[j]? = some x /\ RelV x v
  | _, _, _, _, .nil, e => by simp at e
  | _, _, 0, _, .cons r _, e => by
    simp at e
    exact ⟨_, rfl, e ▸ r⟩
  | _, _, j + 1, _, .cons _ rs, e => z1q (j := j) rs (by simpa using e)
theorem z5E {A : Around} {k : Nat} (hr : Room k A) : A.units + 9 < cLine := by
  have := hr.un
  omega
section
variable {X : Cx} {pins : List (Addr × Obj)} {σ : St} {H : Hp} {s : Shared} {A : Around}
theorem z2O {a b : Addr} {xs ys : List V} (hu : A.units < cLine) (I : Inv X pins σ H s) (ha : H a = some (.lst xs)) (hb : H b = some (.lst ys)) (hl : xs.length = ys.length)
    (he : ∀ (j : Nat) x y vx vy, xs[j]? = some x -> ys[j]? = some y -> RelV x vx -> RelV y vy -> SeqAt.EqAt A.in1 s vx vy true) : SeqAt.RcAt A s (.ref a) (.ref b) true /\ SeqAt.RcNeAt A s (.ref a) (.ref b) false := by
  obtain ⟨its, r1, p1, _⟩ := I.list (SqL.of ha)
  obtain ⟨its2, r2, p2, _⟩ := I.list (SqL.of hb)
  have l1 := r1.length
  have l2 := r2.length
  have hsz : its.toArray.size = its2.toArray.size := by rw [List.size_toArray, List.size_toArray]; omega
  have hx : ∀ (j : Nat) (h1 : j < its.toArray.size) (h2 : j < its2.toArray.size), SeqAt.EqAt A.in1 s its.toArray[j] its2.toArray[j] ((fun _ => true) j) := fun j h1 h2 => by
    have i1 : j < its.length := by simpa using h1
    have i2 : j < its2.length := by simpa using h2
    obtain ⟨x, ex, rx⟩ := z1q r1 (List.getElem?_eq_getElem i1)
    obtain ⟨y, ey, ry⟩ := z1q r2 (List.getElem?_eq_getElem i2)
    have := he j x y _ _ ex ey rx ry
    simpa using this
  have e : ((List.range its.toArray.size).all fun _ => true) = true := by simp
  have q1 := SeqAt.RcAt.lists (A := A) (s := s) (e := fun _ => true) p1.isList p2.isList hsz hu hx
  have q2 := SeqAt.RcNeAt.lists (A := A) (s := s) (e := fun _ => true) p1.isList p2.isList hsz hu hx
  rw [e] at q1 q2
  exact ⟨q1, q2⟩
theorem z3H {a b : Addr} {xs ys : List V} (hu : A.units < cLine) (I : Inv X pins σ H s) (ha : H a = some (.tup xs)) (hb : H b = some (.tup ys)) (hl : xs.length = ys.length)
    (he : ∀ (j : Nat) x y vx vy, xs[j]? = some x -> ys[j]? = some y -> RelV x vx -> RelV y vy -> SeqAt.EqAt A.in1 s vx vy true) : SeqAt.RcAt A s (.ref a) (.ref b) true /\ SeqAt.RcNeAt A s (.ref a) (.ref b) false := by
  obtain ⟨its, r1, p1, _⟩ := I.tuple (SqT.of ha)
  obtain ⟨its2, r2, p2, _⟩ := I.tuple (SqT.of hb)
  have l1 := r1.length
  have l2 := r2.length
  have hx : ∀ (j : Nat) (h1 : j < its.toArray.size) (h2 : j < its2.toArray.size), SeqAt.EqAt A.in1 s its.toArray[j] its2.toArray[j] ((fun _ => true) j) := fun j h1 h2 => by
    have i1 : j < its.length := by simpa using h1
    have i2 : j < its2.length := by simpa using h2
    obtain ⟨x, ex, rx⟩ := z1q r1 (List.getElem?_eq_getElem i1)
    obtain ⟨y, ey, ry⟩ := z1q r2 (List.getElem?_eq_getElem i2)
    have := he j x y _ _ ex ey rx ry
    simpa using this
  have e1 : ((List.range (min its.toArray.size its2.toArray.size)).all (fun _ => true) && its.toArray.size == its2.toArray.size) = true := by
    rw [List.size_toArray, List.size_toArray, <- l1, <- l2, hl]
    simp
  have q1 := SeqAt.RcAt.tuples (A := A) (s := s) (e := fun _ => true) p1 p2 hu hx
  have q2 := SeqAt.RcNeAt.tuples (A := A) (s := s) (e := fun _ => true) p1 p2 hu hx
  rw [e1] at q1 q2
  exact ⟨q1, q2⟩
theorem z5F {n : Nat} : ∀ {A : Around} {x y : V} {vx vy : Value}, A.units + n < cLine -> Inv X pins σ H s -> Eqv n H x y -> RelV x vx -> RelV y vy -> SeqAt.EqAt A s vx vy true := by
  have z4s : ∀ {A : Around} {x : V} {vx vy : Value}, Sc x -> RelV x vx -> RelV x vy -> SeqAt.EqAt A s vx vy true := fun {A x vx vy} h rx ry => by
    rcases h with rfl | ⟨b, rfl⟩ | ⟨i, rfl⟩ | ⟨z, rfl⟩ | ⟨a, rfl⟩
    . cases (show vx = Value.none from rx)
      cases (show vy = Value.none from ry)
      exact SeqAt.EqAt.same _
    . cases (show vx = Value.bool b from rx)
      cases (show vy = Value.bool b from ry)
      exact SeqAt.EqAt.same _
    . obtain ⟨t1, rfl⟩ := rx
      obtain ⟨t2, rfl⟩ := ry
      have := SeqAt.EqAt.int_int (A := A) (s := s) i t1 i t2
      rw [beq_self_eq_true] at this
      exact this
    . obtain ⟨t1, rfl⟩ := rx
      obtain ⟨t2, rfl⟩ := ry
      have := SeqAt.EqAt.str_str (A := A) (s := s) z t1 z t2
      rw [beq_self_eq_true] at this
      exact this
    . cases (show vx = Value.ref a from rx)
      cases (show vy = Value.ref a from ry)
      exact SeqAt.EqAt.same _
  induction n with
  | zero =>
    intro A x y vx vy hu I h rx ry
    obtain ⟨rfl, hs⟩ := h
    exact z4s hs rx ry
  | succ n ih =>
    intro A x y vx vy hu I h rx ry
    rcases h with ⟨rfl, hs⟩ | ⟨a, b, xs, ys, rfl, rfl, e3, e5, e6⟩
    . exact z4s hs rx ry
    . cases (show vx = Value.ref a from rx)
      cases (show vy = Value.ref b from ry)
      by_cases e : a = b
      . subst e
        exact SeqAt.EqAt.same _
      . refine SeqAt.EqAt.of_refs e ?_
        have hx : ∀ (j : Nat) x y vx vy, xs[j]? = some x -> ys[j]? = some y -> RelV x vx -> RelV y vy -> SeqAt.EqAt A.in1 s vx vy true := fun j x y vx vy h1 h2 r1 r2 => ih (A := A.in1) (show A.units + 1 + n < cLine by omega) I (e6 j x y h1 h2) r1 r2
        rcases e3 with ⟨p, q⟩ | ⟨p, q⟩
        . exact (z2O (by omega) I p q e5 hx).1
        . exact (z3H (by omega) I p q e5 hx).1
end
def EqT (n : Nat) (H : Hp) (x y : V) : Prop := ∃ a b xs ys, x = .ref a /\ y = .ref b /\ ((H a = some (.lst xs) /\ H b = some (.lst ys)) \/ (H a = some (.tup xs) /\ H b = some (.tup ys))) /\ xs.length = ys.length /\ ∀ (i : Nat) u v, xs[i]? = some u -> ys[i]? = some v -> Eqv n H u v
theorem EqT.mono {n : Nat} {H H' : Hp} {x y : V} (s : Same H H') (h : EqT n H x y) : EqT n H' x y := by
  obtain ⟨a, b, xs, ys, e1, e2, e3, e5, e6⟩ := h
  refine ⟨a, b, xs, ys, e1, e2, ?_, e5, fun i u v h1 h2 => (e6 i u v h1 h2).mono s⟩
  rcases e3 with ⟨p, q⟩ | ⟨p, q⟩
  . exact .inl ⟨s _ _ p, s _ _ q⟩
  . exact .inr ⟨s _ _ p, s _ _ q⟩
theorem EqT.copy {n : Nat} {H : Hp} {a b : Addr} {xs : List V} (ha : H a = some (.lst xs)) (hb : H b = some (.lst xs)) (h : ∀ x ∈ xs, Sc x) : EqT n H (.ref a) (.ref b) := ⟨a, b, _, _, rfl, rfl, .inl ⟨ha, hb⟩, rfl, fun i u v h1 h2 => by
  rw [h1] at h2
  cases h2
  exact Eqv.same (h u (List.mem_of_getElem? h1))⟩
def z8e (n : Nat) : R2 := fun x y H Q => EqT n H x y /\ Q (.bl true) H
def z7y (n : Nat) : R2 := fun x y H Q => EqT n H x y /\ Q (.bl false) H
section
variable {X : Cx} {n : Nat}
theorem z5G (hu : X.A.units + 9 < cLine) (hn : n <= 8 := by decide) : OpR X (compareOp .NotEq) (z7y n) := by
  intro pins s σ H x y v u Q I rx ry h0
  obtain ⟨⟨a, b, xs, ys, rfl, rfl, e3, e5, e6⟩, q⟩ := h0
  cases rx
  cases ry
  have hx : ∀ (j : Nat) x y vx vy, xs[j]? = some x -> ys[j]? = some y -> RelV x vx -> RelV y vy -> SeqAt.EqAt X.A.in1 s vx vy true := fun j x y vx vy h1 h2 r1 r2 => z5F (A := X.A.in1) (show X.A.units + 1 + n < cLine by omega) I (e6 j x y h1 h2) r1 r2
  rcases e3 with ⟨p, p2⟩ | ⟨p, p2⟩
  . exact (z2O (by omega) I p p2 e5 hx).2 X.prog X.w X.xe _ ⟨.bl _, H, I, rfl, q⟩
  . exact (z3H (by omega) I p p2 e5 hx).2 X.prog X.w X.xe _ ⟨.bl _, H, I, rfl, q⟩
end
end L2
namespace L2
open G
def z5H (w h : Nat) (b : Nat -> Nat -> Bool) : Option (Nat × Nat) :=
  match (List.range h).find? (fun j => (List.range w).any fun i => b i j) with
  | none => none
  | some j => ((List.range w).find? fun i => b i j).map fun i => (i, j)
structure Plc where
  w : Nat
  h : Nat
  rows : List (List (Option Int))
  x : Int
  y : Int
def z6P (A B : Plc) (i j : Nat) : Bool := (z0x A.rows i j).isSome && (look B.w B.h B.rows (A.x + i - B.x) (A.y + j - B.y)).isSome
def z7z (A B : Plc) : Option (Int × Int) := (z5H A.w A.h (z6P A B)).map fun p => (A.x + (p.1 : Int), A.y + (p.2 : Int))
def z80 (us cs : List (Option Int)) : List (Option Int) := List.zipWith (fun a c => if a.isSome && c.isSome then some 0 else none) us cs
end L2
namespace L2
open PySem PySem.Spec PyProof.Rows G
def z81 : Sp := fun vs H Q _ => ∃ r : List (Option Int), vs = [.int (z0T r)] /\ z0T r ≠ 0 /\ Q (.int (loI r)) H
def PlAt (H : Hp) (t : Addr) (A : Plc) : Prop := ∃ p, H t = some (.tup [.ref p, .int A.x, .int A.y]) /\ PicAt H p A.w A.rows
theorem PlAt.mono {H H' : Hp} {t : Addr} {A : Plc} (s : Same H H') (h : PlAt H t A) : PlAt H' t A := by
  obtain ⟨p, h1, h2⟩ := h
  exact ⟨p, s _ _ h1, h2.mono s⟩
def LPlAt (H : Hp) (t : Addr) (A : Plc) : Prop := ∃ l ps, H t = some (.tup [.ref l, .int A.x, .int A.y]) /\ RowsAt H l ps A.rows
theorem LPlAt.mono {H H' : Hp} {t : Addr} {A : Plc} (s : Same H H') (h : LPlAt H t A) : LPlAt H' t A := by
  obtain ⟨l, ps, h1, h2⟩ := h
  exact ⟨l, ps, s _ _ h1, h2.mono s⟩
def z5d (A B : Plc) : Option (List Int) := (z7z A B).map fun p => [p.1, p.2]
abbrev z2f (A : Plc) : Prop := Rect A.w A.h A.rows
def z6Q : Sp := fun vs H Q _ => ∃ (s t : Addr) (A B : Plc), vs = [.ref s, .ref t] /\ PlAt H s A /\ PlAt H t B /\ z2f A /\ z2f B /\ ∀ v H', Same H H' -> BoxV H' v (z5d A B) -> Q v H'
def z5I : Sp := fun vs H Q _ => ∃ (l s m t : Addr) (ps qs : List Addr) (A B : Plc), vs = [.ref l, .ref s, .ref m, .ref t] /\ RowsAt H l ps A.rows /\ H s = some (.tup [.int A.x, .int A.y]) /\ RowsAt H m qs B.rows /\ H t = some (.tup [.int B.x, .int B.y]) /\ z2f A /\ z2f B /\ ∀ v H', Same H H' -> BoxV H' v (z5d A B) -> Q v H'
def z5e : Sp := fun vs H Q _ => ∃ (s t : Addr) (A B : Plc), vs = [.ref s, .ref t] /\ LPlAt H s A /\ LPlAt H t B /\ z2f A /\ z2f B /\ ∀ v H', Same H H' -> BoxV H' v (z5d A B) -> Q v H'
def z6R (n : Nat) : Sp := fun vs H Q _ => ∃ (u v : V) (o : Option (List Int)), vs = [u, v] /\ BoxV H u o /\ BoxV H v o /\ (∀ zs, o = some zs -> zs.length = n) /\ ∀ H', Same H H' -> Q (.bl true) H'
def z5f (K : PySem.W.Frag) : Sp := fun vs H Q _ => ∃ (a : Addr) (ns : List Int) (k s : Int), vs = [.ref a, .int k, .int s] /\ SqL K H a (ns.map V.int) /\ 0 <= k /\ k < 1000 /\ 0 <= s /\ s < 1000 /\ ∀ l ps rows w h H', Same H H' -> RowsAt H' l ps rows -> Rect w h rows -> Q (.ref l) H'
def z7B (K : PySem.W.Frag) : Sp := fun vs H Q _ => ∃ (a : Addr) (ns : List Int) (k : Int), vs = [.ref a, .int k] /\ SqL K H a (ns.map V.int) /\ 0 <= k /\ k < 1000 /\ ∀ z, Q (.int z) H
def z5g (K : PySem.W.Frag) : Sp := fun vs H Q _ => ∃ (a : Addr) (ns : List Int), vs = [.ref a] /\ SqL K H a (ns.map V.int) /\ ∀ (u s t : Addr) (x y x2 y2 : Int) H', Same H H' -> H' u = some (.tup [.ref s, .ref t]) -> H' s = some (.tup [.int x, .int y]) -> H' t = some (.tup [.int x2, .int y2]) -> Q (.ref u) H'
theorem z4U {n x : Nat} (h : x < n) : ixN n (0 + (x : Int)) = some x := by
  unfold ixN
  rw [if_pos (by omega), if_pos (by omega), Int.zero_add, Int.toNat_natCast]
end L2
namespace L2
open PySem PySem.Spec PyProof.Rows G
structure ListP (R : Hp -> Addr -> Plc -> Prop) (H : Hp) (l : Addr) (ts : List Addr) (As : List Plc) : Prop where
  lst : H l = some (.lst (ts.map V.ref))
  len : ts.length = As.length
  at' : ∀ (i : Nat) t A, ts[i]? = some t -> As[i]? = some A -> R H t A
theorem ListP.get {R : Hp -> Addr -> Plc -> Prop} {H : Hp} {l : Addr} {ts : List Addr} {As : List Plc} (h : ListP R H l ts As) {i : Nat} (hi : i < As.length) : ∃ t, ts[i]? = some t /\ R H t (As[i]'hi) /\ atI (ts.map V.ref) ((i : Nat) : Int) = some (.ref t) := by
  have h1 : i < ts.length := by rw [h.len]; exact hi
  have e := List.getElem?_eq_getElem h1
  exact ⟨_, e, h.at' i _ _ e (List.getElem?_eq_getElem hi), z0S (by rw [List.getElem?_map, e]; rfl)⟩
abbrev PlsAt := ListP PlAt
abbrev LPlsAt := ListP LPlAt
theorem PlsAt.mono {H H' : Hp} {l : Addr} {ts : List Addr} {As : List Plc} (s : Same H H') (h : PlsAt H l ts As) : PlsAt H' l ts As := ⟨s _ _ h.lst, h.len, fun i t L a b => (h.at' i t L a b).mono s⟩
theorem LPlsAt.mono {H H' : Hp} {l : Addr} {ts : List Addr} {As : List Plc} (s : Same H H') (h : LPlsAt H l ts As) : LPlsAt H' l ts As := ⟨s _ _ h.lst, h.len, fun i t L a b => (h.at' i t L a b).mono s⟩
def tz2 (As : List Plc) (i j : Nat) : List (List Int) := match As[i]?, As[j]? with
  | some A, some B => (match z5d A B with | none => [] | some zs => [(i : Int) :: (j : Int) :: zs])
  | _, _ => []
def z5J (As : List Plc) (i : Nat) : Nat -> List (List Int)
  | 0 => []
  | k + 1 => z5J As i k ++ tz2 As i (i + 1 + k)
def z4V (As : List Plc) : Nat -> List (List Int)
  | 0 => []
  | i + 1 => z4V As i ++ z5J As i (As.length - (i + 1))
structure TusB (H0 H : Hp) (l : Addr) (ts : List Addr) (zss : List (List Int)) : Prop where
  same : Same H0 H
  fl : H0 l = none
  lst : H l = some (.lst (ts.map V.ref))
  len : ts.length = zss.length
  at' : ∀ (i : Nat) t zs, ts[i]? = some t -> zss[i]? = some zs -> H t = some (.tup (zs.map V.int))
theorem TusB.mono {H0 H H' : Hp} {l : Addr} {ts : List Addr} {zss : List (List Int)} (B : TusB H0 H l ts zss) (s : Same H H') : TusB H0 H' l ts zss := ⟨B.same.trans s, B.fl, s _ _ B.lst, B.len, fun i t zs e1 e2 => s _ _ (B.at' i t zs e1 e2)⟩
theorem TusB.push {H0 H : Hp} {l t : Addr} {ts : List Addr} {zss : List (List Int)} {zs : List Int} (B : TusB H0 H l ts zss) (h : H t = some (.tup (zs.map V.int))) : TusB H0 (upd H l (.lst (ts.map V.ref ++ [.ref t]))) l (ts ++ [t]) (zss ++ [zs]) := by
  have ot : ∀ {b : Addr} {xs : List V}, H b = some (.tup xs) -> (upd H l (.lst (ts.map V.ref ++ [.ref t]))) b = some (.tup xs) := fun {b xs} e => (z04 (z1b e B.lst fun z => nomatch z)).trans e
  refine ⟨B.same.put B.fl, B.fl, by rw [z06, List.map_append]; rfl, by rw [List.length_append, List.length_append, B.len]; rfl, fun i u ws e1 e2 => ?_⟩
  have hl := B.len
  by_cases hi : i < ts.length
  . rw [List.getElem?_append_left hi] at e1
    rw [List.getElem?_append_left (by omega)] at e2
    exact ot (B.at' i u ws e1 e2)
  . rw [List.getElem?_append_right (by omega)] at e1
    rw [List.getElem?_append_right (by omega), <- hl] at e2
    cases hk : i - ts.length with
    | zero =>
      rw [hk] at e1 e2
      cases e1
      cases e2
      exact ot h
    | succ n =>
      rw [hk] at e1
      cases e1
structure TusAt (H : Hp) (l : Addr) (ts : List Addr) (zss : List (List Int)) : Prop where
  lst : H l = some (.lst (ts.map V.ref))
  len : ts.length = zss.length
  at' : ∀ (i : Nat) t zs, ts[i]? = some t -> zss[i]? = some zs -> H t = some (.tup (zs.map V.int))
theorem TusB.at {H0 H : Hp} {l : Addr} {ts : List Addr} {zss : List (List Int)} (B : TusB H0 H l ts zss) : TusAt H l ts zss := ⟨B.lst, B.len, B.at'⟩
theorem TusAt.mono {H H' : Hp} {l : Addr} {ts : List Addr} {zss : List (List Int)} (B : TusAt H l ts zss) (s : Same H H') : TusAt H' l ts zss := ⟨s _ _ B.lst, B.len, fun i t zs e1 e2 => s _ _ (B.at' i t zs e1 e2)⟩
def z5K : Sp := fun vs H Q _ => ∃ (l : Addr) (ts : List Addr) (As : List Plc), vs = [.ref l] /\ PlsAt H l ts As /\ (∀ A ∈ As, z2f A) /\ As.length <= 60 /\ ∀ m us H', TusB H H' m us (z4V As As.length) -> Q (.ref m) H'
def z4d : Sp := fun vs H Q _ => ∃ (l : Addr) (ts : List Addr) (As : List Plc), vs = [.ref l] /\ LPlsAt H l ts As /\ (∀ A ∈ As, z2f A) /\ As.length <= 60 /\ ∀ m us H', TusB H H' m us (z4V As As.length) -> Q (.ref m) H'
def z5L (n : Nat) : Sp := fun vs H Q _ => ∃ (l m : Addr) (ts us : List Addr) (zss : List (List Int)), vs = [.ref l, .ref m] /\ TusAt H l ts zss /\ TusAt H m us zss /\ (∀ zs ∈ zss, zs.length = n) /\ zss.length <= 10000 /\ ∀ H', Same H H' -> Q (.bl true) H'
def z7C (K : PySem.W.Frag) : Sp := fun vs H Q _ => ∃ (a : Addr) (ns : List Int), vs = [.ref a] /\ SqL K H a (ns.map V.int) /\ ∀ l ts As H', Same H H' -> H l = none -> LPlsAt H' l ts As -> (∀ A ∈ As, z2f A) -> As.length <= 60 -> Q (.ref l) H'
end L2
namespace L2
open PySem PySem.Spec PyProof.Rows G
theorem RowsAt.past {H : Hp} {l m : Addr} {ps ts : List Addr} {rows : List (List (Option Int))} {w h : Nat} {o : HO} (a : RowsAt H l ps rows) (R : Rect w h rows) (hm : H m = some (.lst (ts.map V.ref))) (ht : ∀ t ∈ ts, ∃ xs, H t = some (.tup xs)) : RowsAt (upd H m o) l ps rows := by
  have hlen := a.len
  have hR := R.len
  have h1 := R.h1
  have w1 := R.w1
  have nl : l ≠ m := fun e => by
    have g := a.lst
    rw [e, hm] at g
    have g1 : ts.map V.ref = ps.map V.ref := HO.lst.inj (Option.some.inj g)
    have g2 : ts = ps := (List.map_inj_right (fun _ _ h => by injection h)).mp g1
    have hp : ps[0]? = some (ps[0]'(by omega)) := List.getElem?_eq_getElem (by omega)
    have r0 := a.row 0 _ _ hp (List.getElem?_eq_getElem (by omega))
    obtain ⟨xs, e2⟩ := ht (ps[0]'(by omega)) (by rw [g2]; exact List.getElem_mem _)
    rw [r0] at e2
    cases e2
  refine ⟨by rw [z04 nl]; exact a.lst, a.len, fun i p r e1 e2 => ?_⟩
  have g := a.row i p r e1 e2
  have np : p ≠ m := fun e => by
    rw [e, hm] at g
    have g1 : ts.map V.ref = r.map z0Q := HO.lst.inj (Option.some.inj g)
    have hw := (R.row r (List.mem_of_getElem? e2)).1
    have g2 : (ts.map V.ref)[0]? = (r.map z0Q)[0]? := by rw [g1]
    rw [List.getElem?_map, List.getElem?_map, List.getElem?_eq_getElem (show 0 < r.length by omega)] at g2
    cases hq : ts[0]? with
    | none => rw [hq] at g2; cases g2
    | some q =>
      rw [hq] at g2
      have e3 := Option.some.inj g2
      cases hcc : r[0]'(show 0 < r.length by omega) with
      | none => rw [hcc] at e3; cases e3
      | some z => rw [hcc] at e3; cases e3
  rw [z04 np]
  exact g
theorem LPlsAt.push {H : Hp} {m t : Addr} {ts : List Addr} {As : List Plc} {A : Plc} (h : LPlsAt H m ts As) (ok : ∀ A ∈ As, z2f A) (hA : z2f A) (ht : LPlAt H t A) : LPlsAt (upd H m (.lst (ts.map V.ref ++ [.ref t]))) m (ts ++ [t]) (As ++ [A]) := by
  have hl := h.len
  have tu : ∀ u ∈ ts, ∃ xs, H u = some (.tup xs) := fun u hu => by
    obtain ⟨i, hi, e⟩ := List.mem_iff_getElem.mp hu
    obtain ⟨_, _, g, _⟩ := h.at' i u (As[i]'(by omega)) (by rw [List.getElem?_eq_getElem hi, e]) (List.getElem?_eq_getElem _)
    exact ⟨_, g⟩
  have keep : ∀ {u : Addr} {B : Plc}, z2f B -> LPlAt H u B -> LPlAt (upd H m (.lst (ts.map V.ref ++ [.ref t]))) u B := fun {u B} hB hu => by
    obtain ⟨l, ps, g1, g2⟩ := hu
    exact ⟨l, ps, (z04 (z1b g1 h.lst fun z => nomatch z)).trans g1, g2.past hB h.lst tu⟩
  refine ⟨by rw [z06, List.map_append]; rfl, by rw [List.length_append, List.length_append, hl]; rfl, fun i u B e1 e2 => ?_⟩
  by_cases hi : i < ts.length
  . rw [List.getElem?_append_left hi] at e1
    rw [List.getElem?_append_left (by omega)] at e2
    exact keep (ok _ (List.mem_of_getElem? e2)) (h.at' i u B e1 e2)
  . rw [List.getElem?_append_right (by omega)] at e1
    rw [List.getElem?_append_right (by omega), <- hl] at e2
    cases hk : i - ts.length with
    | zero =>
      rw [hk] at e1 e2
      cases e1
      cases e2
      exact keep hA ht
    | succ n =>
      rw [hk] at e1
      cases e1
class PayNum where
  num : Value -> Int
section
variable [PN : PayNum]
def J (xs : Array Keyed) (i : Nat) : Int := match xs[i]? with
  | some p => PayNum.num p.2
  | none => 0
theorem z1I {xs ys : Array Keyed} {i j : Nat} (h : xs[i]? = ys[j]?) : J xs i = J ys j := by unfold J; rw [h]
theorem z19 {xs : Array Keyed} {src d : Nat} (hs : src < xs.size) (hd : d <= src) (k : Nat) :
    J (bubble xs src d) k = if k = src - d then J xs src else if src - d < k /\ k <= src then J xs (k - 1) else J xs k := by
  have e := getElem?_bubble hs d hd k
  by_cases h1 : k = src - d
  . rw [if_pos h1] at e ⊢; exact z1I e
  . rw [if_neg h1] at e ⊢
    by_cases h2 : src - d < k /\ k <= src
    . rw [if_pos h2] at e ⊢; exact z1I e
    . rw [if_neg h2] at e ⊢; exact z1I e
theorem z0h {xs : Array Keyed} {i j : Nat} (hj : j <= xs.size) (k : Nat) :
    J (mirror xs i j ((j - i) / 2)) k = if i <= k /\ k < j then J xs (i + j - 1 - k) else J xs k := by
  have e := getElem?_mirror_all (i := i) hj k
  by_cases h1 : i <= k /\ k < j
  . rw [if_pos h1] at e ⊢; exact z1I e
  . rw [if_neg h1] at e ⊢; exact z1I e
def StabTo (xs : Array Keyed) (k : Nat) : Prop := ∀ i j, i < j -> j < k -> K xs i < K xs j \/ (K xs i = K xs j /\ J xs i < J xs j)
def Down (xs : Array Keyed) (k : Nat) : Prop := ∀ i j, i < j -> j < k -> K xs j < K xs i \/ (K xs j = K xs i /\ J xs j < J xs i)
structure Low (n : Nat) (xs : Array Keyed) (k : Nat) : Prop where
  lo : ∀ i, i < k -> i < n -> J xs i < k
  hi : ∀ i, k <= i -> i < n -> J xs i = i
theorem StabTo.le {xs : Array Keyed} {k : Nat} (h : StabTo xs k) : ∀ i j, i <= j -> j < k -> K xs i <= K xs j := fun i j hij hj => by
  rcases Nat.lt_or_eq_of_le hij with z | rfl
  . rcases h i j z hj with a | a
    . omega
    . omega
  . exact Int.le_refl _
theorem Low.next {n : Nat} {xs : Array Keyed} {k : Nat} (h : Low n xs k) : Low n xs (k + 1) :=
  ⟨fun i hi hn => by
    by_cases e : i = k
    . have := h.hi i (by omega) hn; omega
    . have := h.lo i (by omega) hn; omega, fun i hi hn => h.hi i (by omega) hn⟩
theorem Low.up {n : Nat} {xs : Array Keyed} {k : Nat} (h : Low n xs k) : ∀ m, k <= m -> Low n xs m := by
  intro m hm
  induction m with
  | zero => have : k = 0 := by omega
            subst this; exact h
  | succ m ih =>
    by_cases e : k = m + 1
    . subst e; exact h
    . exact (ih (by omega)).next
theorem Low.mirror {n : Nat} {xs : Array Keyed} {k i j : Nat} (h : Low n xs k) (hj : j <= k) (hk : k <= n) (hx : j <= xs.size) : Low n (mirror xs i j ((j - i) / 2)) k :=
  ⟨fun a ha hn => by
    rw [z0h hx]
    split
    . exact h.lo _ (by omega) (by omega)
    . exact h.lo a ha hn, fun a ha hn => by
    rw [z0h hx, if_neg (by omega)]
    exact h.hi a ha hn⟩
theorem Down.mirror {xs : Array Keyed} {n : Nat} (h : Down xs n) (hx : n <= xs.size) : StabTo (mirror xs 0 n ((n - 0) / 2)) n := fun i j hij hj => by
  rw [K_mirror hx, K_mirror hx, z0h hx, z0h hx, if_pos (by omega), if_pos (by omega), if_pos (by omega), if_pos (by omega)]
  exact h _ _ (by omega) (by omega)
section
variable {prog : Program} {w : World} {A : Around} {E : Value -> Shared -> Prop} {s : Shared} {a₀ : Array Keyed}
structure SB (a₀ : Array Keyed) (k : Nat) (st : SortSt) : Prop where
  b : SBase a₀ st
  low : Low a₀.size (arrOf st) k
theorem z1O {st : SortSt} {a nrem : Nat} {Q : AscSt -> SortSt -> Prop} (h0 : IntKeys a₀) (hn : nrem <= a₀.size) (ha : 1 <= a) (han : a <= nrem) (hB : SB a₀ a st) (hs : StabTo (arrOf st) a)
    (h : ∀ n, a <= n -> n <= nrem -> SB a₀ n st -> StabTo (arrOf st) n -> (n = nrem \/ K (arrOf st) n < K (arrOf st) (n - 1)) -> Q (none, n) st) :
    wpS (model prog w) A E s (ascLoop a nrem) Q st := by
  unfold ascLoop
  refine wpS_forRange (I := fun x c st' => st' = st /\ c = (none, x) /\ SB a₀ x st /\ StabTo (arrOf st) x) ?step ?fin ⟨rfl, rfl, hB, hs⟩
  case fin =>
    rintro c st' ⟨rfl, rfl, hB', hs'⟩
    rw [show max a nrem = nrem by omega] at hs' hB' ⊢
    exact h nrem han (Nat.le_refl _) hB' hs' (.inl rfl)
  case step =>
    rintro x c st' hax hxn ⟨rfl, rfl, hB', hs'⟩
    dsimp only
    refine wpS_bind (wpS_ltK hB.b h0 (by omega) (by omega) ?_)
    by_cases hless : K (arrOf st') x < K (arrOf st') (x - 1)
    . simp only [hless, decide_true, if_true]
      exact wpS_pure (h x hax (by omega) hB' hs' (.inr hless))
    . simp only [hless, decide_false, Bool.false_eq_true, if_false]
      refine wpS_pure ⟨rfl, rfl, ⟨hB'.b, hB'.low.next⟩, fun i j hij hj => ?_⟩
      by_cases hjx : j < x
      . exact hs' i j hij hjx
      . have hj' : j = x := by omega
        subst hj'
        have h1 := hs'.le i (j - 1) (by omega) (by omega)
        have h2 := hB'.low.lo i hij (by omega)
        have h3 := hB'.low.hi j (Nat.le_refl _) (by omega)
        omega
theorem z2P {st : SortSt} {n nrem : Nat} {Q : Option Nat -> SortSt -> Prop} (h0 : IntKeys a₀) (hn : nrem <= a₀.size) (h1 : 1 <= n) (hnn : n <= nrem) (hB : SB a₀ n st)
    (hs : Down (arrOf st) n) (h : ∀ m st', SB a₀ m st' -> 1 <= m -> m <= nrem -> StabTo (arrOf st') m -> Q (some m) st') :
    wpS (model prog w) A E s (tail3 n nrem) Q st := by
  unfold tail3
  have hsz : n <= (arrOf st).size := by rw [hB.b.size]; omega
  refine wpS_bind (wpS_reverse ?_)
  have hB' : SB a₀ n (setArr st (mirror (arrOf st) 0 n ((n - 0) / 2))) := ⟨hB.b.setArr (mirror_perm _ _ _ _), hB.low.mirror (Nat.le_refl _) (by omega) hsz⟩
  exact wpS_bind (z1O h0 hn h1 hnn hB' (hs.mirror hsz) fun m hm1 hm2 hBm hsm _ => wpS_pure (h m _ hBm (by omega) hm2 hsm))
structure Desc (xs : Array Keyed) (x neq : Nat) : Prop where
  le : neq + 1 <= x
  old : ∀ i j, i < j -> j < x -> i < x - (neq + 1) -> K xs j < K xs i \/ (K xs j = K xs i /\ J xs j < J xs i)
  cut : ∀ i j, i < x - (neq + 1) -> x - (neq + 1) <= j -> j < x -> K xs j < K xs i
  new : ∀ i j, i < j -> j < x -> x - (neq + 1) <= i -> K xs j = K xs i /\ J xs i < J xs j
theorem Desc.one {xs : Array Keyed} {x : Nat} (h : Desc xs x 0) : Down xs x := fun i j hij hj => h.old i j hij hj (by omega)
theorem Down.desc {xs : Array Keyed} {x : Nat} (h : Down xs x) (h1 : 1 <= x) (hc : ∀ i, i + 1 < x -> K xs (x - 1) < K xs i) : Desc xs x 0 :=
  ⟨by omega, fun i j a b c => h i j a b, fun i j a b c => by
    have : j = x - 1 := by omega
    subst this; exact hc i (by omega), fun i j a b c => by omega⟩
theorem Desc.flip {xs : Array Keyed} {x neq : Nat} (h : Desc xs x neq) (hx : x <= xs.size) : Down (mirror xs (x - (neq + 1)) x ((x - (x - (neq + 1))) / 2)) x := fun i j hij hj => by
  have hle := h.le
  rw [K_mirror hx, K_mirror hx, z0h hx, z0h hx]
  by_cases ci : x - (neq + 1) <= i
  . rw [if_pos (by omega), if_pos (by omega), if_pos (by omega), if_pos (by omega)]
    have q := h.new (x - (neq + 1) + x - 1 - j) (x - (neq + 1) + x - 1 - i) (by omega) (by omega) (by omega)
    exact .inr ⟨q.1.symm, q.2⟩
  . by_cases cj : x - (neq + 1) <= j
    . rw [if_pos (by omega), if_neg (by omega), if_pos (by omega), if_neg (by omega)]
      exact .inl (h.cut _ _ (by omega) (by omega) (by omega))
    . rw [if_neg (by omega), if_neg (by omega), if_neg (by omega), if_neg (by omega)]
      exact h.old i j hij hj (by omega)
theorem Down.more {xs : Array Keyed} {x : Nat} (h : Down xs x) (h1 : 1 <= x) (hl : K xs x < K xs (x - 1)) : Desc xs (x + 1) 0 := by
  have hc : ∀ i, i < x -> K xs x < K xs i := fun i hi => by
    by_cases e : i = x - 1
    . subst e; exact hl
    . rcases h i (x - 1) (by omega) (by omega) with z | z <;> omega
  refine Down.desc (fun i j a b => ?_) (by omega) fun i hi => ?_
  . by_cases e : j < x
    . exact h i j a e
    . have : j = x := by omega
      subst this; exact .inl (hc i a)
  . exact hc i (by omega)
theorem z44 {xs : Array Keyed} {x neq : Nat} (h : Desc xs x neq) (hx : x <= xs.size) (i : Nat) : K (mirror xs (x - (neq + 1)) x ((x - (x - (neq + 1))) / 2)) i = K xs i :=
  K_mirror_equal hx (fun k a b => by
    by_cases e : k = x - 1
    . rw [e]
    . exact (h.new k (x - 1) (by omega) (by have := h.le; omega) a).1.symm) i
theorem z23 {st : SortSt} {n nrem : Nat} {Q : DescSt -> SortSt -> Prop} (h0 : IntKeys a₀) (hn : nrem <= a₀.size) (h1 : 1 <= n) (hnn : n <= nrem) (hB : SB a₀ n st)
    (hs : Desc (arrOf st) n 0)
    (h : ∀ m neq st', SB a₀ m st' -> n <= m -> m <= nrem -> Desc (arrOf st') m neq -> Q (none, m, neq) st') :
    wpS (model prog w) A E s (descLoop n nrem) Q st := by
  unfold descLoop
  refine wpS_forRange (I := fun x c st' => ∃ neq, c = (none, x, neq) /\ SB a₀ x st' /\ Desc (arrOf st') x neq) ?step ?fin ⟨0, rfl, hB, hs⟩
  case fin =>
    rintro c st' ⟨neq, rfl, hB', hs'⟩
    rw [show max n nrem = nrem by omega] at hs' hB' ⊢
    exact h nrem neq st' hB' hnn (Nat.le_refl _) hs'
  case step =>
    rintro x c st' hax hxn ⟨neq, rfl, hB', hs'⟩
    dsimp only
    have hsz : x <= (arrOf st').size := by rw [hB'.b.size]; omega
    refine wpS_bind (wpS_ltK hB'.b h0 (by omega) (by omega) ?_)
    by_cases hless : K (arrOf st') x < K (arrOf st') (x - 1)
    . simp only [hless, decide_true, if_true]
      by_cases hneq : neq > 0
      . rw [if_pos hneq]
        refine wpS_bind (wpS_reverse (wpS_pure ⟨0, rfl, ⟨hB'.b.setArr (mirror_perm _ _ _ _), (hB'.low.mirror (Nat.le_refl _) (by omega) hsz).next⟩, ?_⟩))
        refine Down.more (hs'.flip hsz) (by omega) ?_
        show K (mirror (arrOf st') (x - (neq + 1)) x ((x - (x - (neq + 1))) / 2)) x < K (mirror (arrOf st') (x - (neq + 1)) x ((x - (x - (neq + 1))) / 2)) (x - 1)
        rw [z44 hs' hsz, z44 hs' hsz]
        exact hless
      . rw [if_neg hneq]
        have e0 : neq = 0 := by omega
        subst e0
        exact wpS_pure ⟨0, rfl, ⟨hB'.b, hB'.low.next⟩, Down.more hs'.one (by omega) hless⟩
    . simp only [hless, decide_false, Bool.false_eq_true, if_false]
      refine wpS_bind (wpS_ltK hB'.b h0 (by omega) (by omega) ?_)
      by_cases hlarger : K (arrOf st') (x - 1) < K (arrOf st') x
      . simp only [hlarger, decide_true, if_true]
        exact wpS_pure (h x neq st' hB' hax (by omega) hs')
      . simp only [hlarger, decide_false, Bool.false_eq_true, if_false]
        have heqx : K (arrOf st') x = K (arrOf st') (x - 1) := by omega
        have hle := hs'.le
        have e1 : x + 1 - (neq + 1 + 1) = x - (neq + 1) := by omega
        refine wpS_pure ⟨neq + 1, rfl, ⟨hB'.b, hB'.low.next⟩, ⟨by omega, fun i j a b c => ?_, fun i j a b c => ?_, fun i j a b c => ?_⟩⟩
        . rw [e1] at c
          by_cases e : j < x
          . exact hs'.old i j a e c
          . have : j = x := by omega
            subst this
            rw [heqx]
            exact .inl (hs'.cut i (j - 1) c (by omega) (by omega))
        . rw [e1] at a b
          by_cases e : j < x
          . exact hs'.cut i j a b e
          . have : j = x := by omega
            subst this
            rw [heqx]
            exact hs'.cut i (j - 1) a (by omega) (by omega)
        . rw [e1] at c
          by_cases e : j < x
          . exact hs'.new i j a e c
          . have : j = x := by omega
            subst this
            have q1 := hB'.low.lo i a (by omega)
            have q2 := hB'.low.hi j (Nat.le_refl _) (by omega)
            refine ⟨?_, by omega⟩
            rw [heqx]
            by_cases e2 : i = j - 1
            . rw [e2]
            . exact (hs'.new i (j - 1) (by omega) (by omega) c).1
theorem z1J {st : SortSt} {n nrem : Nat} {Q : Option Nat -> SortSt -> Prop} (h0 : IntKeys a₀) (hn : nrem <= a₀.size) (hnn : n + 1 <= nrem) (hB : SB a₀ (n + 1) st)
    (hs : Desc (arrOf st) (n + 1) 0) (h : ∀ m st', SB a₀ m st' -> 1 <= m -> m <= nrem -> StabTo (arrOf st') m -> Q (some m) st') :
    wpS (model prog w) A E s (descPart n nrem) Q st := by
  unfold descPart
  refine wpS_bind (wpS_lift (wpAny_rule ⟨rfl, ?_⟩))
  refine wpS_bind (z23 h0 hn (by omega) hnn hB hs fun m neq st' hB' hm1 hm2 hs' => ?_)
  dsimp only
  have hsz : m <= (arrOf st').size := by rw [hB'.b.size]; omega
  by_cases hneq : neq > 0
  . rw [if_pos hneq]
    exact wpS_bind (wpS_reverse (z2P h0 hn (by omega) hm2 ⟨hB'.b.setArr (mirror_perm _ _ _ _), hB'.low.mirror (Nat.le_refl _) (by omega) hsz⟩ (hs'.flip hsz) h))
  . rw [if_neg hneq]
    have e0 : neq = 0 := by omega
    subst e0
    exact z2P h0 hn (by omega) hm2 hB' hs'.one h
theorem z24 {st : SortSt} {nrem : Nat} {Q : Option Nat -> SortSt -> Prop} (h0 : IntKeys a₀) (hn : nrem <= a₀.size) (h1 : 1 <= nrem) (hB : SB a₀ 1 st)
    (h : ∀ m st', SB a₀ m st' -> 1 <= m -> m <= nrem -> StabTo (arrOf st') m -> Q (some m) st') :
    wpS (model prog w) A E s (countRun' 0 nrem) Q st := by
  rw [countRun0_eq]
  refine wpS_bind (z1O h0 hn (Nat.le_refl 1) h1 hB (fun i j hij hj => by omega) fun n hn1 hn2 hBn hsn hor => ?_)
  dsimp only
  by_cases hnn : n = nrem
  . rw [if_pos (by simpa using hnn)]
    exact wpS_pure (h n st hBn hn1 hn2 hsn)
  . rw [if_neg (by simpa using hnn)]
    have hlt : K (arrOf st) n < K (arrOf st) (n - 1) := hor.resolve_left hnn
    by_cases hgt : n > 1
    . rw [if_pos hgt]
      refine wpS_bind (wpS_ltK hB.b h0 (by omega) (by omega) ?_)
      by_cases hrose : K (arrOf st) 0 < K (arrOf st) (n - 1)
      . simp only [hrose, decide_true, if_true]
        exact wpS_pure (h n st hBn hn1 hn2 hsn)
      . simp only [hrose, decide_false, Bool.false_eq_true, if_false]
        have hsz : n <= (arrOf st).size := by rw [hB.b.size]; omega
        have hall : ∀ k, 0 <= k -> k < n -> K (arrOf st) k = K (arrOf st) (n - 1) := by
          intro k _ hk
          have a1 := hsn.le 0 k (by omega) hk
          have a2 := hsn.le k (n - 1) (by omega) (by omega)
          omega
        refine wpS_bind (wpS_reverse (z1J h0 hn (by omega) ⟨hB.b.setArr (mirror_perm _ _ _ _), (hBn.low.mirror (Nat.le_refl _) (by omega) hsz).next⟩ ?_ h))
        show Desc (mirror (arrOf st) 0 n ((n - 0) / 2)) (n + 1) 0
        refine Down.more (fun i j hij hj => ?_) (by omega) ?_
        . rw [K_mirror_equal hsz hall, K_mirror_equal hsz hall, z0h hsz, z0h hsz, if_pos (by omega), if_pos (by omega), hall i (by omega) (by omega), hall j (by omega) (by omega)]
          refine .inr ⟨rfl, ?_⟩
          rcases hsn (0 + n - 1 - j) (0 + n - 1 - i) (by omega) (by omega) with z | z
          . rw [hall _ (by omega) (by omega), hall (0 + n - 1 - i) (by omega) (by omega)] at z
            omega
          . exact z.2
        . rw [K_mirror_equal hsz hall, K_mirror_equal hsz hall]
          exact hlt
    . rw [if_neg hgt]
      have hn1' : n = 1 := by omega
      subst hn1'
      refine z1J h0 hn (by omega) ⟨hBn.b, hBn.low.next⟩ ?_ h
      exact Down.more (fun i j hij hj => by omega) (by omega) hlt
theorem z1Z {st : SortSt} {n ok : Nat} {Q : Bool -> SortSt -> Prop} (h0 : IntKeys a₀) (hn : n <= a₀.size) (h1 : 1 <= ok) (hok : ok <= n) (hB : SB a₀ ok st) (hs : StabTo (arrOf st) ok)
    (h : ∀ st', SBase a₀ st' -> StabTo (arrOf st') n -> Q true st') : wpS (model prog w) A E s (binarySort' 0 n ok) Q st := by
  rw [binarySort'_eq]
  simp only [Nat.zero_add]
  refine wpS_bind (wpS_mono (wpS_forRange (I := fun k c st' => c = (none, ()) /\ SB a₀ k st' /\ StabTo (arrOf st') (min k n))
    (Q := fun c st' => c = (none, ()) /\ SBase a₀ st' /\ StabTo (arrOf st') n) ?step ?fin ?init) ?post)
  case post =>
    rintro c st' ⟨rfl, hB', hs'⟩
    exact wpS_pure (h st' hB' hs')
  case init =>
    rw [show max ok 1 = ok by omega, show min ok n = ok by omega]
    exact ⟨rfl, hB, hs⟩
  case fin =>
    rintro c st' ⟨hc, hB', hs'⟩
    refine ⟨hc, hB'.b, ?_⟩
    rwa [show min (max (max ok 1) n) n = n by omega] at hs'
  case step =>
    rintro k c st' hak hkn ⟨rfl, hB', hs'⟩
    rw [show min k n = k by omega] at hs'
    have hk : k < a₀.size := by omega
    refine wpS_bind (wpS_mono (wpS_forRange (I := fun x c st'' => st'' = st' /\ ∃ l r, c = (none, l, r) /\ l <= r /\ r <= k /\ r - l <= k - x /\
        (∀ i, i < l -> K (arrOf st') i <= K (arrOf st') k) /\ (∀ i, r <= i -> i < k -> K (arrOf st') k < K (arrOf st') i))
      (Q := fun c st'' => st'' = st' /\ ∃ l r, c = (none, l, r) /\ l <= k /\
        (∀ i, i < l -> K (arrOf st') i <= K (arrOf st') k) /\ (∀ i, l <= i -> i < k -> K (arrOf st') k < K (arrOf st') i)) ?istep ?ifin ?iinit) ?ipost)
    case iinit => exact ⟨rfl, 0, k, rfl, by omega, by omega, by omega, fun i hi => by omega, fun i h1 h2 => by omega⟩
    case ifin =>
      rintro c st'' ⟨rfl, l, r, rfl, hlr, hrk, hm, hlo, hhi⟩
      have : l = r := by omega
      subst this
      exact ⟨rfl, l, l, rfl, hrk, hlo, hhi⟩
    case istep =>
      rintro x c st'' _ hxk ⟨rfl, l, r, rfl, hlr, hrk, hm, hlo, hhi⟩
      dsimp only
      by_cases hge : l ≥ r
      . rw [if_pos hge]
        have : l = r := by omega
        subst this
        exact wpS_pure ⟨rfl, l, l, rfl, hrk, hlo, hhi⟩
      . rw [if_neg hge]
        refine wpS_bind (wpS_ltK hB'.b h0 hk (by omega) ?_)
        by_cases hless : K (arrOf st'') k < K (arrOf st'') ((l + r) / 2)
        . simp only [hless, decide_true, if_true]
          refine wpS_pure ⟨rfl, l, (l + r) / 2, rfl, by omega, by omega, by omega, hlo, fun i h1 h2 => ?_⟩
          exact Int.lt_of_lt_of_le hless (hs'.le _ _ h1 h2)
        . simp only [hless, decide_false, Bool.false_eq_true, if_false]
          refine wpS_pure ⟨rfl, (l + r) / 2 + 1, r, rfl, by omega, by omega, by omega, fun i h1 => ?_, hhi⟩
          exact Int.le_trans (hs'.le i ((l + r) / 2) (by omega) (by omega)) (Int.not_lt.mp hless)
    case ipost =>
      rintro c st'' ⟨rfl, l, r, rfl, hlk, hlo, hhi⟩
      show wpS _ _ _ _ (do moveDown' k l; pure (ForInStep.yield (none, ()))) _ _
      rw [moveDown'_eq]
      have hks : k < (arrOf st'').size := by rw [hB'.b.size]; exact hk
      have hJk := hB'.low.hi k (Nat.le_refl _) hk
      refine wpS_bind (wpS_modify (wpS_pure ⟨rfl, ⟨hB'.b.setArr (bubble_perm _ _ _), ⟨fun i hi hin => ?_, fun i hi hin => ?_⟩⟩, ?_⟩))
      . show J (bubble (arrOf st'') k (k - l)) i < _
        rw [z19 hks (by omega)]
        repeat' split
        . rw [hJk]; omega
        . have := hB'.low.lo (i - 1) (by omega) (by omega); omega
        . have := hB'.low.lo i (by omega) hin; omega
      . show J (bubble (arrOf st'') k (k - l)) i = _
        rw [z19 hks (by omega), if_neg (by omega), if_neg (by omega)]
        exact hB'.low.hi i (by omega) hin
      . rw [show min (k + 1) n = k + 1 by omega]
        intro i j hij hj
        show K (bubble (arrOf st'') k (k - l)) i < K (bubble (arrOf st'') k (k - l)) j \/ (K (bubble (arrOf st'') k (k - l)) i = K (bubble (arrOf st'') k (k - l)) j /\ J (bubble (arrOf st'') k (k - l)) i < J (bubble (arrOf st'') k (k - l)) j)
        rw [K_bubble hks (by omega), K_bubble hks (by omega), z19 hks (by omega), z19 hks (by omega), show k - (k - l) = l by omega]
        by_cases c1 : i < l
        . by_cases c2 : j < l
          . rw [if_neg (by omega), if_neg (by omega), if_neg (by omega), if_neg (by omega), if_neg (by omega), if_neg (by omega), if_neg (by omega), if_neg (by omega)]
            exact hs' i j hij (by omega)
          . by_cases c3 : j = l
            . rw [if_neg (by omega), if_neg (by omega), if_pos (by omega), if_neg (by omega), if_neg (by omega), if_pos (by omega)]
              have q1 := hlo i c1
              have q2 := hB'.low.lo i (by omega) (by omega)
              omega
            . rw [if_neg (by omega), if_neg (by omega), if_neg (by omega), if_pos (by omega), if_neg (by omega), if_neg (by omega), if_neg (by omega), if_pos (by omega)]
              exact hs' i (j - 1) (by omega) (by omega)
        . by_cases c3 : i = l
          . rw [if_pos (by omega), if_neg (by omega), if_pos (by omega), if_pos (by omega), if_neg (by omega), if_pos (by omega)]
            exact .inl (hhi (j - 1) (by omega) (by omega))
          . rw [if_neg (by omega), if_pos (by omega), if_neg (by omega), if_pos (by omega), if_neg (by omega), if_pos (by omega), if_neg (by omega), if_pos (by omega)]
            exact hs' (i - 1) (j - 1) (by omega) (by omega)
def z3I (a₀ : Array Keyed) (st : SortSt) : Prop :=
  (arrOf st).Perm a₀ /\ failedOf st = none /\ pendingOf st = #[(0, a₀.size, 0)] /\ StabTo (arrOf st) a₀.size
theorem z5M {st : SortSt} (hB : SBase a₀ st) (hs : StabTo (arrOf st) a₀.size) : z3I a₀ (setPending st ((pendingOf st).push (0, a₀.size, 0))) :=
  ⟨hB.perm, hB.failed, by show (pendingOf st).push _ = _; rw [hB.pend]; rfl, hs⟩
theorem z25 {st : SortSt} {Q : Unit -> SortSt -> Prop} (h0 : IntKeys a₀) (hB : SBase a₀ st) (hJ : ∀ i, i < a₀.size -> J (arrOf st) i = i) (h2 : 2 <= a₀.size) (h64 : a₀.size < 64)
    (h : ∀ st', (arrOf st').Perm a₀ -> failedOf st' = none -> StabTo (arrOf st') a₀.size -> Q () st') : wpS (model prog w) A E s sortRuns' Q st := by
  have hB1 : SB a₀ 1 st := ⟨hB, ⟨fun i hi hn => by
    have := hJ i hn; omega, fun i _ hn => hJ i hn⟩⟩
  rw [sortRuns'_eq]
  refine wpS_bind (wpS_get ?_)
  dsimp only
  have hmr : minRun' a₀.size a₀.size 0 = a₀.size := by
    obtain ⟨f, hf⟩ : ∃ f, a₀.size = f + 1 := ⟨a₀.size - 1, by omega⟩
    have : minRun' (f + 1) a₀.size 0 = a₀.size := by rw [minRun'_succ, if_pos h64]; rfl
    rwa [<- hf] at this
  simp only [hB.size, hmr]
  refine wpS_bind (wpS_mono (wpS_forRange
    (I := fun x c st' => (x = 0 /\ c = (none, 0) /\ SB a₀ 1 st') \/ (1 <= x /\ c = (none, a₀.size) /\ z3I a₀ st'))
    (Q := fun c st' => c = (none, a₀.size) /\ z3I a₀ st') ?step ?fin (.inl ⟨rfl, rfl, hB1⟩)) ?post)
  case fin =>
    rintro c st' (⟨hx, _, _⟩ | ⟨_, hc, hD⟩)
    . omega
    . exact ⟨hc, hD⟩
  case step =>
    rintro x c st' _ hx (⟨rfl, rfl, hB'⟩ | ⟨hx1, rfl, hD⟩)
    . dsimp only
      rw [if_neg (by omega)]
      simp only [Nat.sub_zero, Nat.min_self, Nat.zero_add]
      refine wpS_bind (z24 h0 (Nat.le_refl _) (by omega) hB' fun m st2 hB2 hm1 hm2 hs2 => ?_)
      dsimp only
      by_cases hlt : m < a₀.size
      . rw [if_pos hlt]
        refine wpS_bind (wpS_lift (wpAny_rule ⟨rfl, ?_⟩))
        refine wpS_bind (z1Z h0 (Nat.le_refl _) hm1 hm2 hB2 hs2 fun st3 hB3 hs3 => ?_)
        simp only [Bool.not_true, Bool.false_eq_true, if_false]
        refine wpS_bind (wpS_get ?_)
        have hb : (pendingOf st3).back? = none := by rw [hB3.pend]; rfl
        rw [hb]
        dsimp only
        exact wpS_bind (wpS_modify (wpS_pure (.inr ⟨by omega, rfl, z5M hB3 hs3⟩)))
      . rw [if_neg hlt]
        have hm : m = a₀.size := by omega
        subst hm
        refine wpS_bind (wpS_get ?_)
        have hb : (pendingOf st2).back? = none := by rw [hB2.b.pend]; rfl
        rw [hb]
        dsimp only
        exact wpS_bind (wpS_modify (wpS_pure (.inr ⟨by omega, rfl, z5M hB2.b hs2⟩)))
    . dsimp only
      rw [if_pos (Nat.le_refl _)]
      exact wpS_pure ⟨rfl, hD⟩
  case post =>
    rintro c st' ⟨rfl, hD⟩
    dsimp only
    refine wpS_bind (wpS_mono (wpS_forRange (I := fun _ c st'' => st'' = st' /\ c = (none, ())) (Q := fun c st'' => st'' = st' /\ c = (none, ())) ?_ (fun _ _ hh => hh) ⟨rfl, rfl⟩) ?_)
    . rintro x c st'' _ _ ⟨rfl, rfl⟩
      refine wpS_bind (wpS_get ?_)
      rw [if_pos (by rw [hD.2.2.1]; exact Nat.le_refl 1)]
      exact wpS_pure ⟨rfl, rfl⟩
    . rintro c st'' ⟨rfl, rfl⟩
      exact wpS_pure (h _ hD.1 hD.2.1 hD.2.2.2)
end
end
section
variable {prog : Program} {w : World} {A : Around} {E : Value -> Shared -> Prop} {s : Shared}
end
def upTo (n : Nat) : List V := (List.range n).map fun i => V.int (i : Nat)
section
variable {X : Cx}
def z5h (te : TE) : TE := fun σ H Q => te σ H fun x H1 => ∃ n : Nat, x = .int (n : Nat) /\ n <= 1000000 /\ ∀ l, H1 l = none -> Q (.ref l) (upd H1 l (.lst (upTo n)))
def z6S (K : PySem.W.Frag) (te : TE) : TE := fun σ H Q => te σ H fun x H1 => ∃ p ns, x = .ref p /\ SqL K H1 p (ns.map V.int) /\ ns.length < 64 /\ ∀ l ms, H1 l = none -> List.Perm ms ns -> ms.Pairwise (· <= ·) -> Q (.ref l) (upd H1 l (.lst (ms.map V.int)))
end
section
variable {X : Cx} {pins : List (Addr × Obj)} {σ : St} {H : Hp} {s : Shared}
theorem Inv.adopt {a : Addr} {o : HO} {h' : Heap} {tk : Nat} (I : Inv X pins σ H s) (F : z1R X pins H a) (k : ∀ b u, b ≠ a -> s.heap.get? b = some u -> h'.get? b = some u) (ha : ∃ u, h'.get? a = some u) (new : ObjOk X.prog X.w (upd H a o) h' a o) :
    Inv X pins σ (upd H a o) { s with heap := h', toks := tk } := by
  obtain ⟨f0, f1, f2, f3, f4, f5⟩ := F
  have nH : ∀ {b : Addr} {u : HO}, H b = some u -> b ≠ a := fun e => z08 e f0
  have nch : ∀ {b : Addr}, b ∉ [a] -> b ≠ a := fun h z => h (by simp [z])
  refine I.step (g' := s.gens) (d' := s.drawn) (t' := tk) (ch := [a]) (fun b hb => ?_) (fun b u _ _ c e _ => k b u (nch c) e) (fun b u _ _ c e _ => ⟨u.slots, k b u (nch c) e⟩) (fun b u c _ n => by rw [z04 (nch c)]; exact n) (fun b u c e => ⟨u, k b u (nch c) e⟩)
    (fun b xs e => by rw [z04 (nH e)]; exact e) (fun b u xs e => by rw [z04 (nH e)]; exact e) (fun b ps e => ⟨#[], by rw [z04 (nH e), e]; simp⟩) (fun m hm => ?_) (fun b u e => ?_) I.bare
  . have e : b = a := by simpa using hb
    subst e
    exact ⟨f3, f1, f4, f5⟩
  . obtain ⟨u, es, ep, ho, r⟩ := hm
    exact ⟨u, es, ep, k _ u (Ne.symm f1) ho, r⟩
  . by_cases z : b = a
    . subst z
      rw [z06] at e
      cases e
      exact new
    . rw [z04 z] at e
      refine (I.hok b u e).stay (fun c v hc q => k c v ?_ q) (fun c q => by rw [z04 (nH q)]; exact q) fun c xs q => by rw [z04 (nH q)]; exact q
      rcases hc with rfl | hc
      . exact z
      . exact nH hc
end
def z3J (X : Cx) (ps : List Str) (qual : Str) (scope : Scope) (f : Addr) (cd : Value) (cl : List (Str × Addr)) (A : Around) (s : Shared) (H : Hp) : Cx where
  prog := X.prog
  w := X.w
  K := X.K
  mg := X.mg
  base := X.base
  A := A.deeper (PySem.W.envX qual scope s.heap.objs.size f cd cl)
  N := ps ++ X.N
  s₀ := s
  H₀ := H
  env := PySem.W.envX qual scope s.heap.objs.size f cd cl
  outer := X.stack
  stack := PySem.W.envX qual scope s.heap.objs.size f cd cl :: X.stack
  ex := []
  calm := true
  fn := fun _ => false
  pn := []
  xe := fun _ _ => False
structure LamScope (X : Cx) (ps : List Str) (scope : Scope) (cl : List (Str × Addr)) : Prop where
  kind : scope.kind = .function
  co : scope.isCoroutine = false
  gen : scope.isGenerator = false
  nd : ps.Nodup
  par : ∀ x ∈ ps, scope.names.lookup x = some .local
  nocell : ∀ y ∈ scope.names, y.2 ≠ .cell
  free : ∀ x, scope.names.lookup x = some .free -> ∃ c, cl.lookup x = some c
  sub : ∀ x c, cl.lookup x = some c -> X.env.cells.lookup x = some c /\ (X.env.kindOf x = some .cell \/ X.env.kindOf x = some .free)
  dis : ∀ x ∈ X.N, scope.names.lookup x ≠ some .local
theorem z1P {x : Str} {v : Value} : ∀ {ps : List Str} {us : List Value} {i : Nat}, ps.Nodup -> ps[i]? = some x -> us[i]? = some v -> (ps.zip us).reverse.lookup x = some v
  | [], _, _, _, h, _ => by simp at h
  | _ :: _, [], _, _, _, h => by simp at h
  | p :: ps, u :: us, 0, nd, h1, h2 => by
    simp at h1 h2
    subst h1 h2
    rw [List.zip_cons_cons, List.reverse_cons, List.lookup_append]
    have z : (ps.zip us).reverse.lookup p = none := by
      rw [List.lookup_eq_none_iff]
      intro q hq
      have hm := (List.of_mem_zip (List.mem_reverse.mp (show (q.1, q.2) ∈ (ps.zip us).reverse from hq))).1
      exact bne_iff_ne.mpr fun (e : p = q.1) => (List.nodup_cons.mp nd).1 (by rw [e]; exact hm)
    rw [z]
    simp [List.lookup_cons]
  | p :: ps, u :: us, i + 1, nd, h1, h2 => by
    rw [List.zip_cons_cons, List.reverse_cons, List.lookup_append, z1P (List.nodup_cons.mp nd).2 (by simpa using h1) (by simpa using h2)]
    rfl
section
variable {X : Cx} {pins : List (Addr × Obj)} {σ : St} {H : Hp} {s : Shared} {A : Around}
theorem z4W {ps : List Str} {qual : Str} {scope : Scope} {f : Addr} {cd : Value} {cl : List (Str × Addr)} {vs : List V} {us : List Value} {h₁ : Heap} {tk : Nat} (I : Inv X pins σ H s) (hA : A.frames = some X.stack) (hh : A.handled = none) (S : LamScope X ps scope cl)
    (hl : vs.length = ps.length) (r : Vals vs us) (hns : h₁.Ns s.heap.objs.size (fun x => (ps.zip us).reverse.lookup x)) (hk : ∀ b o, s.heap.get? b = some o -> h₁.get? b = some o) :
    Inv (z3J X ps qual scope f cd cl A s H) [] (vs.map some ++ σ) H { s with heap := h₁, toks := tk } := by
  have noA : ∀ b : Addr, b ∉ (z3J X ps qual scope f cd cl A s H).ex := fun b z => absurd (show b ∈ ([] : List Addr) from z) (by simp)
  have cellK : ∀ {c : Addr} {v : Option Value}, s.heap.IsCell c v -> h₁.IsCell c v := fun ⟨o, e, d⟩ => ⟨o, hk _ _ e, d⟩
  refine ⟨⟨I.ok.mod, S.kind, rfl, rfl, Nat.le_refl _, fun y z c h1 h2 => ?_, fun y hy => ?_, fun y c z _ => absurd z (by show ¬ (false = true); exact Bool.false_ne_true), fun _ => hh, Around.frames_deeper hA, .inr ⟨rfl, rfl⟩, fun b z => absurd z (noA b),
      I.bs, Nat.le_trans I.ok.bsz I.sz, fun b _ _ => noA b, fun b z => absurd z (noA b), I.stack, I.stkFree⟩,
    rfl, I.bare, Un.kept hk, ⟨_, hns, fun i y v h1 h2 h3 => ?_⟩, fun y c h => ?_, I.hok.fresh (Nat.le_refl _), fun y c h => ?_, fun p hp => absurd (show p ∈ ([] : List (Addr × Obj)) from hp) (by simp), I.hok.kept hk, ?_⟩
  . exact I.ok.inj y z c (S.sub y c h1).1 (S.sub z c h2).1
  . have hy : scope.names.lookup y = some .cell \/ scope.names.lookup y = some .free := hy
    rcases hy with hy | hy
    . exact absurd rfl (S.nocell _ (PySem.mem_of_lookup hy))
    . exact S.free y hy
  . have h1 : (ps ++ X.N)[i]? = some y := h1
    have h2 : (vs.map some ++ σ)[i]? = some (some v) := h2
    by_cases hi : i < ps.length
    . rw [List.getElem?_append_left hi] at h1
      rw [List.getElem?_append_left (by rw [List.length_map]; omega), List.getElem?_map] at h2
      have ha : vs[i]? = some v := by
        cases e : vs[i]? with
        | none => rw [e] at h2; cases h2
        | some a => rw [e] at h2; cases h2; rfl
      obtain ⟨u, hu, rv⟩ := r.get ha
      exact ⟨u, rv, .inl ⟨S.par y (List.mem_of_getElem? h1), z1P S.nd h1 hu⟩⟩
    . rw [List.getElem?_append_right (by omega)] at h1
      rw [List.getElem?_append_right (by rw [List.length_map]; omega), List.length_map, hl] at h2
      have hd := S.dis y (List.mem_of_getElem? h1)
      have hv : scope.names.lookup y = some .free := by
        rcases h3 with z | z | z
        . exact absurd z hd
        . exact absurd rfl (S.nocell _ (PySem.mem_of_lookup z))
        . exact z
      obtain ⟨c, hc⟩ := S.free y hv
      obtain ⟨e1, e2⟩ := S.sub y c hc
      obtain ⟨m, hn, hloc⟩ := I.loc
      obtain ⟨u, rv, lk⟩ := hloc _ y v h1 h2 (.inr e2)
      refine ⟨u, rv, .inr ⟨.inr hv, c, hc, ?_⟩⟩
      rcases lk with ⟨z, _⟩ | ⟨_, c2, z, cc⟩
      . rcases e2 with q | q <;> (rw [q] at z; cases z)
      . rw [e1] at z
        cases z
        exact cellK cc
  . obtain ⟨v, cc⟩ := I.cell y c (S.sub y c h).1
    exact ⟨v, cellK cc⟩
  . exact I.freeC y c (S.sub y c h).1
  . show (vs.map some ++ σ).length = (ps ++ X.N).length
    rw [List.length_append, List.length_append, List.length_map, hl, I.len]
theorem z3j {ps : List Str} {qual : Str} {params : Arguments} {body : Expr} {scope : Scope} {cl : List (Str × Addr)} {pm ctv : Value} {f c' : Addr} {vs : List V} {us : List Value} {tb : TE} {Q : VK} (I : Inv X pins σ H s) (hA : A.frames = some X.stack) (hh : A.handled = none)
    (hroom : A.depth < recursionLimit) (S : LamScope X ps scope cl) (hf : (f, PySem.W.kla_obj "<lambda>" qual params body scope cl pm c' ctv) ∈ pins) (hcd : s.heap.CodeRec (.ref c') qual)
    (hb : bindArgs (PySem.W.kla_fn "<lambda>" qual params body scope cl pm (.ref c') ctv) ⟨us, []⟩ = pure (ps.zip us)) (hl : vs.length = ps.length) (r : Vals vs us)
    (pb : PE (z3J X ps qual scope f (.ref c') cl A s H) body tb) (h : tb (vs.map some ++ σ) H Q) : wpAny (model X.prog X.w) A (call (.ref f) us) (EP X pins σ Q) (fun _ _ => False) s := by
  have ho := (I.pin _ (List.mem_append_right _ hf)).1
  refine wpAny_call (PySem.W.kla_callFunE hroom ho rfl S.co S.gen rfl hcd ?_)
  rw [hb]
  refine wpAny_pure (wpAny_newFunctionEnv S.nocell (fun y hy => S.par _ (List.of_mem_zip (show (y.1, y.2) ∈ ps.zip us from hy)).1) (fun h₁ hns hsb => ⟨(I.nolimit).fresh _ hsb, ?_⟩) S.kind)
  have hk : ∀ b o, s.heap.get? b = some o -> h₁.get? b = some o := fun b o e => hsb.extBut b o (Nat.ne_of_lt (Heap.lt_size e)) (Heap.get?_push_of_some _ e)
  have J := z4W (qual := qual) (f := f) (cd := .ref c') (tk := s.toks + (ps.zip us).length) I hA hh S hl r hns hk
  show codeAny _ _ (.expr body (PySem.W.envX qual scope s.heap.objs.size f (.ref c') cl)) _ _
  refine PySem.W.kla_codeExpr (wpAny_mono (pb [] _ _ H Q J h) (fun u s' hq => ?_) fun _ _ z => (show False from z).elim)
  obtain ⟨v, H', J', rv, q⟩ := hq
  exact I.after ⟨v, H', J'.os, J'.bare, J'.base, J'.hok, rv, q⟩
end
def CodeAt (c : Addr) (qual : Str) (h : Heap) : Prop := ∃ o vs t, h.get? c = some o /\ o.data = .fields vs /\ vs[1]? = some (.str qual t)
theorem CodeAt.rec' {c : Addr} {qual : Str} {h : Heap} (x : CodeAt c qual h) : h.CodeRec (.ref c) qual := let ⟨o, vs, t, a, b, d⟩ := x; ⟨c, o, vs, t, rfl, a, b, d⟩
theorem CodeAt.of {c : Addr} {qual : Str} {h : Heap} (x : h.CodeRec (.ref c) qual) : CodeAt c qual h := by
  obtain ⟨c2, o, vs, t, e, a, b, d⟩ := x
  cases e
  exact ⟨o, vs, t, a, b, d⟩
def TabOk (P : Addr) (pos : Pos) (qual : Str) (H : Hp) : Prop :=
  H P = some (.tbl #[]) \/ ∃ c, H P = some (.tbl #[rawInt pos.line, rawInt pos.col, .ref c]) /\ H c = some (.ext (CodeAt c qual))
def SameP (P : Addr) (H H' : Hp) : Prop := ∀ b o, b ≠ P -> H b = some o -> H' b = some o
theorem SameP.refl (P : Addr) (H : Hp) : SameP P H H := fun _ _ _ h => h
theorem SameP.trans {P : Addr} {H H1 H2 : Hp} (a : SameP P H H1) (b : SameP P H1 H2) : SameP P H H2 := fun c o n h => b c o n (a c o n h)
theorem TabOk.keep {P : Addr} {pos : Pos} {qual : Str} {H H' : Hp} (t : TabOk P pos qual H) (e : Same H H') : TabOk P pos qual H' := by
  rcases t with t | ⟨c, t1, t2⟩
  . exact .inl (e _ _ t)
  . exact .inr ⟨c, e _ _ t1, e _ _ t2⟩
theorem TabOk.is {P : Addr} {pos : Pos} {qual : Str} {H : Hp} (t : TabOk P pos qual H) : ∃ ps, H P = some (.tbl ps) := by
  rcases t with t | ⟨c, t1, _⟩
  . exact ⟨_, t⟩
  . exact ⟨_, t1⟩
theorem TabOk.ne {P : Addr} {pos : Pos} {qual : Str} {H : Hp} (t : TabOk P pos qual H) {b : Addr} {o : HO} (h : H b = some o) (n : ∀ ps, o ≠ .tbl ps) : b ≠ P := by
  obtain ⟨ps, e⟩ := t.is
  exact z1b h e (n ps)
structure BaseT (mg : Str -> Option Value) (base : Heap) (c P : Addr) : Prop where
  code : PySem.W.CodeHd base c P
  blt : base.BuiltinsAt mg P
section
variable {X : Cx} {pins : List (Addr × Obj)} {σ : St} {H : Hp} {s : Shared}
theorem z3k {P c : Addr} {qual : Str} {h : Heap} {prog : Program} {w : World} {H : Hp} (x : CodeAt c qual h) : ObjOk prog w H h c (.ext (CodeAt c qual)) :=
  ⟨x, (let ⟨o, _, _, e, _⟩ := x; ⟨o, e⟩), fun h1 h2 y k => let ⟨o, vs, t, e, r⟩ := y; ⟨o, vs, t, k o e, r⟩⟩
theorem Inv.grown {P c : Addr} {qual : Str} {ps more : Array Value} {h' : Heap} {tk : Nat} (I : Inv X pins σ H s) (hP : H P = some (.tbl ps)) (hx : Heap.ExtBut P s.heap h') (hc : s.heap.objs.size <= c) (hcd : CodeAt c qual h') (ht : h'.get? P = some (PySem.W.tabObj (ps ++ more))) :
    Inv X pins σ (upd (upd H P (.tbl (ps ++ more))) c (.ext (CodeAt c qual))) { s with heap := h', toks := tk } := by
  have lt : ∀ {b : Addr} {o : Obj}, s.heap.get? b = some o -> b ≠ c := fun e z => absurd (Nat.lt_of_lt_of_le (Heap.lt_size e) hc) (by rw [z]; exact Nat.lt_irrefl _)
  have ltH : ∀ {b : Addr} {o : HO}, H b = some o -> b ≠ c := fun e z => absurd (Nat.lt_of_lt_of_le (I.hok.lt e) hc) (by rw [z]; exact Nat.lt_irrefl _)
  have nP : ∀ {b : Addr}, H b = none -> b ≠ P := fun n z => by rw [z, hP] at n; cases n
  have up : ∀ {b : Addr}, b ≠ c -> b ≠ P -> upd (upd H P (.tbl (ps ++ more))) c (.ext (CodeAt c qual)) b = H b := fun a b => by rw [z04 a, z04 b]
  have thr : ∀ b o, s.heap.get? b = some o -> ∃ o', h'.get? b = some o' := fun b o e => by
    by_cases z : b = P
    . exact ⟨_, by rw [z]; exact ht⟩
    . exact ⟨o, hx b o z e⟩
  have kindP : ∀ {b : Addr} {o : HO}, H b = some o -> (∀ q, o ≠ .tbl q) -> b ≠ P := fun e n => z1b e hP (n _)
  refine I.step (g' := s.gens) (d' := s.drawn) (t' := tk) (ch := []) (fun _ z => nomatch z) (fun b o _ _ _ e n => hx b o (nP n) e) (fun b o _ _ _ e n => ⟨o.slots, hx b o (nP n) e⟩) (fun b o _ e n => by rw [up (lt e) (nP n)]; exact n) (fun b o _ e => thr b o e)
    (fun b xs e => by rw [up (ltH e) (kindP e fun _ z => nomatch z)]; exact e) (fun b o u e => by rw [up (ltH e) (kindP e fun _ z => nomatch z)]; exact e) (fun b qs e => ?_) (fun m hm => ?_) (fun b u e => ?_) I.bare
  . by_cases z : b = P
    . subst z
      rw [hP] at e
      cases e
      exact ⟨more, by rw [z04 (ltH hP), z06]⟩
    . exact ⟨#[], by rw [up (ltH e) z, e]; simp⟩
  . obtain ⟨o, es, ep, ho, r⟩ := hm
    exact ⟨o, es, ep, hx _ _ (nP I.free) ho, r⟩
  . by_cases zc : b = c
    . subst zc
      rw [z06] at e
      cases e
      exact z3k (P := P) hcd
    . by_cases zP : b = P
      . subst zP
        rw [z04 zc, z06] at e
        cases e
        exact ht
      . rw [up zc zP] at e
        refine (I.hok b u e).stay (fun a v ha q => hx a v ?_ q) (fun a q => by rw [up (ltH q) (kindP q fun _ z => nomatch z)]; exact q) fun a xs q => by rw [up (ltH q) (kindP q fun _ z => nomatch z)]; exact q
        rcases ha with rfl | ha
        . exact zP
        . exact kindP ha fun _ z => nomatch z
theorem z3l {c P : Addr} {params : Arguments} {body : Expr} {scope : Scope} {pos : Pos} {qual : Str} {clos : List (Str × Addr)} {E : Value -> Shared -> Prop} {Q : Value -> Shared -> Prop} (I : Inv X pins σ H s) (B : BaseT X.mg X.base c P) (hcode : X.env.code = .ref c)
    (hq : X.env.qual ++ "<lambda>" = qual) (hdef : defaultsOf params X.env = ([], [])) (hcl : closureFor scope X.env = pure clos) (T : TabOk P pos qual H)
    (h : ∀ f c' pm ctv H' s', TabOk P pos qual H' -> SameP P H H' -> (∀ b, H b = none -> b < s.heap.objs.size -> H' b = none) -> Inv X ((f, PySem.W.kla_obj "<lambda>" qual params body scope clos pm c' ctv) :: pins) σ H' s' -> s'.heap.CodeRec (.ref c') qual -> H' c' = some (.ext (CodeAt c' qual)) -> Q (.ref f) s') :
    wpAny (model X.prog X.w) X.A (eval (.Lambda params body scope pos) X.env) Q E s := by
  refine PySem.W.kla_eval hdef ?_
  rw [hq]
  have hg := I.mod.glob.keeps I.bk
  have C := B.code.keeps I.bk
  obtain ⟨bm, ob, b1, b2, b3, b4, b5, b6⟩ := B.blt
  have Bl : s.heap.BuiltinsAt X.mg P := ⟨bm, ob, b1, b2, b3, b4, I.bk _ _ b5, b6⟩
  obtain ⟨tp, etp⟩ := T.is
  have oP : s.heap.get? P = some (PySem.W.tabObj tp) := I.hok P _ etp
  have hgP : mainGlobals ≠ P := fun z => by
    obtain ⟨o, es, ep, e, hd, _⟩ := hg
    rw [z, oP] at e
    cases e
    cases hd
  have pin : ∀ {h' : Heap} {H' : Hp} {tk : Nat} {o : Obj}, Inv X pins σ H' { s with heap := h', toks := tk } -> (∀ v, o.data ≠ .cell v) -> o.isFreed = false -> Inv X ((h'.objs.size, o) :: pins) σ H' { s with heap := h'.push o, toks := tk } := fun {h' H' tk o} J hd hfz => by
    have J2 : Inv X pins σ H' { s with heap := h'.push o, toks := tk } := J.kept (h' := h'.push o) (t' := tk) fun b u e => Heap.get?_push_of_some _ e
    have F := J.fpOk (H' := H') (b := h'.objs.size) (Nat.le_refl _) (J.hok.fresh (Nat.le_refl _))
    refine J2.pins_of fun p hp => ?_
    rcases List.mem_cons.mp hp with rfl | hp
    . exact ⟨Heap.get?_push_size _ hfz, F.1, F.2.1, F.2.2.1, hd⟩
    . exact J2.pin p (List.mem_append_right _ hp)
  rcases T with T | ⟨c', T1, T2⟩
  . rw [T] at etp
    cases etp
    refine PySem.W.kla_makeFunction hcl I.ok.glob hg hcode C oP trivial rfl hgP Bl fun c' ctv h' tk hx hge hlt hrec htb => ?_
    have hca := CodeAt.of hrec
    have hcP : c' ≠ P := fun z => absurd (Nat.lt_of_lt_of_le (Heap.lt_size oP) hge) (by rw [z]; exact Nat.lt_irrefl _)
    have J := I.grown (tk := tk) T hx hge hca htb
    have e1 : (upd (upd H P (.tbl (#[] ++ #[rawInt pos.line, rawInt pos.col, .ref c']))) c' (.ext (CodeAt c' qual))) P = some (.tbl #[rawInt pos.line, rawInt pos.col, .ref c']) := by
      rw [z04 (Ne.symm hcP), z06]
      simp
    refine h h'.objs.size c' _ ctv _ _ (.inr ⟨c', e1, z06⟩) (fun b o n e => ?_) (fun b n l => ?_) (pin J (fun v z => nomatch z) rfl) (hrec.keeps fun b o e => Heap.get?_push_of_some _ e) z06
    . have hbc : b ≠ c' := fun z => absurd (Nat.lt_of_lt_of_le (I.hok.lt e) hge) (by rw [z]; exact Nat.lt_irrefl _)
      rw [z04 hbc, z04 n]
      exact e
    . have hbc : b ≠ c' := fun z => absurd (Nat.lt_of_lt_of_le l hge) (by rw [z]; exact Nat.lt_irrefl _)
      have hbP : b ≠ P := fun z => by rw [z, T] at n; cases n
      rw [z04 hbc, z04 hbP]
      exact n
  . rw [T1] at etp
    cases etp
    obtain ⟨hca, _⟩ := I.hok c' _ T2
    refine PySem.W.kla_makeFunctionHit (cv := .ref c') hcl I.ok.glob hg hcode C oP (by simp [TriplesOk, rawInt]) (by simp [codeAmong, rawInt]) Bl fun ctv h' tk hk hsz => ?_
    have J : Inv X pins σ H { s with heap := h', toks := tk } := I.kept hk
    exact h h'.objs.size c' _ ctv _ _ (.inr ⟨c', T1, T2⟩) (.refl _ _) (fun _ n _ => n) (pin J (fun v z => nomatch z) rfl) (hca.rec'.keeps fun b o e => Heap.get?_push_of_some _ (hk b o e)) T2
end
def Order (key : Nat -> Int) (n : Nat) (ms : List Nat) : Prop := ms.Perm (List.range n) /\ ms.Pairwise fun i j => key i < key j \/ (key i = key j /\ i < j)
def z82 (ms : List Nat) : List V := ms.map fun i => V.int (i : Nat)
theorem z1K : ∀ {vs : List Value} {ns : List Int} {i : Nat} {v : Value}, IntsAre vs ns -> vs[i]? = some v -> ∃ n t, ns[i]? = some n /\ v = .int n t
  | _, _, _, _, .nil, e => by simp at e
  | _, _, 0, _, .cons n t _, e => by simp at e; exact ⟨n, t, rfl, e.symm⟩
  | _, _, i + 1, v, .cons _ _ h, e => by
    obtain ⟨n, t, a, b⟩ := z1K (i := i) (v := v) h (by simpa using e)
    exact ⟨n, t, by simpa using a, b⟩
theorem z1L : ∀ {xs : List V} {us : List Value} {i : Nat} {u : Value}, Vals xs us -> us[i]? = some u -> ∃ x, xs[i]? = some x /\ RelV x u
  | _, _, _, _, .nil, e => by simp at e
  | _, _, 0, _, .cons r _, e => by simp at e; subst e; exact ⟨_, rfl, r⟩
  | _, _, i + 1, u, .cons _ t, e => by
    obtain ⟨x, h1, h2⟩ := z1L (i := i) (u := u) t (by simpa using e)
    exact ⟨x, by simpa using h1, h2⟩
def z2Y (ts : List Addr) (ms : List Nat) : List V := ms.map fun i => V.ref (ts.getD i 0)
def z4e (ts : List Addr) : PayNum := ⟨fun v => match v with
  | .ref a => ((ts.idxOf a : Nat) : Int)
  | _ => 0⟩
theorem z1r : ∀ {ts : List Addr} {i : Nat} (_ : ts.Nodup) (hi : i < ts.length), ts.idxOf (ts[i]'hi) = i
  | [], _, _, hi => absurd hi (Nat.not_lt_zero _)
  | t :: ts, 0, _, _ => by simp
  | t :: ts, i + 1, nd, hi => by
    obtain ⟨h1, h2⟩ := List.nodup_cons.mp nd
    have hi' : i < ts.length := by simpa using hi
    have ne : t ≠ ts[i]'hi' := fun e => h1 (by rw [e]; exact List.getElem_mem _)
    show (t :: ts).idxOf (ts[i]'hi') = i + 1
    have ih := z1r h2 hi'
    have nb : (t == ts[i]'hi') = false := beq_eq_false_iff_ne.mpr ne
    rw [List.idxOf_cons, nb, ih]
    rfl
section
variable {keys items : Array Value} {n : Nat} {key : Nat -> Int} {ts : List Addr}
theorem z3K (hts : ts.length = n) (hk : IntsAre keys.toList ((List.range n).map key)) (hi : Vals (ts.map V.ref) items.toList) {i : Nat} {p : Keyed} (h : (keys.zip items)[i]? = some p) : ∃ hlt : i < ts.length, ∃ t, p = (.int (key i) t, .ref (ts[i]'hlt)) := by
  rw [<- Array.getElem?_toList, Array.toList_zip, List.getElem?_zip_eq_some] at h
  obtain ⟨h1, h2⟩ := h
  obtain ⟨m, t, e1, e2⟩ := z1K hk h1
  obtain ⟨x, e3, r⟩ := z1L hi h2
  have hlt : i < ts.length := by
    have := (List.getElem?_eq_some_iff.mp e3).1
    rwa [List.length_map] at this
  rw [List.getElem?_map, List.getElem?_range (by omega)] at e1
  cases e1
  rw [List.getElem?_map, List.getElem?_eq_getElem hlt] at e3
  cases e3
  exact ⟨hlt, t, Prod.ext e2 r⟩
theorem z3L (hts : ts.length = n) (hk : IntsAre keys.toList ((List.range n).map key)) (hi : Vals (ts.map V.ref) items.toList) {p : Keyed} (h : p ∈ (keys.zip items).toList) : ∃ (i : Nat) (hlt : i < ts.length) (t : Tok), p = (.int (key i) t, .ref (ts[i]'hlt)) := by
  obtain ⟨i, hi'⟩ := List.mem_iff_getElem?.mp h
  rw [Array.getElem?_toList] at hi'
  obtain ⟨h1, t, e⟩ := z3K hts hk hi hi'
  exact ⟨i, h1, t, e⟩
theorem z1A (hts : ts.length = n) (hk : IntsAre keys.toList ((List.range n).map key)) (hi : Vals (ts.map V.ref) items.toList) : (keys.zip items).size = n := by
  have h1 := hk.length
  have h2 : ts.length = items.size := by
    have := hi.length
    simpa using this
  rw [Array.length_toList, List.length_map, List.length_range] at h1
  rw [Array.size_zip]
  omega
theorem z6T (hts : ts.length = n) (hnd : ts.Nodup) (hk : IntsAre keys.toList ((List.range n).map key)) (hi : Vals (ts.map V.ref) items.toList) (i : Nat) (h : i < (keys.zip items).size) : J (PN := z4e ts) (keys.zip items) i = i := by
  obtain ⟨hlt, t, e⟩ := z3K hts hk hi (getElem?_pos (keys.zip items) i h)
  unfold J
  rw [getElem?_pos (keys.zip items) i h, e]
  show ((ts.idxOf (ts[i]'hlt) : Nat) : Int) = i
  rw [z1r hnd hlt]
theorem z3m (hts : ts.length = n) (hk : IntsAre keys.toList ((List.range n).map key)) (hi : Vals (ts.map V.ref) items.toList) : IntKeys (keys.zip items) := fun p hp => by
  obtain ⟨i, _, t, e⟩ := z3L hts hk hi hp
  exact ⟨_, _, by rw [e]⟩
def plc (ts : List Addr) (p : Keyed) : Nat := ((z4e ts).num p.2).toNat
theorem z2Q {ts : List Addr} (hnd : ts.Nodup) {i : Nat} (hlt : i < ts.length) {k : Value} : plc ts (k, .ref (ts[i]'hlt)) = i := by
  unfold plc
  show (((ts.idxOf (ts[i]'hlt) : Nat) : Int)).toNat = i
  rw [z1r hnd hlt, Int.toNat_natCast]
theorem z2R (hnd : ts.Nodup) : ∀ (l : List Keyed), (∀ p ∈ l, ∃ (i : Nat) (hlt : i < ts.length) (k : Value), p = (k, .ref (ts[i]'hlt))) -> Vals (z2Y ts (l.map (plc ts))) (l.map (·.2))
  | [], _ => .nil
  | p :: l, h => by
    obtain ⟨i, hlt, k, e⟩ := h p List.mem_cons_self
    refine .cons ?_ (z2R hnd l fun q hq => h q (List.mem_cons_of_mem _ hq))
    show p.2 = Value.ref (ts.getD (plc ts p) 0)
    rw [e, z2Q hnd hlt, List.getD_eq_getElem?_getD, List.getElem?_eq_getElem hlt]
    rfl
theorem z3n (hts : ts.length = n) (hnd : ts.Nodup) (hk : IntsAre keys.toList ((List.range n).map key)) (hi : Vals (ts.map V.ref) items.toList) {xs : Array Keyed} (hp : xs.Perm (keys.zip items)) (hs : StabTo (PN := z4e ts) xs n) :
    ∃ ms : List Nat, Vals (z2Y ts ms) (xs.map (·.2)).toList /\ Order key n ms := by
  have hl : xs.toList.Perm (keys.zip items).toList := Array.perm_iff_toList_perm.mp hp
  have hm : ∀ p ∈ xs.toList, ∃ (i : Nat) (hlt : i < ts.length) (t : Tok), p = (.int (key i) t, .ref (ts[i]'hlt)) := fun p h => z3L hts hk hi (hl.mem_iff.mp h)
  have hsz : xs.size = n := by rw [hp.size_eq]; exact z1A hts hk hi
  refine ⟨xs.toList.map (plc ts), ?_, ?_, ?_⟩
  . rw [Array.toList_map]
    exact z2R hnd _ fun p h => let ⟨i, hlt, t, e⟩ := hm p h; ⟨i, hlt, _, e⟩
  . have h1 := hl.map (plc ts)
    have e2 : (keys.zip items).toList.map (plc ts) = List.range n := by
      refine List.ext_getElem? fun i => ?_
      rw [List.getElem?_map, Array.getElem?_toList]
      cases q : (keys.zip items)[i]? with
      | none =>
        rw [Array.getElem?_eq_none_iff, z1A hts hk hi] at q
        rw [List.getElem?_eq_none (by rw [List.length_range]; exact q)]
        rfl
      | some p =>
        obtain ⟨h1, t, e⟩ := z3K hts hk hi q
        rw [e, List.getElem?_range (by omega)]
        show some (plc ts _) = some i
        rw [z2Q hnd h1]
    rw [e2] at h1
    exact h1
  . rw [List.pairwise_map, List.pairwise_iff_getElem]
    intro i j hi' hj' hij
    rw [Array.length_toList] at hi' hj'
    have q := hs i j hij (by omega)
    obtain ⟨a, la, t, ea⟩ := hm _ (List.getElem_mem (l := xs.toList) (by rw [Array.length_toList]; exact hi'))
    obtain ⟨b, lb, t', eb⟩ := hm _ (List.getElem_mem (l := xs.toList) (by rw [Array.length_toList]; exact hj'))
    have ga : xs[i]? = some (.int (key a) t, .ref (ts[a]'la)) := by rw [<- ea, Array.getElem_toList]; exact getElem?_pos _ _ _
    have gb : xs[j]? = some (.int (key b) t', .ref (ts[b]'lb)) := by rw [<- eb, Array.getElem_toList]; exact getElem?_pos _ _ _
    unfold K J at q
    rw [ga, gb] at q
    rw [ea, eb, z2Q hnd la, z2Q hnd lb]
    have q' : key a < key b \/ (key a = key b /\ ((ts.idxOf (ts[a]'la) : Nat) : Int) < ((ts.idxOf (ts[b]'lb) : Nat) : Int)) := q
    rw [z1r hnd la, z1r hnd lb] at q'
    rcases q' with z | ⟨z1, z2⟩
    . exact .inl z
    . exact .inr ⟨z1, by omega⟩
end
section
variable {X : Cx} {pins : List (Addr × Obj)} {σ : St} {H : Hp} {s : Shared} {A : Around} {E : Value -> Shared -> Prop} {a kS f : Addr} {keys items : Array Value} {n e e1 : Nat} {key : Nat -> Int} {ts : List Addr} {P : PySem.Fin -> Shared -> Prop}
theorem z1s {st : SortSt} (I : Inv X ((kS, seqObj "list" keys e) :: (a, seqObj "list" #[] e1) :: pins) σ H s) (Fa : z1R X pins H a) (Fk : z1R X ((a, seqObj "list" #[] e1) :: pins) H kS) (hk : IntsAre keys.toList ((List.range n).map key)) (hts : ts.length = n) (hnd : ts.Nodup) (hi : Vals (ts.map V.ref) items.toList) (h64 : n < 64)
    (hp : (arrOf st).Perm (keys.zip items)) (hs : StabTo (PN := z4e ts) (arrOf st) n) (hfl : failedOf st = none)
    (h : ∀ ms s', Inv X pins σ (upd H a (.lst (z2Y ts ms))) s' -> Order key n ms -> P (.done (.ret .none)) s') : wpAny (model X.prog X.w) A (ksk_tail a false e1 (.ref kS) st) P E s := by
  have nk := I.pin (kS, seqObj "list" keys e) (List.mem_append_right _ List.mem_cons_self)
  have na := I.pin (a, seqObj "list" #[] e1) (List.mem_append_right _ (List.mem_cons_of_mem _ List.mem_cons_self))
  have hka : a ≠ kS := Fk.2.2.2.2.2 (a, seqObj "list" #[] e1) (List.mem_append_right _ List.mem_cons_self)
  have hksz : keys.size = n := by
    have h1 := hk.length
    rw [Array.length_toList, List.length_map, List.length_range] at h1
    exact h1
  have hout : ((arrOf st).map (·.2)).size = n := by rw [Array.size_map, hp.size_eq, z1A hts hk hi]
  have s1 := Heap.SameBut.update s.heap kS (Obj.mapSeq fun _ => (#[] : Array Value))
  have na1 : (s.heap.update kS (Obj.mapSeq fun _ => (#[] : Array Value))).get? a = some (seqObj "list" #[] e1) := (s1.2 a hka).trans na.1
  have s2 := Heap.SameBut.update (s.heap.update kS (Obj.mapSeq fun _ => (#[] : Array Value))) a (Obj.mapSeq fun _ => (arrOf st).map (·.2))
  obtain ⟨c2, hc2⟩ : ∃ c2, ((s.heap.update kS (Obj.mapSeq fun _ => (#[] : Array Value))).update a (Obj.mapSeq fun _ => (arrOf st).map (·.2))).get? a = some (seqObj "list" ((arrOf st).map (·.2)) c2) :=
    ⟨_, get?_update_seq na1 fun _ => (arrOf st).map (·.2)⟩
  obtain ⟨ms, hv, ho⟩ := z3n hts hnd hk hi hp hs
  unfold ksk_tail
  dsimp only
  refine wpAny_bind (listUpdate_at nk.1 rfl ?_ (by rw [hksz, sizeLine_eq]; omega) (Nat.zero_le _))
  refine wpAny_bind (wpAny_letGo ?_)
  refine wpAny_bind (seqEpoch_at na1 rfl ?_)
  refine wpAny_bind (listUpdate_at na1 rfl ?_ (Nat.zero_le _) (Nat.le_trans (Nat.le_of_eq hout) (by rw [sizeLine_eq]; omega)))
  rw [hfl]
  simp only [bne_self_eq_false, Bool.false_eq_true, if_false]
  have J1 : Inv X ((a, seqObj "list" #[] e1) :: pins) σ H s := I.pins_of fun p hp => I.pin p (List.mem_append_right _ (List.mem_cons_of_mem _ hp))
  have J2 : Inv X ((a, seqObj "list" #[] e1) :: pins) σ H { s with heap := s.heap.update kS (Obj.mapSeq fun _ => (#[] : Array Value)), toks := s.toks } := J1.turned (fun b o hb q => (s1.2 b hb).trans q) Fk.1 Fk.2.1 Fk.2.2.2.1 Fk.2.2.2.2.1 Fk.2.2.2.2.2
  have J3 : Inv X pins σ H { s with heap := s.heap.update kS (Obj.mapSeq fun _ => (#[] : Array Value)), toks := s.toks } := J2.pins_of fun p hp => J2.pin p (List.mem_append_right _ (List.mem_cons_of_mem _ hp))
  refine wpAny_pure (h ms _ (J3.adopt (tk := s.toks) Fa (fun b o hb q => (s2.2 b hb).trans q) ⟨_, hc2⟩ ⟨?_, _, c2, hv, by rw [Array.toArray_toList]; exact hc2⟩) ho)
  have := hv.length
  rw [this, Array.length_toList, hout, sizeLine_eq]
  omega
theorem z3o (I : Inv X ((kS, seqObj "list" keys e) :: (a, seqObj "list" #[] e1) :: pins) σ H s) (Fa : z1R X pins H a) (Fk : z1R X ((a, seqObj "list" #[] e1) :: pins) H kS) (hk : IntsAre keys.toList ((List.range n).map key)) (hts : ts.length = n) (hnd : ts.Nodup) (hi : Vals (ts.map V.ref) items.toList) (h64 : n < 64)
    (h : ∀ ms s', Inv X pins σ (upd H a (.lst (z2Y ts ms))) s' -> Order key n ms -> P (.done (.ret .none)) s') : wpAny (model X.prog X.w) A (ksk_end a false items e1 (.ref kS) keys) P E s := by
  have hz := z1A hts hk hi
  have hsz : items.size = n := by
    have h2 : ts.length = items.size := by
      have := hi.length
      simpa using this
    omega
  have hksz : keys.size = n := by
    have h1 := hk.length
    rw [Array.length_toList, List.length_map, List.length_range] at h1
    exact h1
  unfold ksk_end
  simp only [Bool.false_eq_true, if_false]
  by_cases h2 : items.size < 2
  . rw [if_pos h2, if_pos h2]
    refine wpAny_bind (wpAny_pure ?_)
    rw [StateT.run_pure]
    refine wpAny_bind (wpAny_pure ?_)
    dsimp only
    exact z1s (st := SortSt.mk' general' (keys.zip items) #[] 7 none) I Fa Fk hk hts hnd hi h64 (Array.Perm.refl _) (fun i j hij hj => by omega) rfl h
  . rw [if_neg h2, if_neg h2, ksk_kind hk (by omega)]
    refine wpAny_bind (wpAny_pure ?_)
    refine wpAny_bind (wpAny_mono (z25 (PN := z4e ts) (a₀ := keys.zip items) (st := SortSt.mk' oneType' (keys.zip items) #[] 7 none)
      (Q := fun _ st' => (arrOf st').Perm (keys.zip items) /\ failedOf st' = none /\ StabTo (PN := z4e ts) (arrOf st') n) (z3m hts hk hi) ⟨Array.Perm.refl _, rfl, rfl, rfl⟩ (z6T hts hnd hk hi) (by omega) (by omega) fun st' a1 a2 a3 => ⟨a1, a2, by rw [hz] at a3; exact a3⟩) ?_ fun _ _ e => e)
    rintro ⟨⟨⟩, st'⟩ s' ⟨rfl, hp, hf, hs⟩
    dsimp only
    exact z1s I Fa Fk hk hts hnd hi h64 hp hs hf h
theorem z3M (I : Inv X ((kS, seqObj "list" #[] 0) :: (a, seqObj "list" #[] e1) :: pins) σ H s) (Fa : z1R X pins H a) (Fk : z1R X ((a, seqObj "list" #[] e1) :: pins) H kS) (hts : ts.length = n) (hnd : ts.Nodup) (hi : Vals (ts.map V.ref) items.toList) (h64 : n < 64)
    (turn : ∀ (i : Nat) (s' : Shared) (more : List (Addr × Obj)) (hlt : i < ts.length), Inv X (more ++ pins) σ H s' -> wpAny (model X.prog X.w) A (call (.ref f) [.ref (ts[i]'hlt)]) (EP X (more ++ pins) σ fun v H' => v = .int (key i) /\ H' = H) (fun _ _ => False) s')
    (h : ∀ ms s', Inv X pins σ (upd H a (.lst (z2Y ts ms))) s' -> Order key n ms -> P (.done (.ret .none)) s') : wpAny (model X.prog X.w) A (ksk_rest a (.ref f) false items e1 (.ref kS)) P E s := by
  have hsz : items.toList.length = n := by
    have h2 : ts.length = items.toList.length := by
      have := hi.length
      simpa using this
    omega
  unfold ksk_rest
  refine wpAny_bind (wpAny_rule ?_)
  rw [<- Array.forIn_toList]
  refine wpAny_bind (ksk_fold (fun i s' => ∃ kA e, Inv X ((kS, seqObj "list" kA e) :: (a, seqObj "list" #[] e1) :: pins) σ H s' /\ IntsAre kA.toList ((List.range i).map key)) items.toList 0 s ⟨#[], 0, I, .nil⟩ ?step ?done)
  case step =>
    rintro j x s' hx ⟨kA, e, J, hk⟩
    simp only [Nat.zero_add] at hk ⊢
    have hj : j < n := by rw [<- hsz]; exact (List.getElem?_eq_some_iff.mp hx).1
    obtain ⟨y, hy, ry⟩ := z1L hi hx
    have hlt : j < ts.length := by omega
    rw [List.getElem?_map, List.getElem?_eq_getElem hlt] at hy
    cases hy
    obtain rfl : x = Value.ref (ts[j]'hlt) := ry
    have hz : kA.size <= n := by
      have h1 := hk.length
      rw [Array.length_toList, List.length_map, List.length_range] at h1
      omega
    refine wpAny_bind (wpAny_attempt (wpAny_mono (turn j s' [(kS, seqObj "list" kA e), (a, seqObj "list" #[] e1)] hlt J) (fun v s'' he => ?_) fun _ _ hF => hF.elim))
    obtain ⟨v', H', J', rv, hv, hH⟩ := he
    subst hv hH
    obtain ⟨t2, rfl⟩ := rv
    have J' : Inv X ((kS, seqObj "list" kA e) :: (a, seqObj "list" #[] e1) :: pins) σ H' s'' := J'
    dsimp only
    have nk := J'.pin (kS, seqObj "list" kA e) (List.mem_append_right _ List.mem_cons_self)
    have s1 := Heap.SameBut.update s''.heap kS (Obj.mapSeq (·.push (.int (key j) t2)))
    obtain ⟨c2, hc2⟩ : ∃ c2, (s''.heap.update kS (Obj.mapSeq (·.push (.int (key j) t2)))).get? kS = some (seqObj "list" (kA.push (.int (key j) t2)) c2) := ⟨_, get?_update_seq nk.1 (·.push (.int (key j) t2))⟩
    have ek : (List.range (j + 1)).map key = (List.range j).map key ++ [key j] := by rw [List.range_succ, List.map_append]; rfl
    have ea : (kA.push (Value.int (key j) t2)).toList = kA.toList ++ [Value.int (key j) t2] := by simp
    refine wpAny_bind (listUpdate_at nk.1 rfl ?_ (by rw [sizeLine_eq]; omega) (Nat.le_trans (Nat.le_of_eq (Array.size_push ..)) (by rw [sizeLine_eq]; omega)))
    have J1 : Inv X ((a, seqObj "list" #[] e1) :: pins) σ H' s'' := J'.pins_of fun p hp => J'.pin p (List.mem_append_right _ (List.mem_cons_of_mem _ hp))
    have J2 : Inv X ((a, seqObj "list" #[] e1) :: pins) σ H' { s'' with heap := s''.heap.update kS (Obj.mapSeq (·.push (.int (key j) t2))), toks := s''.toks } := J1.turned (fun b o hb q => (s1.2 b hb).trans q) Fk.1 Fk.2.1 Fk.2.2.2.1 Fk.2.2.2.2.1 Fk.2.2.2.2.2
    refine wpAny_pure ⟨rfl, kA.push (.int (key j) t2), c2, J2.pins_of fun p hp => ?_, by rw [ea, ek]; exact ksk_snoc hk⟩
    rcases List.mem_cons.mp hp with rfl | hp
    . exact ⟨hc2, Fk.1, Fk.2.1, Fk.2.2.1, fun v z => nomatch z⟩
    . exact J2.pin p (List.mem_append_right _ hp)
  case done =>
    rintro s' ⟨kA, e, J, hk⟩
    rw [Nat.zero_add, hsz] at hk
    have nk := J.pin (kS, seqObj "list" kA e) (List.mem_append_right _ List.mem_cons_self)
    refine wpAny_bind (listItems_at nk.1 rfl ?_)
    exact z3o J Fa Fk hk hts hnd hi h64 h
theorem z3N {n0 : Nat} (I : Inv X pins σ H s) (ho : s.heap.get? a = some (seqObj "list" items n0)) (Fa : z1R X pins H a) (hts : ts.length = n) (hnd : ts.Nodup) (hi : Vals (ts.map V.ref) items.toList) (h64 : n < 64)
    (turn : ∀ (i : Nat) (s' : Shared) (more : List (Addr × Obj)) (hlt : i < ts.length), Inv X (more ++ pins) σ H s' -> wpAny (model X.prog X.w) A (call (.ref f) [.ref (ts[i]'hlt)]) (EP X (more ++ pins) σ fun v H' => v = .int (key i) /\ H' = H) (fun _ _ => False) s')
    (h : ∀ ms s', Inv X pins σ (upd H a (.lst (z2Y ts ms))) s' -> Order key n ms -> P (.done (.ret .none)) s') : wpAny (model X.prog X.w) A (ksk_tree a (.ref f) false) P E s := by
  have hsz : items.size = n := by
    have h2 : ts.length = items.size := by
      have := hi.length
      simpa using this
    omega
  have s1 := Heap.SameBut.update s.heap a (Obj.mapSeq fun _ => (#[] : Array Value))
  obtain ⟨e1, ho1⟩ : ∃ e1, (s.heap.update a (Obj.mapSeq fun _ => (#[] : Array Value))).get? a = some (seqObj "list" #[] e1) := ⟨_, get?_update_seq ho fun _ => #[]⟩
  have J1 : Inv X pins σ H { s with heap := s.heap.update a (Obj.mapSeq fun _ => (#[] : Array Value)), toks := s.toks } := I.turned (fun b o hb q => (s1.2 b hb).trans q) Fa.1 Fa.2.1 Fa.2.2.2.1 Fa.2.2.2.2.1 Fa.2.2.2.2.2
  have J2 : Inv X ((a, seqObj "list" #[] e1) :: pins) σ H { s with heap := s.heap.update a (Obj.mapSeq fun _ => (#[] : Array Value)), toks := s.toks } := J1.pins_of fun p hp => by
    rcases List.mem_cons.mp hp with rfl | hp
    . exact ⟨ho1, Fa.1, Fa.2.1, Fa.2.2.1, fun v z => nomatch z⟩
    . exact J1.pin p (List.mem_append_right _ hp)
  unfold ksk_tree
  refine wpAny_bind (listItems_at ho rfl ?_)
  refine wpAny_bind (listUpdate_at ho rfl ?_ (by rw [hsz, sizeLine_eq]; omega) (Nat.zero_le _))
  refine wpAny_bind (seqEpoch_at ho1 rfl ?_)
  refine wpAny_bind (wpAny_newTuple ?_ (by rw [Array.length_toList, hsz, sizeLine_eq]; omega))
  refine wpAny_bind (wpAny_newList ?_ (Nat.zero_le _))
  refine wpAny_holding ?_
  have J3 : Inv X ((a, seqObj "list" #[] e1) :: pins) σ H { s with heap := (s.heap.update a (Obj.mapSeq fun _ => (#[] : Array Value))).push (seqObj "tuple" items.toList.toArray 0), toks := s.toks } := J2.kept (t' := s.toks) fun b o q => Heap.get?_push_of_some _ q
  have Fk := J3.fpOk (H' := H) (b := ((s.heap.update a (Obj.mapSeq fun _ => (#[] : Array Value))).push (seqObj "tuple" items.toList.toArray 0)).objs.size) (Nat.le_refl _) (J3.hok.fresh (Nat.le_refl _))
  have J4 : Inv X ((a, seqObj "list" #[] e1) :: pins) σ H { s with heap := ((s.heap.update a (Obj.mapSeq fun _ => (#[] : Array Value))).push (seqObj "tuple" items.toList.toArray 0)).push (seqObj "list" #[] 0), toks := s.toks } := J3.kept (t' := s.toks) fun b o q => Heap.get?_push_of_some _ q
  refine z3M (kS := ((s.heap.update a (Obj.mapSeq fun _ => (#[] : Array Value))).push (seqObj "tuple" items.toList.toArray 0)).objs.size) (J4.pins_of fun p hp => ?_) Fa Fk hts hnd hi h64 turn h
  rcases List.mem_cons.mp hp with rfl | hp
  . exact ⟨Heap.get?_push_size _ rfl, Fk.1, Fk.2.1, Fk.2.2.1, fun v z => nomatch z⟩
  . exact J4.pin p (List.mem_append_right _ hp)
end
def z3O (K : PySem.W.Frag) (P : Addr) (pos : Pos) (qual : Str) (te tb : TE) : TE := fun σ H Q => te σ H fun x H1 => ∃ (p : Addr) (ts : List Addr) (key : Nat -> Int), x = .ref p /\ SqL K H1 p (ts.map V.ref) /\ ts.Nodup /\ ts.length < 64 /\ TabOk P pos qual H1 /\
  (∀ i, (hi : i < ts.length) -> ∀ H2, SameP P H1 H2 -> tb (some (.ref (ts[i]'hi)) :: σ) H2 fun v H' => v = .int (key i) /\ H' = H2) /\
  ∀ H2 l ms, TabOk P pos qual H2 -> SameP P H1 H2 -> H1 l = none -> Order key ts.length ms -> H2 l = some (.lst (z2Y ts ms)) -> Q (.ref l) H2
section
variable {X : Cx}
theorem z26 {k : Nat} {c P : Addr} {e : Expr} {te tb : TE} {params : Arguments} {body : Expr} {scope : Scope} {pos kp p1 p4 : Pos} {qual x : Str} {cl : List (Str × Addr)} (hr : Room k X.A) (B : BaseT X.mg X.base c P) (hcode : X.env.code = .ref c)
    (hq : X.env.qual ++ "<lambda>" = qual) (hdef : defaultsOf params X.env = ([], [])) (hcl : closureFor scope X.env = pure cl) (S : LamScope X [x] scope cl)
    (hb : ∀ (pm cd ctv u : Value), bindArgs (PySem.W.kla_fn "<lambda>" qual params body scope cl pm cd ctv) ⟨[u], []⟩ = pure [(x, u)])
    (hgs : Gl X "sorted") (hms : X.mg "sorted" = none) (ha : PE X e te)
    (pb : ∀ (f c' : Addr) (A : Around) (s : Shared) (H : Hp), PE (z3J X [x] qual scope f (.ref c') cl A s H) body tb)
    (hs1 : starEach [e] X.env = [(false, eval e X.env)] := by rfl) :
    PE X (.Call (.Name "sorted" p1) [e] [⟨some "key", .Lambda params body scope pos, kp⟩] p4) (z3O X.K P pos qual te tb) := by
  intro pins s σ H Q I h
  refine wpAny_Call_Name_kw (z1C I hgs hms PyProof.Rows.boot_sorted ?_)
  refine PyProof.Rows.callWith_kw ?_ (by rw [hs1]; rfl) (by rw [hs1]; rfl)
  rw [hs1]
  refine Calls.spliced_cons (thn (ha pins s σ H _ I h) fun u s1 ⟨y, H1, I1, r1, q1⟩ => Calls.spliced_nil ?_)
  obtain ⟨p, ts, key, rfl, hl, hnd, hn, T, hkey, q⟩ := q1
  cases r1
  refine PyProof.Rows.kws_cons (z3l I1 B hcode hq hdef hcl T fun f c' pm ctv H2 s2 T2 e2 fr2 J hcd hc' => PyProof.Rows.kws_nil ?_)
  show wpAny _ _ (call (.builtin "sorted") [.ref p] [(Str.ofString "key", .ref f)]) _ _ s2
  have hh : X.A.handled = none := hr.hd
  have hl2 : SqL X.K H2 p (ts.map V.ref) := by
    rcases hl with (hl | ⟨o, hl⟩) | hl
    . exact .inl (.inl (e2 _ _ (T.ne hl fun _ z => nomatch z) hl))
    . exact .inl (.inr ⟨o, e2 _ _ (T.ne hl fun _ z => nomatch z) hl⟩)
    . exact .inr hl
  obtain ⟨its, rv, pl, hz⟩ := J.list hl2
  have hal := rv.length
  rw [List.length_map] at hal
  refine call_function_entry_kw PyProof.Rows.kind_sorted PyProof.Rows.plain_sorted PyProof.Rows.entry_sorted (ksk_s1 _ _) ?_
  unfold Builtin.«sorted»
  refine wpAny_bind (m := checkCount "sorted" 1 1 _) (wpAny_pure ?_)
  refine wpAny_bind (collect_list pl.isList ?_ (by rw [<- hal, sizeLine_eq]; omega))
  refine wpAny_bind (wpAny_newList ?_ (by rw [<- hal, sizeLine_eq]; omega))
  have hk : ∀ b o, s2.heap.get? b = some o -> ((s2.heap.push (seqObj "list" #[] 0)).update s2.heap.objs.size (Obj.mapSeq (· ++ its.toArray))).get? b = some o := fun b o eb => by
    have hlt : b < s2.heap.objs.size := Heap.lt_size eb
    rw [Heap.get?_update_ne _ _ _ _ (Nat.ne_of_lt hlt), Heap.get?_push_ne _ _ _ (Nat.ne_of_lt hlt)]
    exact eb
  generalize (s2.heap.push (seqObj "list" #[] 0)).update s2.heap.objs.size (Obj.mapSeq (· ++ its.toArray)) = h' at hk
  have J2 := J.kept (h' := h') (t' := s2.toks) hk
  have Fa := J2.fpOk (H' := H2) (b := h'.objs.size) (Nat.le_refl _) (J2.hok.fresh (Nat.le_refl _))
  have J3 := J2.kept (h' := h'.push (seqObj "list" its.toArray 0)) (t' := s2.toks) fun b o z => Heap.get?_push_of_some _ z
  have ho : (h'.push (seqObj "list" its.toArray 0)).get? h'.objs.size = some (seqObj "list" its.toArray 0) := Heap.get?_push_size _ rfl
  have hcd3 : CodeAt c' qual s2.heap := CodeAt.of hcd
  refine wpAny_bind (wpAny_holding (wpAny_call_entry_kw PyProof.Rows.slot_list_sort ⟨_, ho, rfl⟩ PyProof.Rows.entry_list_sort ?body (ksk_l1 _ _)))
  rw [ksk_t1]
  refine z3N (n := ts.length) (key := key) J3 ho Fa rfl hnd (by simpa using rv) hn (fun i s' more hlt J' => ?_) fun ms s' J' hO => ⟨_, rfl, wpAny_pure ⟨_, rfl, ?_⟩⟩
  . obtain ⟨hca, _⟩ := J'.hok c' _ hc'
    have rm := hr.dp
    refine z3j (ps := [x]) (vs := [.ref (ts[i]'hlt)]) (tb := tb) J' J'.ok.frames hh (show X.A.depth < recursionLimit by omega) S (List.mem_append_right _ List.mem_cons_self) hca.rec' (hb _ _ _ _) rfl (.cons rfl .nil) (pb f c' _ s' H2) ?_
    exact hkey i hlt H2 e2
  . have J4 : Inv X pins σ (upd H2 h'.objs.size (.lst (z2Y ts ms))) s' := J'.pins_of fun p hp => J'.pin p (List.mem_append_right _ (List.mem_cons_of_mem _ hp))
    have ne2 : ∀ {b : Addr} {o : HO}, H2 b = some o -> b ≠ h'.objs.size := fun z => z08 z Fa.1
    refine ⟨.ref h'.objs.size, _, J4, rfl, q _ _ ms (T2.keep fun b o z => by rw [z04 (ne2 z)]; exact z) (fun b o nb z => ?_) ?_ hO z06⟩
    . have z2 := e2 b o nb z
      rw [z04 (ne2 z2)]
      exact z2
    . cases z : H1 h'.objs.size with
      | none => rfl
      | some o =>
        have nP : h'.objs.size ≠ P := fun y => by
          obtain ⟨tp, etp⟩ := T2.is
          rw [<- y] at etp
          rw [Fa.1] at etp
          cases etp
        have z2 := e2 _ o nP z
        rw [Fa.1] at z2
        cases z2
end
section
variable {X : Cx} {ps : List Str} {qual : Str} {scope : Scope} {f : Addr} {cd : Value} {cl : List (Str × Addr)} {A : Around} {s : Shared} {H : Hp}
theorem z4X : IxR (z3J X ps qual scope f cd cl A s H) (z5y X.K) := z0Z
theorem LamScope.zero {x : Str} (hk : scope.kind = .function) (hco : scope.isCoroutine = false) (hge : scope.isGenerator = false) (hn : scope.names = [(x, .local)]) (hN : x ∉ X.N) :
    LamScope X [x] scope [] where
  kind := hk
  co := hco
  gen := hge
  nd := by simp
  par := fun z hz => by
    rw [List.mem_singleton.mp hz, hn]
    simp [List.lookup_cons]
  nocell := fun z hz => by
    rw [hn] at hz
    rw [List.mem_singleton.mp hz]; nofun
  free := fun z hz => by
    rw [hn, List.lookup_cons] at hz
    cases h1 : z == x with
    | true => rw [h1] at hz; cases hz
    | false => rw [h1] at hz; cases hz
  sub := fun z d hz => by cases hz
  dis := fun z hz => by
    have ne : z ≠ x := fun e => hN (by rw [<- e]; exact hz)
    rw [hn, List.lookup_cons, beq_eq_false_iff_ne.mpr ne]
    nofun
end
section
variable {P : Program} {w : World} {K : PySem.W.Frag} {mg : Str -> Option Value} {base : Heap}
theorem Fun.okc {x qual : Str} {st : Stmt} {f c : Addr} {fd : FuncData} {N ps : List Str} {k : Nat} {sp : Sp} (F : Fun K x qual st f fd) (hc : fd.code = .ref c) (S : FnScope N ps (z02 st)) (len : ∀ vs H Q E, sp vs H Q E -> vs.length = ps.length)
    (hbody : ∀ (A : Around) (outer : List Env) (s : Shared) (H : Hp) (vs : List V) (Q : VK) (E : XK), Room k (A.deeper (envOfC qual (z02 st) s.heap.objs.size f (.ref c))) -> sp vs H Q E ->
      ∃ t, PSs (z3y CX0 P w K mg base N qual (z02 st) f (.ref c) A outer s H E).nox (z0C st) t /\ t { nx := fun _ H' => Q .non H', rt := Q } (start N vs) H) : FnOk P w K mg base CX0 (k + 1) f fd ps sp := by
  obtain ⟨oc, od, kV, doc, pm, an, cdv, ct, osl, rfl, lk, hcd⟩ := F.ex
  obtain rfl : cdv = .ref c := hc
  refine z4E lk hcd S len fun A outer s H vs Q E hr hsp => ?_
  obtain ⟨t, h, q⟩ := hbody A outer s H vs Q E hr hsp
  exact ⟨t, h.nox, q⟩
end
theorem z3P {P : Program} {w : World} {K : PySem.W.Frag} {mg mb : Str -> Option Value} {k : Nat} {fa a c tp : Addr} {fd : FuncData} {x : Str} {sp : Sp} {s₁ : Shared} {vs : List Value} {ns : List Int}
    (KX : K.In s₁.heap) (hns : s₁.heap.Ns mainGlobals mg) (hb : s₁.heap.Ns builtinsNs mb) (hbb : ∀ x : Str, x ≠ "__name__" -> mb x = bootBuiltins x) (hlim : s₁.heap.NoLimit) (hg : s₁.gens = #[])
    (ha : s₁.heap.get? a = some { cls := .type "list", data := .seq vs.toArray }) (hi : IntsAre vs ns) (hl : ns.length <= sizeLine) (hr : Room k callerA)
    (hC : PySem.W.CodeHd s₁.heap c tp) (hP : s₁.heap.get? tp = some (PySem.W.tabObj #[])) (hKP : K.lookup tp = none) (hB : s₁.heap.BuiltinsAt mg tp)
    (F : ∀ base : Heap, K.In base -> base.Ns mainGlobals mg -> BaseT mg base c tp -> FnOk P w K mg base CX0 k fa fd [x] sp) (hbind : ∀ (s : Shared) (u : Value), BindsTo s fd ⟨[u], []⟩ [(x, u)])
    (hsp : ∀ H : Hp, H tp = some (.tbl #[]) -> SqL K H a (ns.map V.int) -> sp [.ref a] H (fun v _ => v = .bl true) fun _ _ _ => False) :
    codeAny (model P w) callerA (.call (.ref fa) ⟨[.ref a], []⟩) (fun r s' => r = .ok (.ret (.bool true)) /\ OldK s₁.heap s'.heap /\ s'.os = s₁.os /\ AllBare s'.gens) s₁ := by
  have rv := z1E hi
  have lenV := hi.length
  have hat : a ≠ tp := fun z => by
    rw [z, hP] at ha
    cases ha
  have core : ∀ H : Hp, H tp = some (.tbl #[]) -> (∀ b, b ≠ tp -> b ≠ a -> H b = none) -> (H a = none \/ ∃ o xs, H a = some (.frz o (.lst xs))) -> SqL K H a (ns.map V.int) -> HOk P w H s₁.heap -> (H a ≠ none -> K.lookup a = none) ->
      codeAny (model P w) callerA (.call (.ref fa) ⟨[.ref a], []⟩) (fun r s' => r = .ok (.ret (.bool true)) /\ OldK s₁.heap s'.heap /\ s'.os = s₁.os /\ AllBare s'.gens) s₁ := by
    intro H hT hO hOa hS hok hK
    have base_of : ∀ {b : Addr} {o : Obj}, s₁.heap.get? b = some o -> H b = none -> (z1z s₁.heap H).get? b = some o := fun e n => z2E e n
    have noC : ∀ {b : Addr} {o : Obj}, s₁.heap.get? b = some o -> o.cls ≠ .none -> o.cls ≠ .type "list" -> H b = none := fun {b o} e n1 n2 => by
      by_cases z : b = tp
      . rw [z, hP] at e
        cases e
        exact absurd rfl n1
      . by_cases z2 : b = a
        . rw [z2, ha] at e
          cases e
          exact absurd rfl n2
        . exact hO b z z2
    have noA : ∀ {b : Addr} {o : Obj} {es : Array DictEntry} {ep : Nat}, s₁.heap.get? b = some o -> o.data = .dict es ep -> H b = none := fun {b o es ep} e d => by
      by_cases z : b = tp
      . rw [z, hP] at e
        cases e
        cases d
      . by_cases z2 : b = a
        . rw [z2, ha] at e
          cases e
          cases d
        . exact hO b z z2
    have nsK : ∀ {b : Addr} {m : Str -> Option Value}, s₁.heap.Ns b m -> (z1z s₁.heap H).Ns b m := fun {b m} ⟨o, es, ep, e, d, r⟩ => ⟨o, es, ep, base_of e (noA e d), d, r⟩
    have hKb : K.In (z1z s₁.heap H) := fun b o e => base_of (KX b o e) (by
      by_cases z : b = tp
      . rw [z, hKP] at e
        cases e
      . by_cases z2 : b = a
        . cases q : H b with
          | none => rfl
          | some u =>
            rw [z2] at e q
            rw [hK (by rw [q]; simp)] at e
            cases e
        . exact hO b z z2)
    have hBT : BaseT mg (z1z s₁.heap H) c tp := by
      refine ⟨?_, ?_⟩
      . obtain ⟨o, v, file, tf, flags, tg, inF, text, tt, e1, e2, r⟩ := hC
        exact ⟨o, v, file, tf, flags, tg, inF, text, tt, base_of e1 (noC e1 (by rw [e2]; nofun) (by rw [e2]; decide)), e2, r⟩
      . obtain ⟨bm, ob, b1, b2, b3, b4, b5, b6, b7⟩ := hB
        exact ⟨bm, ob, b1, b2, b3, b4, base_of b5 (noC b5 (by rw [b6]; nofun) (by rw [b6]; decide)), b6, b7⟩
    have hM : Mod K mg (z1z s₁.heap H) := ⟨hKb, nsK hns, ⟨mb, nsK hb, hbb⟩, let ⟨mc, h1, h2⟩ := hlim; ⟨mc, nsK h1, h2⟩⟩
    have e0 : Env0 P w K mg (z1z s₁.heap H) callerA [] s₁ H := ⟨rfl, hM, fun b o e => z2h e, Nat.le_of_eq (z1c _ _), trivial, fun b hb => absurd (show b ∈ ([] : List Addr) from hb) (by simp), hok, .of_eq hg⟩
    refine codeAny_mono ((F _ hKb (nsK hns) hBT).run callerA [] s₁ H ⟨[.ref a], []⟩ [.ref a] [.ref a] _ _ hr e0 (hbind s₁ (.ref a)) (.cons rfl .nil) (hsp H hT hS)) fun r s' h => ?_
    cases r with
    | error e => exact (show False from h).elim
    | ok fl =>
      cases fl with
      | next => exact False.elim h
      | brk => exact False.elim h
      | cont => exact False.elim h
      | ret u =>
        obtain ⟨v, H', os, bare, un, hok', r', q⟩ := h
        have q' : v = .bl true := q
        subst q'
        obtain rfl : u = Value.bool true := r'
        obtain ⟨more, hT'⟩ := un.tbls tp _ hT
        have oT : s'.heap.get? tp = some (PySem.W.tabObj (#[] ++ more)) := hok' tp _ hT'
        have keep : ∀ b o, b ≠ tp -> s₁.heap.get? b = some o -> s'.heap.get? b = some o := fun b o n e => by
          cases q : H b with
          | none => exact un.keep b o e q (by intro z; exact absurd (show b ∈ ([] : List Addr) from z) (by simp)) (by simp)
          | some u =>
            have e' : b = a := Decidable.byContradiction fun z => by rw [hO b n z] at q; cases q
            subst e'
            rcases hOa with z | ⟨ob, xs, z⟩
            . rw [q] at z; cases z
            . have z2 := un.frzs b ob _ z
              obtain ⟨e1, _⟩ := hok b _ z
              obtain ⟨e2, _⟩ := hok' b _ z2
              rw [e] at e1; cases e1
              exact e2
        refine ⟨rfl, ⟨fun b o e => ?_, fun b o e => ?_⟩, os, bare⟩
        . by_cases z : b = tp
          . subst z
            rw [hP] at e
            cases e
            exact .inr (.inl ⟨(hC.tab hP).isCodeTable, rfl, #[], more, rfl, oT⟩)
          . exact .inl (keep b o z e)
        . by_cases z : b = tp
          . subst z
            exact ⟨_, oT⟩
          . exact ⟨o, keep b o z e⟩
  have okT : ∀ H : Hp, ObjOk P w H s₁.heap tp (.tbl #[]) := fun H => hP
  cases hk : K.lookup a with
  | some o =>
    have e := KX a o hk
    rw [ha] at e
    cases e
    refine core (fun b => if b = tp then some (.tbl #[]) else none) (if_pos rfl) (fun b n _ => if_neg n) (.inl (if_neg hat)) (.inr ⟨_, vs.toArray, _, hk, rfl, rfl, rfl, by rw [List.size_toArray, lenV]; exact hl, by simpa using rv⟩) (fun b u z => ?_) fun z => absurd (if_neg hat) z
    by_cases hb : b = tp
    . subst hb
      have z' := (if_pos rfl).symm.trans z
      cases z'
      exact okT _
    . have z' := (if_neg hb).symm.trans z
      cases z'
  | none =>
    refine core (fun b => if b = tp then some (.tbl #[]) else if b = a then some (.frz { cls := .type "list", data := .seq vs.toArray } (.lst (ns.map V.int))) else none) (if_pos rfl) (fun b n n2 => (if_neg n).trans (if_neg n2)) (.inr ⟨_, _, (if_neg hat).trans (if_pos rfl)⟩)
      (.inl (.inr ⟨{ cls := .type "list", data := .seq vs.toArray }, (if_neg hat).trans (if_pos rfl)⟩)) (fun b u z => ?_) fun _ => hk
    by_cases hb : b = tp
    . subst hb
      have z' := (if_pos rfl).symm.trans z
      cases z'
      exact okT _
    . by_cases hba : b = a
      . have z' := ((if_neg hb).trans (if_pos hba)).symm.trans z
        cases z'
        subst hba
        exact ⟨ha, by rw [List.length_map]; exact hl, vs, _, rv, ha⟩
      . have z' := ((if_neg hb).trans (if_neg hba)).symm.trans z
        cases z'
def z5N : Str := (("lit" : Str) ++ ".<locals>.") ++ "<lambda>"
theorem z5O {K : PySem.W.Frag} {x : Str} {f c tp : Addr} {oc ov : Value} {od oe : Option Addr} {fd : FuncData} {sl sm : Array (Option Value)} {vs : Array Value} (h1 : PySem.W.nsIn K mainGlobals x = some (some (.ref f))) (h2 : K.lookup f = some ⟨oc, od, .func fd, sl⟩) (h3 : fd.code = .ref c)
    (h4 : K.lookup c = some ⟨ov, oe, .fields vs, sm⟩) (h5 : vs[11]? = some (.ref tp)) : PySem.W.tabIn K x = some (c, tp) := by
  unfold PySem.W.tabIn
  rw [h1]
  simp only [h2, h3, h4, h5]
def z2S (K : PySem.W.Frag) (t : Addr) (pos : Pos) : Sp := fun vs H Q _ => ∃ (a : Addr) (ns : List Int), vs = [.ref a] /\ SqL K H a (ns.map V.int) /\ ns.length <= 63 /\ TabOk t pos z5N H /\ ∀ H', Q (.bl true) H'
theorem walk_ofT {l : PySem.W.OpenLaw} {n k : Nat} {q : Program} {loose : List Str} {XP : (Str -> Option Value) -> Heap -> Prop} {YP : World -> Heap -> Prop} {d dd : DefRec} {K : Params -> PySem.W.Frag} {sp : World -> Addr -> Sp} {x fn : Str}
    (hn : l.most = some n) (hn2 : n <= sizeLine) (hdf : d.params.defaults = []) (hr : Room k callerA)
    (hY : ∀ (w : World) (h : Heap), YP w h -> (K w.params).In h) (hrec : (recsOf q).find? (fun e => e.name == fn) = some dd)
    (F : ∀ (w : World) (mg : Str -> Option Value) (fa : Addr) (h : Heap), (K w.params).In h -> h.Ns mainGlobals mg -> mg d.name = some (.ref fa) ->
      ∃ (fd : FuncData) (c tp : Addr), PySem.W.tabIn (K w.params) fn = some (c, tp) /\ PySem.W.noTabs (K w.params) = true /\ (∀ (s : Shared) (u : Value), BindsTo s fd ⟨[u], []⟩ [(x, u)]) /\
        ∀ base : Heap, (K w.params).In base -> base.Ns mainGlobals mg -> BaseT mg base c tp -> FnOk l.prog w (K w.params) mg base CX0 k fa fd [x] (sp w tp))
    (hsp : ∀ (w : World) (tp : Addr) (H : Hp) (a : Addr) (ns : List Int), ns.length <= n -> H tp = some (.tbl #[]) -> SqL (K w.params) H a (ns.map V.int) -> sp w tp [.ref a] H (fun v _ => v = .bl true) fun _ _ _ => False) :
    PySem.W.WalkO q loose XP YP l.row.toRowW d [] (fun f vs => PySem.call f vs) := by
  refine Att.attach_call hn hdf fun w s₀ s₁ mg mb fa o pm cd doc a vs ns G Y ho hd hcd hmg hobj hints hlen hg => ?_
  have KX := hY w _ Y
  obtain ⟨fd, c, tp, ht, hKP, hb, hF⟩ := F w mg fa _ KX G.T.g hmg
  obtain ⟨hC, hP⟩ := PySem.W.tab_of G.T KX hrec ht
  have hKP' : (K w.params).lookup tp = none := by
    cases q : (K w.params).lookup tp with
    | none => rfl
    | some o =>
      have e := KX _ _ q
      rw [hP] at e
      cases e
      exact absurd (List.all_eq_true.mp hKP _ (PySem.W.mem_of_lookupK q)) Bool.false_ne_true
  obtain ⟨bm, ob, b1, b2, b3, b4, b5, b6⟩ := G.T.bmain
  have hbG : bm ≠ mainGlobals := fun z => by
    obtain ⟨o, es, ep, e, hd, _⟩ := G.T.g
    rw [z, e] at b3; cases b3; rw [hd] at b6; cases b6
  have hbP : bm ≠ tp := fun z => by
    rw [z, hP] at b3; cases b3; cases b4
  exact z3P KX G.T.g G.T.b G.T.builtins G.T.nolimit hg hobj hints (Nat.le_trans hlen hn2) hr hC hP hKP' ⟨bm, ob, b1, b2, hbG, hbP, b3, b4, b5, b6⟩ hF hb fun H hT hS => hsp w tp H a ns hlen hT hS
end L2
namespace L2
open PySem PySem.Spec PyProof.Rows G
structure Lay where
  rank : Int
  w : Nat
  h : Nat
  rows : List (List (Option Int))
  x : Int
  y : Int
def LayAt (H : Hp) (t : Addr) (L : Lay) : Prop := ∃ l ps, H t = some (.tup [.int L.rank, .ref l, .int L.x, .int L.y]) /\ RowsAt H l ps L.rows /\ Rect L.w L.h L.rows
def PilAt (H : Hp) (t : Addr) (L : Lay) : Prop := ∃ p, H t = some (.tup [.int L.rank, .ref p, .int L.x, .int L.y]) /\ PicAt H p L.w L.rows /\ Rect L.w L.h L.rows
theorem LayAt.mono {H H' : Hp} {t : Addr} {L : Lay} (s : Same H H') (h : LayAt H t L) : LayAt H' t L := let ⟨l, ps, a, b, c⟩ := h; ⟨l, ps, s _ _ a, b.mono s, c⟩
theorem PilAt.mono {H H' : Hp} {t : Addr} {L : Lay} (s : Same H H') (h : PilAt H t L) : PilAt H' t L := let ⟨p, a, b, c⟩ := h; ⟨p, s _ _ a, b.mono s, c⟩
structure ListAt (R : Hp -> Addr -> Lay -> Prop) (H : Hp) (l : Addr) (ts : List Addr) (Ls : List Lay) : Prop where
  lst : H l = some (.lst (ts.map V.ref))
  len : ts.length = Ls.length
  at' : ∀ (i : Nat) t L, ts[i]? = some t -> Ls[i]? = some L -> R H t L
abbrev LaysAt := ListAt LayAt
abbrev PilsAt := ListAt PilAt
theorem LaysAt.mono {H H' : Hp} {l : Addr} {ts : List Addr} {Ls : List Lay} (s : Same H H') (h : LaysAt H l ts Ls) : LaysAt H' l ts Ls := ⟨s _ _ h.lst, h.len, fun i t L a b => (h.at' i t L a b).mono s⟩
theorem PilsAt.mono {H H' : Hp} {l : Addr} {ts : List Addr} {Ls : List Lay} (s : Same H H') (h : PilsAt H l ts Ls) : PilsAt H' l ts Ls := ⟨s _ _ h.lst, h.len, fun i t L a b => (h.at' i t L a b).mono s⟩
theorem ListAt.get {R : Hp -> Addr -> Lay -> Prop} {H : Hp} {l : Addr} {ts : List Addr} {Ls : List Lay} (h : ListAt R H l ts Ls) {i : Nat} (hi : i < Ls.length) : ∃ t, ts[i]? = some t /\ R H t (Ls[i]'hi) /\ atI (ts.map V.ref) ((i : Nat) : Int) = some (.ref t) := by
  have h1 : i < ts.length := by rw [h.len]; exact hi
  have e := List.getElem?_eq_getElem h1
  exact ⟨_, e, h.at' i _ _ e (List.getElem?_eq_getElem hi), z0S (by rw [List.getElem?_map, e]; rfl)⟩
section
variable {P : Addr} {pos : Pos} {qual : Str} {H H' : Hp}
theorem SameP.tup (e : SameP P H H') (t : TabOk P pos qual H) {b : Addr} {xs : List V} (h : H b = some (.tup xs)) : H' b = some (.tup xs) := e _ _ (t.ne h fun _ z => nomatch z) h
theorem SameP.lst (e : SameP P H H') (t : TabOk P pos qual H) {b : Addr} {xs : List V} (h : H b = some (.lst xs)) : H' b = some (.lst xs) := e _ _ (t.ne h fun _ z => nomatch z) h
theorem SameP.seq {K : PySem.W.Frag} (e : SameP P H H') (t : TabOk P pos qual H) {a : Addr} {xs : List V} (h : SqL K H a xs) : SqL K H' a xs := by
  rcases h with (h | ⟨o, h⟩) | h
  . exact .inl (.inl (e.lst t h))
  . exact .inl (.inr ⟨o, e _ _ (t.ne h fun _ z => nomatch z) h⟩)
  . exact .inr h
theorem SameP.pic (e : SameP P H H') (t : TabOk P pos qual H) {p : Addr} {w : Nat} {rows : List (List (Option Int))} (h : PicAt H p w rows) : PicAt H' p w rows := let ⟨pp, pm, a, b, c⟩ := h; ⟨pp, pm, e.tup t a, e.tup t b, e.tup t c⟩
theorem SameP.rows (e : SameP P H H') (t : TabOk P pos qual H) {l : Addr} {ps : List Addr} {rows : List (List (Option Int))} (h : RowsAt H l ps rows) : RowsAt H' l ps rows := ⟨e.lst t h.lst, h.len, fun i p r a b => e.lst t (h.row i p r a b)⟩
theorem SameP.lay (e : SameP P H H') (t : TabOk P pos qual H) {a : Addr} {L : Lay} (h : LayAt H a L) : LayAt H' a L := let ⟨l, ps, a, b, c⟩ := h; ⟨l, ps, e.tup t a, e.rows t b, c⟩
theorem SameP.lays (e : SameP P H H') (t : TabOk P pos qual H) {l : Addr} {ts : List Addr} {Ls : List Lay} (h : LaysAt H l ts Ls) : LaysAt H' l ts Ls := ⟨e.lst t h.lst, h.len, fun i a L x y => e.lay t (h.at' i a L x y)⟩
end
theorem TabOk.put {P : Addr} {pos : Pos} {qual : Str} {H : Hp} {m : Addr} {xs : List V} {o : HO} (t : TabOk P pos qual H) (h : H m = some (.lst xs)) : TabOk P pos qual (upd H m o) := by
  have n1 : P ≠ m := Ne.symm (t.ne h fun _ z => nomatch z)
  rcases t with t | ⟨c, t1, t2⟩
  . exact .inl (by rw [z04 n1]; exact t)
  . have n2 : c ≠ m := z1b t2 h fun z => nomatch z
    exact .inr ⟨c, by rw [z04 n1]; exact t1, by rw [z04 n2]; exact t2⟩
def z6U (Ls : List Lay) (i : Nat) : Int := ((Ls[i]?).map Lay.rank).getD 0
def z6V (K : PySem.W.Frag) : Sp := fun vs H Q _ => ∃ (a : Addr) (ns : List Int) (k : Int), vs = [.ref a, .int k] /\ SqL K H a (ns.map V.int) /\ 0 <= k /\ k < 9000 /\ ∀ t L H', Same H H' -> LayAt H' t L -> Q (.ref t) H'
def z5i (K : PySem.W.Frag) : Sp := fun vs H Q _ => ∃ (a : Addr) (ns : List Int) (k : Int), vs = [.ref a, .int k] /\ SqL K H a (ns.map V.int) /\ 0 <= k /\ k < 1000 /\ ∀ l ts Ls H', Same H H' -> H l = none -> Ls.length <= 40 -> LaysAt H' l ts Ls -> Q (.ref l) H'
def z7D : Sp := fun vs H Q _ => ∃ l ts Ls, vs = [.ref l] /\ LaysAt H l ts Ls /\ Ls.length <= 40 /\ ∀ l' ts' H', Same H H' -> H l' = none -> PilsAt H' l' ts' Ls -> Q (.ref l') H'
def z6W (t : Addr) (pos : Pos) : Sp := fun vs H Q _ => ∃ l ts Ls, vs = [.ref l] /\ PilsAt H l ts Ls /\ Ls.length < 64 /\ TabOk t pos z5N H /\
  ∀ m ms H', TabOk t pos z5N H' -> SameP t H H' -> H m = none -> Order (z6U Ls) Ls.length ms -> H' m = some (.lst (z82 ms)) -> Q (.ref m) H'
theorem Order.len {key : Nat -> Int} {n : Nat} {ms : List Nat} (h : Order key n ms) : ms.length = n := by rw [h.1.length_eq, List.length_range]
theorem Order.lt {key : Nat -> Int} {n : Nat} {ms : List Nat} (h : Order key n ms) {i : Nat} (hi : i < ms.length) : ms[i] < n := List.mem_range.mp (h.1.mem_iff.mp (List.getElem_mem hi))
theorem Order.two {key : Nat -> Int} {n : Nat} {ms : List Nat} (h : Order key n ms) {i j : Nat} (hij : i < j) (hj : j < ms.length) : key (ms[i]'(by omega)) < key (ms[j]) \/ (key (ms[i]'(by omega)) = key (ms[j]) /\ ms[i]'(by omega) < ms[j]) :=
  List.pairwise_iff_getElem.mp h.2 i j (by omega) hj hij
structure Bar where
  row : Int
  col : Int
  tone : Int
def z27 (bs : List Bar) (y c : Int) (i : Nat) (b : Bar) : Prop := bs[i]? = some b /\ b.row <= y /\ b.col = c
def Upm (bs : List Bar) (y c t0 : Int) (S : Nat -> Prop) (o : Option Int) (r : Int) : Prop :=
  ((∀ i b, S i -> ¬ z27 bs y c i b) /\ r = t0 /\ o = none) \/ ∃ i b, S i /\ z27 bs y c i b /\ r = b.tone /\ o = some b.row /\ ∀ j b', S j -> z27 bs y c j b' -> b'.row < b.row \/ (b'.row = b.row /\ j <= i)
theorem Upm.uniq {bs : List Bar} {y c t0 : Int} {S : Nat -> Prop} {o o' : Option Int} {r r' : Int} (h : Upm bs y c t0 S o r) (h' : Upm bs y c t0 S o' r') : r = r' := by
  rcases h with ⟨n, e, _⟩ | ⟨i, b, hi, hb, e, _, hm⟩
  . rcases h' with ⟨n', e', _⟩ | ⟨i', b', hi', hb', e', _, hm'⟩
    . rw [e, e']
    . exact absurd hb' (n i' b' hi')
  . rcases h' with ⟨n', e', _⟩ | ⟨i', b', hi', hb', e', _, hm'⟩
    . exact absurd hb (n' i b hi)
    . have a := hm i' b' hi' hb'
      have a' := hm' i b hi hb
      have ei : i = i' := by omega
      subst ei
      have := hb.1.symm.trans hb'.1
      cases this
      rw [e, e']
theorem Upm.congr {bs : List Bar} {y c t0 : Int} {S S' : Nat -> Prop} {o : Option Int} {r : Int} (h : Upm bs y c t0 S o r) (e : ∀ i, S i ↔ S' i) : Upm bs y c t0 S' o r := by
  have : S = S' := funext fun i => propext (e i)
  rw [<- this]
  exact h
theorem Upm.none {bs : List Bar} {y c t0 : Int} {S : Nat -> Prop} (e : ∀ i, ¬ S i) : Upm bs y c t0 S Option.none t0 := .inl ⟨fun i _ h => absurd h (e i), rfl, rfl⟩
theorem Upm.skip {bs : List Bar} {y c t0 : Int} {S : Nat -> Prop} {o : Option Int} {r : Int} (h : Upm bs y c t0 S o r) {k : Nat} (n : ∀ b, ¬ z27 bs y c k b) : Upm bs y c t0 (fun i => S i \/ i = k) o r := by
  rcases h with ⟨m, e, eo⟩ | ⟨i, b, hi, hb, e, eo, hm⟩
  . refine .inl ⟨fun i b hi => ?_, e, eo⟩
    rcases hi with hi | rfl
    . exact m i b hi
    . exact n b
  . refine .inr ⟨i, b, .inl hi, hb, e, eo, fun j b' hj hb' => ?_⟩
    rcases hj with hj | rfl
    . exact hm j b' hj hb'
    . exact absurd hb' (n b')
theorem Upm.under {bs : List Bar} {y c t0 : Int} {S : Nat -> Prop} {z : Int} {r : Int} (h : Upm bs y c t0 S (some z) r) {k : Nat} {b : Bar} (e : bs[k]? = some b) (l : b.row < z) : Upm bs y c t0 (fun i => S i \/ i = k) (some z) r := by
  rcases h with ⟨m, e, eo⟩ | ⟨i, b1, hi, hb, e1, eo, hm⟩
  . cases eo
  . cases eo
    refine .inr ⟨i, b1, .inl hi, hb, e1, rfl, fun j b' hj hb' => ?_⟩
    rcases hj with hj | rfl
    . exact hm j b' hj hb'
    . have := e.symm.trans hb'.1
      cases this
      exact .inl l
theorem Upm.take {bs : List Bar} {y c t0 : Int} {S : Nat -> Prop} {o : Option Int} {r : Int} (_ : Upm bs y c t0 S o r) {k : Nat} {b : Bar} (hb : z27 bs y c k b) (hm : ∀ j b', S j -> z27 bs y c j b' -> b'.row < b.row \/ (b'.row = b.row /\ j <= k)) : Upm bs y c t0 (fun i => S i \/ i = k) (some b.row) b.tone := by
  refine .inr ⟨k, b, .inr rfl, hb, rfl, rfl, fun j b' hj hb' => ?_⟩
  rcases hj with hj | rfl
  . exact hm j b' hj hb'
  . have := hb.1.symm.trans hb'.1
    cases this
    exact .inr ⟨rfl, Nat.le_refl _⟩
theorem Upm.next {bs : List Bar} {y c t0 : Int} {o : Option Int} {r : Int} {k : Nat} (h : Upm bs y c t0 (· < k) o r) {b : Bar} (hb : z27 bs y c k b) (ho : ∀ z, o = some z -> z <= b.row) : Upm bs y c t0 (· < k + 1) (some b.row) b.tone := by
  refine (h.take hb fun j b' hj hb' => ?_).congr fun i => by omega
  rcases h with ⟨m, _, _⟩ | ⟨i, b1, hi, hb1, e1, eo, hm⟩
  . exact absurd hb' (m j b' hj)
  . have a := hm j b' hj hb'
    have z := ho _ eo
    omega
end L2
namespace L2
open PySem PySem.Spec PyProof.Rows G
def z83 : Bar := ⟨0, 0, 0⟩
def z1t (bs : List Bar) (i : Nat) : Int := (bs.getD i z83).row
structure BarT (H : Hp) (ts : List Addr) (bs : List Bar) : Prop where
  len : ts.length = bs.length
  nd : ts.Nodup
  at' : ∀ i (h : i < bs.length), H (ts.getD i 0) = some (.tup [.int (bs[i]).row, .int (bs[i]).col, .int (bs[i]).tone])
  col : ∀ b ∈ bs, 0 <= b.col /\ b.col < 16
theorem BarT.mono {H H' : Hp} {ts : List Addr} {bs : List Bar} (h : BarT H ts bs) (s : Same H H') : BarT H' ts bs := ⟨h.len, h.nd, fun i k => s _ _ (h.at' i k), h.col⟩
theorem BarT.nil {H : Hp} : BarT H [] [] := ⟨rfl, List.nodup_nil, fun i h => absurd h (Nat.not_lt_zero i), fun b h => nomatch h⟩
structure BarsAt (H : Hp) (l : Addr) (ts : List Addr) (bs : List Bar) : Prop where
  lst : H l = some (.lst (ts.map V.ref))
  bar : BarT H ts bs
theorem BarsAt.mono {H H' : Hp} {l : Addr} {ts : List Addr} {bs : List Bar} (h : BarsAt H l ts bs) (s : Same H H') : BarsAt H' l ts bs := ⟨s _ _ h.lst, h.bar.mono s⟩
section
variable {P : Addr} {pos : Pos} {qual : Str} {H H' : Hp}
theorem SameP.bar (e : SameP P H H') (t : TabOk P pos qual H) {ts : List Addr} {bs : List Bar} (h : BarT H ts bs) : BarT H' ts bs := ⟨h.len, h.nd, fun i k => e.tup t (h.at' i k), h.col⟩
theorem SameP.bars (e : SameP P H H') (t : TabOk P pos qual H) {l : Addr} {ts : List Addr} {bs : List Bar} (h : BarsAt H l ts bs) : BarsAt H' l ts bs := ⟨e.lst t h.lst, e.bar t h.bar⟩
theorem SameP.unmd {m : Addr} (e : SameP P H H') (T : TabOk P pos qual H') (n : H' m = none) : H m = none := by
  cases z : H m with
  | none => rfl
  | some o =>
    have nP : m ≠ P := fun y => by
      obtain ⟨tp, etp⟩ := T.is
      rw [<- y, n] at etp
      cases etp
    rw [e m o nP z] at n
    cases n
end
theorem Same.toP' {P : Addr} {H H' : Hp} (s : Same H H') : SameP P H H' := fun b o _ h => s b o h
def ToneIs (bs : List Bar) (tz : List Int) (y : Int) (c : Int) (r : Int) : Prop := ∃ o, Upm bs y c (tz.getD c.toNat 0) (· < bs.length) o r
theorem ToneIs.uniq {bs : List Bar} {tz : List Int} {y c r r' : Int} (h : ToneIs bs tz y c r) (h' : ToneIs bs tz y c r') : r = r' := let ⟨_, a⟩ := h; let ⟨_, b⟩ := h'; a.uniq b
def z2T (zs : List Int) : Option Int -> V
  | none => .non
  | some c => .int (zs.getD c.toNat 0)
def z1B (bs : List Bar) (tz : List Int) (y : Int) (zs : List Int) : Prop := zs.length = 16 /\ ∀ c : Int, 0 <= c -> c < 16 -> ToneIs bs tz y c (zs.getD c.toNat 0)
structure LitAt (H : Hp) (l : Addr) (ps : List Addr) (rows : List (List (Option Int))) (tz : List Int) (bs : List Bar) : Prop where
  lst : H l = some (.lst (ps.map V.ref))
  len : ps.length = rows.length
  row : ∀ (i : Nat) p r, ps[i]? = some p -> rows[i]? = some r -> ∃ zs, z1B bs tz (i : Int) zs /\ H p = some (.lst (r.map (z2T zs)))
theorem LitAt.mono {H H' : Hp} {l : Addr} {ps : List Addr} {rows : List (List (Option Int))} {tz : List Int} {bs : List Bar} (h : LitAt H l ps rows tz bs) (s : Same H H') : LitAt H' l ps rows tz bs := ⟨s _ _ h.lst, h.len, fun i p r a b => let ⟨zs, x, y⟩ := h.row i p r a b; ⟨zs, x, s _ _ y⟩⟩
def TonesUp (bs : List Bar) (tz : List Int) (y : Int) (ms : List Nat) (zs : List Int) : Prop := zs.length = 16 /\ ∀ c : Int, 0 <= c -> c < 16 -> ∃ o, Upm bs y c (tz.getD c.toNat 0) (· ∈ ms) o (zs.getD c.toNat 0)
theorem TonesUp.nil {bs : List Bar} {tz : List Int} {y : Int} (h : tz.length = 16) : TonesUp bs tz y [] tz := ⟨h, fun c _ _ => ⟨none, Upm.none fun i => by simp⟩⟩
theorem TonesUp.done {bs : List Bar} {tz : List Int} {y : Int} {ms : List Nat} {zs : List Int} (h : TonesUp bs tz y ms zs) (p : ms.Perm (List.range bs.length)) : z1B bs tz y zs := ⟨h.1, fun c c0 c1 => let ⟨o, u⟩ := h.2 c c0 c1; ⟨o, u.congr fun i => by rw [p.mem_iff, List.mem_range]⟩⟩
theorem z0q {bs : List Bar} {j : Nat} (h : j < bs.length) : bs[j]? = some bs[j] := List.getElem?_eq_getElem h
theorem z1a {bs : List Bar} {j : Nat} (h : j < bs.length) : z1t bs j = (bs[j]).row := by
  unfold z1t
  rw [List.getD_eq_getElem?_getD, z0q h]
  rfl
theorem TonesUp.skip {bs : List Bar} {tz : List Int} {y : Int} {ms : List Nat} {zs : List Int} {j : Nat} (h : TonesUp bs tz y ms zs) (hj : j < bs.length) (n : ¬ (bs[j]).row <= y) : TonesUp bs tz y (ms ++ [j]) zs := ⟨h.1, fun c c0 c1 => by
  obtain ⟨o, u⟩ := h.2 c c0 c1
  refine ⟨o, (u.skip (k := j) fun b hb => ?_).congr fun i => by simp⟩
  have := (z0q hj).symm.trans hb.1
  cases this
  exact n hb.2.1⟩
theorem z3p {zs : List Int} {i j : Nat} {v : Int} (hi : i < zs.length) : (zs.set i v).getD j 0 = if j = i then v else zs.getD j 0 := by
  rw [List.getD_eq_getElem?_getD, List.getD_eq_getElem?_getD, List.getElem?_set]
  by_cases h : i = j
  . subst h
    rw [if_pos rfl, if_pos hi, if_pos rfl]
    rfl
  . rw [if_neg h, if_neg (Ne.symm h)]
theorem TonesUp.take {bs : List Bar} {tz : List Int} {y : Int} {ms : List Nat} {zs : List Int} {j : Nat} (h : TonesUp bs tz y ms zs) (hj : j < bs.length) (hy : (bs[j]).row <= y) (hc : 0 <= (bs[j]).col /\ (bs[j]).col < 16)
    (hm : ∀ i ∈ ms, i < bs.length /\ (z1t bs i < z1t bs j \/ (z1t bs i = z1t bs j /\ i < j))) : TonesUp bs tz y (ms ++ [j]) (zs.set (bs[j]).col.toNat (bs[j]).tone) := by
  refine ⟨by rw [List.length_set]; exact h.1, fun c c0 c1 => ?_⟩
  obtain ⟨o, u⟩ := h.2 c c0 c1
  have hl := h.1
  rw [z3p (by omega)]
  by_cases e : c = (bs[j]).col
  . rw [if_pos (by rw [e])]
    refine ⟨_, (u.take (k := j) (b := bs[j]) ⟨z0q hj, hy, e.symm⟩ fun i b' hi hb' => ?_).congr fun i => by simp⟩
    obtain ⟨h1, h2⟩ := hm i hi
    rw [z1a h1, z1a hj] at h2
    have := (z0q h1).symm.trans hb'.1
    cases this
    omega
  . rw [if_neg (by omega)]
    refine ⟨o, (u.skip (k := j) fun b hb => ?_).congr fun i => by simp⟩
    have := (z0q hj).symm.trans hb.1
    cases this
    exact e hb.2.2.symm
theorem BarT.push {H : Hp} {t : Addr} {ts : List Addr} {bs : List Bar} {b : Bar} (h : BarT H ts bs) (n : H t = none) (c0 : 0 <= b.col) (c1 : b.col < 16) : BarT (upd H t (.tup [.int b.row, .int b.col, .int b.tone])) (ts ++ [t]) (bs ++ [b]) where
  len := by rw [List.length_append, List.length_append, h.len]; rfl
  nd := by
    rw [List.nodup_append]
    refine ⟨h.nd, by simp, fun x hx y hy e => ?_⟩
    rw [List.mem_singleton.mp hy] at e
    obtain ⟨i, hi, ei⟩ := List.mem_iff_getElem.mp hx
    have hl := h.len
    have := h.at' i (by omega)
    rw [List.getD_eq_getElem?_getD, List.getElem?_eq_getElem hi] at this
    rw [show (some ts[i]).getD 0 = ts[i] from rfl, ei, e, n] at this
    cases this
  at' := fun i hi => by
    have hl := h.len
    by_cases k : i < bs.length
    . have a := h.at' i k
      have hk : i < ts.length := by omega
      rw [List.getElem_append_left k, List.getD_eq_getElem?_getD, List.getElem?_append_left hk, <- List.getD_eq_getElem?_getD]
      exact (Same.new n) _ _ a
    . rw [List.length_append] at hi
      have hi' : i < bs.length + 1 := hi
      have ei : i = bs.length := by omega
      subst ei
      have e : (ts ++ [t]).getD bs.length 0 = t := by rw [List.getD_eq_getElem?_getD, <- hl, List.getElem?_concat_length]; rfl
      rw [e, List.getElem_append_right (Nat.le_refl _)]
      simp only [Nat.sub_self, List.getElem_cons_zero]
      exact z06
  col := fun b' hb => by
    rcases List.mem_append.mp hb with e | e
    . exact h.col b' e
    . rw [List.mem_singleton.mp e]
      exact ⟨c0, c1⟩
theorem z4Y {H : Hp} {p m : Addr} {w : Nat} {rows : List (List (Option Int))} {xs : List V} {o : HO} (h : PicAt H p w rows) (hm : H m = some (.lst xs)) : PicAt (upd H m o) p w rows := by
  obtain ⟨pp, pm, a, b, c⟩ := h
  exact ⟨pp, pm, by rw [z04 (z1b a hm fun z => nomatch z)]; exact a, by rw [z04 (z1b b hm fun z => nomatch z)]; exact b, by rw [z04 (z1b c hm fun z => nomatch z)]; exact c⟩
def z1u : Sp := fun vs H Q _ => ∃ (tb m : Addr) (y : Int) (tz : List Int) (ts : List Addr) (bs : List Bar) (ms : List Nat), vs = [.ref tb, .ref m, .int y] /\ H tb = some (.tup (tz.map V.int)) /\ tz.length = 16 /\ BarT H ts bs /\ H m = some (.lst (z2Y ts ms)) /\ Order (z1t bs) bs.length ms /\
  ∀ l zs H', Same H H' -> H l = none -> H' l = some (.lst (zs.map V.int)) -> z1B bs tz y zs -> Q (.ref l) H'
def z2U : Sp := fun vs H Q _ => ∃ (l p : Addr) (zs : List Int) (r : List (Option Int)), vs = [.ref l, .ref p] /\ H l = some (.lst (zs.map V.int)) /\ zs.length = 16 /\ H p = some (.lst (r.map z0Q)) /\ Cells r /\ r.length <= 64 /\
  ∀ q H', Same H H' -> H q = none -> H' q = some (.lst (r.map (z2T zs))) -> Q (.ref q) H'
def z5P (t : Addr) (pos : Pos) : Sp := fun vs H Q _ => ∃ (tb l p : Addr) (tz : List Int) (ts : List Addr) (bs : List Bar) (w h : Nat) (rows : List (List (Option Int))), vs = [.ref tb, .ref l, .ref p] /\ H tb = some (.tup (tz.map V.int)) /\ tz.length = 16 /\ BarsAt H l ts bs /\ bs.length < 64 /\ PicAt H p w rows /\ Rect w h rows /\ TabOk t pos z5N H /\
  ∀ f fs H', TabOk t pos z5N H' -> SameP t H H' -> H f = none -> (∀ x ∈ fs, H x = none) -> LitAt H' f fs rows tz bs -> Q (.ref f) H'
def z1v (K : PySem.W.Frag) : Sp := fun vs H Q _ => ∃ (a : Addr) (ns : List Int) (w h : Int), vs = [.ref a, .int w, .int h] /\ SqL K H a (ns.map V.int) /\ 1 <= w /\ w <= 64 /\ 1 <= h /\ h <= 64 /\
  ∀ l ps rows H', Same H H' -> H l = none -> RowsAt H' l ps rows -> Rect w.toNat h.toNat rows -> Q (.ref l) H'
def z5Q (K : PySem.W.Frag) : Sp := fun vs H Q _ => ∃ (a : Addr) (ns : List Int) (k h : Int), vs = [.ref a, .int k, .int h] /\ SqL K H a (ns.map V.int) /\ 0 <= k /\ k < 1000 /\ ∀ t (b : Bar), H t = none -> 0 <= b.col -> b.col < 16 -> Q (.ref t) (upd H t (.tup [.int b.row, .int b.col, .int b.tone]))
def z3Q : Sp := fun vs H Q _ => ∃ (tb l : Addr) (c y : Int) (tz : List Int) (ts : List Addr) (bs : List Bar), vs = [.ref tb, .ref l, .int c, .int y] /\ H tb = some (.tup (tz.map V.int)) /\ tz.length = 16 /\ BarsAt H l ts bs /\ 0 <= c /\ c < 16 /\ ∀ r, ToneIs bs tz y c r -> Q (.int r) H
def z3R : Sp := fun vs H Q _ => ∃ (f l tb m : Addr) (fs ps : List Addr) (rows : List (List (Option Int))) (w h : Nat) (tz : List Int) (ts : List Addr) (bs : List Bar), vs = [.ref f, .ref l, .ref tb, .ref m] /\ LitAt H f fs rows tz bs /\ RowsAt H l ps rows /\ Rect w h rows /\ H tb = some (.tup (tz.map V.int)) /\ tz.length = 16 /\ BarsAt H m ts bs /\ Q (.bl true) H
end L2
local macro_rules | `(tactic| walk_at "r1") => `(tactic| first
  | refine ⟨_, rfl, ?_⟩
  | refine ⟨_, _, rfl, rfl, ?_⟩
  | refine ⟨rfl, ?_⟩
  | refine ⟨(by show (0 : Int) < _; first | decide | omega), ?_⟩
  | refine ⟨⟨(by first | decide | omega), (by first | decide | omega)⟩, ?_⟩
  | refine ⟨L2.mulL (by first | decide | omega) (by first | decide | omega), ?_⟩
  | refine ⟨L2.mulR (by first | decide | omega) (by first | decide | omega), ?_⟩
  | refine ⟨L2.powS (by first | decide | omega) (by first | decide | omega) (by first | decide | omega), ?_⟩
  | refine ⟨L2.szV (by simp), ?_⟩)
local macro_rules | `(tactic| walk_at "rs") => `(tactic| repeat walk_at "r1")
namespace K52
open PySem PyProof.Rows L2 G
def z28 (i : Nat) : Stmt := PySem.Challenge.pw_glowboard_k52_lit_by_bars.main.body.getD i (.Pass ⟨0, 0, 0, 0⟩)
abbrev z0m : Stmt := z28 1
abbrev z0r : Stmt := z28 2
abbrev z0i : Stmt := z28 3
abbrev z0c : Stmt := z28 5
abbrev z0j : Stmt := z28 6
abbrev z1w : Stmt := z28 7
abbrev z0d : Stmt := z28 9
abbrev z0V : Stmt := z28 10
abbrev z0W : Stmt := z28 11
abbrev z0e : Stmt := z28 12
abbrev z0X : Stmt := z28 13
abbrev z0n : Stmt := z28 14
abbrev z0f : Stmt := z28 15
abbrev z0g : Stmt := z28 16
abbrev z17 : Stmt := z28 17
structure Blt (mg : Str -> Option Value) : Prop where
  f_len : mg "len" = none
  f_range : mg "range" = none
  f_enumerate : mg "enumerate" = none
  f_reversed : mg "reversed" = none
  f_isinstance : mg "isinstance" = none
  f_int : mg "int" = none
  f_bool : mg "bool" = none
  f_list : mg "list" = none
  f_tuple : mg "tuple" = none
  f_sorted : mg "sorted" = none
def z4f : Pos := ⟨22, 30, 22, 48⟩
section
variable {P : Program} {w : World} {K : PySem.W.Frag} {mg : Str -> Option Value} {base : Heap} {tc tp : Addr}
theorem z2Z : FnScope ["_law_script", "_law_k", "_law_prime", "_law_many"] ["_law_script", "_law_k", "_law_prime", "_law_many"] (z02 z0d) := ⟨rfl, rfl, rfl, by decide +kernel, rfl, by decide +kernel, by decide +kernel⟩
theorem z2a {f : Addr} {fd : FuncData} (D : Df K mg "_law_draw" z0d ["_law_script", "_law_k", "_law_prime", "_law_many"] f fd) (B : Blt mg) :
    Ow P w K mg base "_law_draw" ["_law_script", "_law_k", "_law_prime", "_law_many"] 1 (z1Y K) := by
  refine D.ow (D.F.ok z2Z (fun vs H Q E h => ?_) (fun cdv A outer s H vs Q E hr h => ?_))
  . obtain ⟨a, ns, k, p, m, rfl, _⟩ := h
    rfl
  obtain ⟨a, ns, k, p, m, rfl, hS, k0, k1, hp, hm, q⟩ := h
  refine ⟨_, (z03 (z0k (z0B z1U (z0H z09 rfl B.f_len boot_len (z00 (pv 0) z05)) z01 (z0J _)) (z07 (z0I z01)) z0L)
    (z07 (z0I (z0E z15 (z0E z15 (z0E z0u (z0E z0U (z0P z0M (pv 0) (z0E z15 (pv 1) (z0H z09 rfl B.f_len boot_len (z00 (pv 0) z05))) (fun _ _ => rfl)) (z0E z0u (pv 1) (pv 1))) z01) (pv 2)) (pv 3))))), ?_⟩
  refine ⟨_, rfl, a, _, rfl, .inl hS, ?_⟩
  walk_at "rs"
  refine z21 (fun c => ?_) (fun c => ?_)
  . exact q 0 (by decide) hm
  . have hl : 0 < ns.length := by
      rw [List.length_map] at c
      have : (ns.length : Int) ≠ 0 := fun e => c (by rw [e])
      omega
    obtain ⟨z, hz⟩ := z3A hl k
    refine ⟨_, rfl, _, rfl, _, rfl, a, _, rfl, .inl hS, _, _, rfl, rfl, (by rw [List.length_map]; show (0 : Int) < (ns.length : Int); omega), a, _, _, _, rfl, rfl, hS, hz, ?_⟩
    walk_at "rs"
    exact q _ (Int.emod_nonneg _ (by omega)) (Int.emod_lt_of_pos _ hm)
theorem z29 : FnScope ["_law_script", "_law_k", "_law_many"] ["_law_script", "_law_k", "_law_many"] (z02 z0V) := ⟨rfl, rfl, rfl, by decide +kernel, rfl, by decide +kernel, by decide +kernel⟩
theorem z2A {f : Addr} {fd : FuncData} (D : Df K mg "_law_great" z0V ["_law_script", "_law_k", "_law_many"] f fd) (B : Blt mg) :
    Ow P w K mg base "_law_great" ["_law_script", "_law_k", "_law_many"] 1 (z42 K) := by
  refine D.ow (D.F.ok z29 (fun vs H Q E h => ?_) (fun cdv A outer s H vs Q E hr h => ?_))
  . obtain ⟨a, ns, k, m, rfl, _⟩ := h
    rfl
  obtain ⟨a, ns, k, m, rfl, hS, k0, k1, hm, q⟩ := h
  refine ⟨_, (z03 (z0k (z0B z1U (z0H z09 rfl B.f_len boot_len (z00 (pv 0) z05)) z01 (z0J _)) (z07 (z0I z01)) z0L)
    (z07 (z0I (z0E z15 (z0E z4S (z0E z0U (z0E z15 (z0P z0M (pv 0) (z0E z15 (pv 1) (z0H z09 rfl B.f_len boot_len (z00 (pv 0) z05))) (fun _ _ => rfl)) (z0E z2H z01 z01)) (pv 1)) (z0E z2H z01 z01)) (pv 2))))), ?_⟩
  refine ⟨_, rfl, a, _, rfl, .inl hS, ?_⟩
  walk_at "rs"
  refine z21 (fun c => ?_) (fun c => ?_)
  . exact q 0 (by decide) hm
  . have hl : 0 < ns.length := by
      rw [List.length_map] at c
      have : (ns.length : Int) ≠ 0 := fun e => c (by rw [e])
      omega
    obtain ⟨z, hz⟩ := z3A hl k
    refine ⟨_, rfl, _, rfl, _, rfl, a, _, rfl, .inl hS, _, _, rfl, rfl, (by rw [List.length_map]; show (0 : Int) < (ns.length : Int); omega), a, _, _, _, rfl, rfl, hS, hz, ?_⟩
    walk_at "rs"
    have a1 := Int.emod_nonneg z (show (10 : Int) ^ Int.toNat 30 ≠ 0 by decide)
    have a2 := Int.emod_lt_of_pos z (show (0 : Int) < 10 ^ Int.toNat 30 by decide)
    have a3 : (10 : Int) ^ Int.toNat 30 + 1000000 < 2 ^ 1000 := by decide
    have a4 : ((2 ^ 1000 : Nat) : Int) = 2 ^ 1000 := by decide
    refine ⟨⟨by omega, by decide⟩, ?_⟩
    walk_at "rs"
    exact q _ (Int.emod_nonneg _ (by omega)) (Int.emod_lt_of_pos _ hm)
theorem z2B : FnScope ["_law_found"] ["_law_found"] (z02 z0W) := ⟨rfl, rfl, rfl, by decide +kernel, rfl, by decide +kernel, by decide +kernel⟩
theorem z2C {f : Addr} {fd : FuncData} (D : Df K mg "_law_whole" z0W ["_law_found"] f fd) (B : Blt mg) :
    Ow P w K mg base "_law_whole" ["_law_found"] 1 z3C := by
  refine D.ow (D.F.ok z2B (fun vs H Q E h => ?_) (fun cdv A outer s H vs Q E hr h => ?_))
  . obtain ⟨x, T, rfl, _⟩ := h
    rfl
  obtain ⟨x, T, rfl, hT, q⟩ := h
  refine ⟨_, (z07 (z0I (z4n (z0H z18 rfl B.f_isinstance boot_isinstance (z00 (pv 0) (z00 (z1Q (v := .ty "int") rfl B.f_int boot_int rfl) z05))) (z4m (z4o (z0H z18 rfl B.f_isinstance boot_isinstance (z00 (pv 0) (z00 (z1Q (v := .ty "bool") rfl B.f_bool boot_bool rfl) z05)))))))), ?_⟩
  refine ⟨x, rfl, x, "int", T, rfl, by decide, hT, _, rfl, ?_⟩
  have e := z22 T (z34 hT)
  cases hi : z4H T "int" with
  | true =>
    rw [hi, if_pos rfl] at e
    refine z4z ⟨x, rfl, x, "bool", T, rfl, by decide, hT, _, rfl, ?_⟩
    rw [e]
    exact q
  | false =>
    rw [hi, if_neg (by decide)] at e
    refine z64 ?_
    rw [e]
    exact q
theorem sc_lawbits : FnScope ["_law_rows", "_law_paints", "_law_masks", "_law_row", "_law_paint", "_law_mask", "_law_cell"] ["_law_rows"] (z02 z0e) := ⟨rfl, rfl, rfl, by decide +kernel, rfl, by decide +kernel, by decide +kernel⟩
theorem z2b {f : Addr} {fd : FuncData} (D : Df K mg "_law_bits" z0e ["_law_rows"] f fd) (B : Blt mg) :
    Ow P w K mg base "_law_bits" ["_law_rows"] 1 z2M := by
  refine D.ow (D.F.ok sc_lawbits (fun vs H Q E h => ?_) (fun cdv A outer s H vs Q E hr h => ?_))
  . obtain ⟨l, ps, rows, w, h, rfl, _⟩ := h
    rfl
  obtain ⟨l, ps, rows, wd, hg, rfl, RA, R, q⟩ := h
  refine ⟨_, (z03 (z0A (i := 1) sc_lawbits.nd rfl (Or.inl rfl) (z1j z05))
    (z03 (z0A (i := 2) sc_lawbits.nd rfl (Or.inl rfl) (z1j z05))
    (z03 (z14 PassesOwn.never rfl (z1S (pv 0)) (z0N (i := 3) sc_lawbits.nd rfl (Or.inl rfl)) (z03 (z0A (i := 4) sc_lawbits.nd rfl (Or.inl rfl) z01)
    (z03 (z0A (i := 5) sc_lawbits.nd rfl (Or.inl rfl) z01)
    (z03 (z14 PassesOwn.never rfl (z53 rfl B.f_reversed (z00 (pv 3) z05)) (z0N (i := 6) sc_lawbits.nd rfl (Or.inl rfl)) (z03 (z0A (i := 4) sc_lawbits.nd rfl (Or.inl rfl) (z0E z0u (pv 4) z01))
    (z03 (z0A (i := 5) sc_lawbits.nd rfl (Or.inl rfl) (z0E z0u (pv 5) z01))
    (z07 (z0k (z0B z2q (pv 6) z0t (z0J _)) (z03 (z0A (i := 4) sc_lawbits.nd rfl (Or.inl rfl) (z0E z0U (pv 4) (pv 6)))
    (z07 (z0A (i := 5) sc_lawbits.nd rfl (Or.inl rfl) (z0E z0U (pv 5) z01)))) z0L)))))
    (z03 (z0w (z3b PySem.F.plainAttrs_list PySem.F.slot_list_append PySem.F.type_list_append z11 (pv 1) (z00 (pv 4) z05)))
    (z07 (z0w (z3b PySem.F.plainAttrs_list PySem.F.slot_list_append PySem.F.type_list_append z11 (pv 2) (z00 (pv 5) z05)))))))))
    (z07 (z0I (z3x (z00 (z0H z09 rfl B.f_len boot_len (z00 (z0P z0M (pv 0) z01 (fun _ _ => rfl)) z05)) (z00 (z0H z09 rfl B.f_len boot_len (z00 (pv 0) z05)) (z00 (z0o z0l rfl B.f_tuple boot_tuple (z00 (pv 1) z05)) (z00 (z0o z0l rfl B.f_tuple boot_tuple (z00 (pv 2) z05)) z05)))))))))), ?_⟩
  walk_at "rs"
  intro lp np
  walk_at "rs"
  intro lm nm
  have hlen := RA.len
  have hR := R.len
  have hR2 := R.h2
  have hpm : lp ≠ lm := fun e => by
    rw [<- e, z06] at nm
    cases nm
  have s1 : Same H (upd (upd H lp (.lst [])) lm (.lst [])) := (Same.new np).trans (Same.new nm)
  have nm0 : H lm = none := (Same.new np).free nm
  have g1 : (upd (upd H lp (.lst [])) lm (.lst [])) lp = some (.lst []) := by rw [z04 hpm, z06]
  have g2 : (upd (upd H lp (.lst [])) lm (.lst [])) lm = some (.lst []) := z06
  generalize upd (upd H lp (.lst [])) lm (.lst []) = H1 at s1 g1 g2
  refine ⟨_, rfl, l, rfl, ⟨_, SqL.of (s1 _ _ RA.lst)⟩, ?_⟩
  refine z1T (K := K) (a := l) (xs := ps.map V.ref) (fun i σ H2 => ∃ v3 v4 v5 v6, σ = [some (.ref l), some (.ref lp), some (.ref lm), v3, v4, v5, v6] /\ Same H H2 /\ H2 lp = some (.lst (((rows.take i).map z0O).map V.int)) /\ H2 lm = some (.lst (((rows.take i).map z0T).map V.int)))
    ⟨none, none, none, none, rfl, s1, g1, g2⟩ (fun i σ H2 _ ⟨_, _, _, _, _, s, _⟩ => SqL.of (s _ _ RA.lst)) ?_ ?_
  . rintro i x σ H2 hi ⟨v3, v4, v5, v6, rfl, s2, gp, gm⟩
    have hil : i < rows.length := by
      have := (List.getElem?_eq_some_iff.mp hi).1
      rw [List.length_map] at this
      omega
    obtain ⟨p, hp, gr⟩ := RA.at hil
    rw [List.getElem?_map, hp] at hi
    cases hi
    obtain ⟨hw, hc⟩ := R.row0 hil
    generalize hrow : rows[i]'hil = r at gr hw hc
    have hw2 := R.w2
    walk_at "rs"
    refine ⟨p, _, rfl, SqL.of (s2 _ _ gr), ?_⟩
    refine z4M (K := K) (a := p) (xs := r.map z0Q) (fun j σ H3 => ∃ v6, σ = [some (.ref l), some (.ref lp), some (.ref lm), some (.ref p), some (.int (z0O (r.drop (r.length - j)))), some (.int (z0T (r.drop (r.length - j)))), v6] /\ H3 = H2)
      ⟨v6, by rw [Nat.sub_zero, List.drop_length]; rfl, rfl⟩ (fun j σ H3 _ ⟨_, _, e⟩ => by rw [e]; exact SqL.of (s2 _ _ gr)) ?_ ?_
    . rintro j x σ H3 hj hx ⟨v6, rfl, rfl⟩
      rw [List.length_map] at hj hx
      have hd : r.drop (r.length - (j + 1)) = r[r.length - 1 - j]'(by omega) :: r.drop (r.length - j) := by
        have e1 : r.length - (j + 1) = r.length - 1 - j := by omega
        have e2 : r.length - j = r.length - 1 - j + 1 := by omega
        rw [e1, e2]
        exact List.drop_eq_getElem_cons (by omega)
      rw [List.getElem?_map, List.getElem?_eq_getElem (by omega)] at hx
      have hx' : x = z0Q (r[r.length - 1 - j]'(by omega)) := (Option.some.inj hx).symm
      subst hx'
      have hcell := hc _ (List.getElem_mem (show r.length - 1 - j < r.length by omega))
      generalize r[r.length - 1 - j]'(by omega) = c at hd hcell
      cases c with
      | none =>
        walk_at "rs"
        refine z5W (fun n => absurd rfl n) (fun _ => ?_)
        refine ⟨some (z0Q none), ?_, rfl⟩
        rw [hd]
        show _ = [_, _, _, _, some (V.int ((none : Option Int).getD 0 + 16 * z0O (r.drop (r.length - j)))), some (V.int ((if (none : Option Int).isSome = true then 1 else 0) + 2 * z0T (r.drop (r.length - j)))), _]
        have e1 : (none : Option Int).getD 0 + 16 * z0O (r.drop (r.length - j)) = z0O (r.drop (r.length - j)) * 16 := by
          show (0 : Int) + _ = _
          omega
        have e2 : (if (none : Option Int).isSome = true then (1 : Int) else 0) + 2 * z0T (r.drop (r.length - j)) = z0T (r.drop (r.length - j)) * 2 := by
          rw [if_neg (by simp)]
          omega
        rw [e1, e2]
        rfl
      | some z =>
        walk_at "rs"
        refine ⟨some (z0Q (some z)), ?_, rfl⟩
        rw [hd]
        show _ = [_, _, _, _, some (V.int ((some z : Option Int).getD 0 + 16 * z0O (r.drop (r.length - j)))), some (V.int ((if (some z : Option Int).isSome = true then 1 else 0) + 2 * z0T (r.drop (r.length - j)))), _]
        have e1 : (some z : Option Int).getD 0 + 16 * z0O (r.drop (r.length - j)) = z0O (r.drop (r.length - j)) * 16 + z := by
          show z + _ = _
          omega
        have e2 : (if (some z : Option Int).isSome = true then (1 : Int) else 0) + 2 * z0T (r.drop (r.length - j)) = z0T (r.drop (r.length - j)) * 2 + 1 := by
          rw [if_pos (show (some z).isSome = true from rfl)]
          omega
        rw [e1, e2]
        rfl
    . rintro σ H3 ⟨v6, rfl, rfl⟩
      rw [List.length_map, Nat.sub_self, List.drop_zero]
      have szp : (((rows.take i).map z0O).map V.int).length < sizeLine := by
        rw [List.length_map, List.length_map, List.length_take]
        exact z0R (by omega)
      have szm : (((rows.take i).map z0T).map V.int).length < sizeLine := by
        rw [List.length_map, List.length_map, List.length_take]
        exact z0R (by omega)
      refine ⟨_, rfl, .inl ⟨rfl, _, SqL.of gp⟩, _, rfl, lp, _, _, rfl, rfl, gp, szp, ?_⟩
      have gm' : (upd H3 lp (.lst (((rows.take i).map z0O).map V.int ++ [.int (z0O r)]))) lm = some (.lst (((rows.take i).map z0T).map V.int)) := by
        rw [z04 (Ne.symm hpm)]
        exact gm
      refine ⟨_, rfl, .inl ⟨rfl, _, SqL.of gm'⟩, _, rfl, lm, _, _, rfl, rfl, gm', szm, ?_⟩
      have tk : rows.take (i + 1) = rows.take i ++ [r] := by
        rw [List.take_succ, List.getElem?_eq_getElem hil, hrow]
        rfl
      refine ⟨_, _, _, _, rfl, (s2.put np).put nm0, ?_, ?_⟩
      . rw [z04 hpm, z06, tk, List.map_append, List.map_append]
        rfl
      . rw [z06, tk, List.map_append, List.map_append]
        rfl
  . rintro σ H2 ⟨v3, v4, v5, v6, rfl, s2, gp, gm⟩
    rw [List.length_map, hlen, List.take_length] at gp gm
    obtain ⟨p0, e0, g0⟩ := (RA.mono s2).atI R.ne
    refine ⟨_, rfl, l, _, 0, _, rfl, rfl, SqL.of (s2 _ _ RA.lst), e0, p0, _, rfl, .inl (SqL.of g0), _, rfl, l, _, rfl, .inl (SqL.of (s2 _ _ RA.lst)), _, rfl, lp, _, rfl, .inl ⟨SqL.of gp, fun t1 n1 => ?_⟩⟩
    refine ⟨_, rfl, lm, _, rfl, .inl ⟨SqL.of ((Same.new n1) _ _ gm), fun t2 n2 => ?_⟩⟩
    refine ⟨szV (by simp), fun t3 n3 => ?_⟩
    refine q t3 _ (((s2.trans (Same.new n1)).trans (Same.new n2)).trans (Same.new n3)) ⟨t1, t2, ?_, ?_, ?_⟩
    . rw [z06, List.length_map, List.length_map, hlen, (R.row0 R.ne).1]
    . exact (Same.new n3) _ _ ((Same.new n2) _ _ z06)
    . exact (Same.new n3) _ _ z06
theorem z3S : FnScope ["pic", "x", "y"] ["pic", "x", "y"] (z02 z0m) := ⟨rfl, rfl, rfl, by decide +kernel, rfl, by decide +kernel, by decide +kernel⟩
theorem z3T {f : Addr} {fd : FuncData} (D : Df K mg "cell_of" z0m ["pic", "x", "y"] f fd) (B : Blt mg) :
    Ow P w K mg base "cell_of" ["pic", "x", "y"] 1 z43 := by
  refine D.ow (D.F.ok z3S (fun vs H Q E h => ?_) (fun cdv A outer s H vs Q E hr h => ?_))
  . obtain ⟨p, x, y, w, h, rows, rfl, _⟩ := h
    rfl
  obtain ⟨p, x, y, wd, hg, rows, rfl, ⟨pp, pm, h1, h2, h3⟩, R, q⟩ := h
  refine ⟨_, (z03 (z0k (PW.pt (z20 (z0B z4A (pv 1) z01 (z0J _)) (z20 (z0B z4B (pv 1) (z0P z0Z (pv 0) z01 (fun _ _ => rfl)) (z0J _)) (z20 (z0B z4A (pv 2) z01 (z0J _)) (z1g (z0B z4B (pv 2) (z0P z0Z (pv 0) z01 (fun _ _ => rfl)) (z0J _))))))) (z07 (z0I z0t)) z0L)
    (z03 (z0k (z0B z1U (z0E z3v (z0E z3u (z0P z0Z (z0P z0Z (pv 0) z01 (fun _ _ => rfl)) (pv 2) (fun _ _ => rfl)) (pv 1)) z01) z01 (z0J _)) (z07 (z0I z0t)) z0L)
    (z07 (z0I (z0E z3v (z0E z3u (z0P z0Z (z0P z0Z (pv 0) z01 (fun _ _ => rfl)) (pv 2) (fun _ _ => rfl)) (z0E z0u z01 (pv 1))) z01))))), ?_⟩
  have hR := R.len
  have off : ¬ (0 <= x /\ x < wd /\ 0 <= y /\ y < hg) -> Q .non H := fun n => by
    have e : look wd hg rows x y = none := by
      unfold look
      rw [if_neg n]
    rw [e] at q
    exact q
  walk_at "rs"
  refine z21 (fun c => z4z (off (by omega))) (fun c1 => ?_)
  refine ⟨_, rfl, _, rfl, p, _, 0, _, rfl, rfl, SqT.of h1, rfl, ?_⟩
  walk_at "rs"
  refine z21 (fun c => z4z (off (by omega))) (fun c2 => ?_)
  walk_at "rs"
  refine z21 (fun c => z4z (off (by omega))) (fun c3 => ?_)
  refine ⟨_, rfl, _, rfl, p, _, 1, _, rfl, rfl, SqT.of h1, rfl, ?_⟩
  walk_at "rs"
  refine z21 (fun c => off (by omega)) (fun c4 => ?_)
  have hy : y.toNat < rows.length := by omega
  obtain ⟨hw, hc⟩ := R.row0 hy
  have em : atI ((rows.map z0T).map V.int) y = some (.int (z0T (rows[y.toNat]'hy))) := z41 (by omega) (by rw [List.getElem?_map, List.getElem?_eq_getElem hy]; rfl)
  have ep : atI ((rows.map z0O).map V.int) y = some (.int (z0O (rows[y.toNat]'hy))) := z41 (by omega) (by rw [List.getElem?_map, List.getElem?_eq_getElem hy]; rfl)
  have el : look wd hg rows x y = (rows[y.toNat]'hy)[x.toNat]'(by omega) := z3B (by omega) (by omega) (by omega) (by omega) hy (by omega)
  rw [el] at q
  have hx : (rows[y.toNat]'hy)[x.toNat]? = some ((rows[y.toNat]'hy)[x.toNat]'(by omega)) := List.getElem?_eq_getElem _
  have am := z39 hx
  have ap := z2L hc hx
  have hcell := hc _ (List.getElem_mem (show x.toNat < (rows[y.toNat]'hy).length by omega))
  generalize (rows[y.toNat]'hy)[x.toNat]'(by omega) = c at q am ap hcell
  refine ⟨_, rfl, p, _, 3, _, rfl, rfl, SqT.of h1, rfl, _, rfl, pm, _, _, _, rfl, rfl, SqT.of h3, em, _, rfl, _, _, rfl, rfl, (by show (0 : Int) <= x; omega), ?_⟩
  walk_at "rs"
  refine z21 (fun e => ?_) (fun e => ?_)
  . have e' : Builtin.bitAnd (z0T (rows[y.toNat]'hy) / 2 ^ x.toNat) 1 = 0 := V.int.inj e
    rw [z6v, am] at e'
    cases c with
    | none => exact q
    | some z =>
      rw [if_pos (show (some z).isSome = true from rfl)] at e'
      exact absurd e' (by decide)
  cases c with
  | none =>
    refine absurd ?_ e
    show V.int (Builtin.bitAnd (z0T (rows[y.toNat]'hy) / 2 ^ x.toNat) 1) = V.int 0
    rw [z6v, am]
    rfl
  | some z =>
    refine ⟨_, rfl, p, _, 2, _, rfl, rfl, SqT.of h1, rfl, _, rfl, pp, _, _, _, rfl, rfl, SqT.of h2, ep, ?_⟩
    walk_at "rs"
    refine ⟨(by show (0 : Int) <= 4 * x; omega), ?_⟩
    walk_at "rs"
    have e4 : ((4 : Int) * x).toNat = 4 * x.toNat := by omega
    have e5 : Builtin.bitAnd (z0O (rows[y.toNat]'hy) / 2 ^ ((4 : Int) * x).toNat) 15 = z := by
      rw [z6C, e4, z7k, ap]
      rfl
    show Q (V.int (Builtin.bitAnd (z0O (rows[y.toNat]'hy) / 2 ^ ((4 : Int) * x).toNat) 15)) H
    rw [e5]
    exact q
theorem z3q : FnScope ["pic", "y"] ["pic", "y"] (z02 z0r) := ⟨rfl, rfl, rfl, by decide +kernel, rfl, by decide +kernel, by decide +kernel⟩
theorem z3r {f : Addr} {fd : FuncData} (D : Df K mg "row_of" z0r ["pic", "y"] f fd)
    (O_cellof : Ow P w K mg base "cell_of" ["pic", "x", "y"] 1 z43) (B : Blt mg) :
    Ow P w K mg base "row_of" ["pic", "y"] 2 z3D := by
  refine D.ow (D.F.ok z3q (fun vs H Q E h => ?_) (fun cdv A outer s H vs Q E hr h => ?_))
  . obtain ⟨p, y, w, h, rows, rfl, _⟩ := h
    rfl
  obtain ⟨p, y, wd, hg, rows, rfl, PC, R, y0, y1, q⟩ := h
  obtain ⟨pp, pm, h1, h2, h3⟩ := id PC
  refine ⟨_, (z07 (z0I (z1G (locs := ["x"]) (ix := [0, 1]) rfl (BlkSc.look (dsc := z02 z0r) (N := ["pic", "y"]) rfl rfl (by decide +kernel)) (z0Y rfl B.f_range (z00 (z0P z0Z (pv 0) z01 (fun _ _ => rfl)) z05)) (fun _ _ _ _ _ _ => (z0N (i := 0) (by decide +kernel : (["x", "pic", "y"] : List Str).Nodup) rfl (Or.inl rfl))) (fun _ _ _ _ _ _ => z12) (fun _ _ _ _ _ _ => (z0F O_cellof hr rfl (z00 (pv 1) (z00 (pv 0) (z00 (pv 2) z05)))))))), ?_⟩
  have hR := R.len
  have hw2 := R.w2
  have hy : y.toNat < rows.length := by omega
  obtain ⟨hw, hc⟩ := R.row0 hy
  have eg : rows.getD y.toNat [] = rows[y.toNat]'hy := by rw [List.getD_eq_getElem?_getD, List.getElem?_eq_getElem hy]; rfl
  rw [eg] at q
  refine ⟨_, rfl, p, _, 0, _, rfl, rfl, SqT.of h1, rfl, _, rfl, (z1y (by omega) (by omega)).1, (z1y (by omega) (by omega)).2, ?_⟩
  refine z13 (n := wd) (fun i σ zs H2 => ∃ v, σ = [v, some (.ref p), some (.int y)] /\ zs = ((rows[y.toNat]'hy).take i).map z0Q /\ H2 = H /\ i <= wd) ⟨none, rfl, rfl, rfl, Nat.zero_le _⟩ (Nat.le_of_lt (z0R (by omega))) ?_ ?_ ?_ ?_ ?_
  . rintro i σ zs H2 ⟨v, _, rfl, _, hi⟩
    rw [List.length_map, List.length_take]
    omega
  . rintro σ zs H2 _
    show ((wd : Int)).toNat <= wd
    omega
  . intro i σ zs H2 hi _
    show i < ((wd : Int)).toNat
    omega
  . rintro i σ zs H2 x H' Z hi ⟨v, rfl, rfl, rfl, _⟩ ⟨rfl, rfl⟩ hZ
    refine ⟨_, rfl, _, rfl, _, rfl, p, _, _, _, _, rows, rfl, PC, R, ?_⟩
    rw [z4Q R y0 hy (show i < (rows[y.toNat]'hy).length by omega)]
    refine hZ _ _ _ ⟨_, rfl, ?_, rfl, hi⟩
    rw [List.take_succ, List.getElem?_eq_getElem (by omega), List.map_append]
    rfl
  . rintro σ zs H2 ⟨v, rfl, rfl, rfl, _⟩ l hl
    rw [<- hw, List.take_length]
    exact q l _ (Same.new hl) hl z06
theorem z3U : FnScope ["pic"] ["pic"] (z02 z0i) := ⟨rfl, rfl, rfl, by decide +kernel, rfl, by decide +kernel, by decide +kernel⟩
theorem z3V {f : Addr} {fd : FuncData} (D : Df K mg "rows_of" z0i ["pic"] f fd)
    (O_rowof : Ow P w K mg base "row_of" ["pic", "y"] 2 z3D) (B : Blt mg) :
    Ow P w K mg base "rows_of" ["pic"] 3 z2N := by
  refine D.ow (D.F.ok z3U (fun vs H Q E h => ?_) (fun cdv A outer s H vs Q E hr h => ?_))
  . obtain ⟨p, w, h, rows, rfl, _⟩ := h
    rfl
  obtain ⟨p, wd, hg, rows, rfl, PC, R, q⟩ := h
  obtain ⟨pp, pm, h1, h2, h3⟩ := id PC
  refine ⟨_, (z07 (z0I (z1G (locs := ["y"]) (ix := [0]) rfl (BlkSc.look (dsc := z02 z0i) (N := ["pic"]) rfl rfl (by decide +kernel)) (z0Y rfl B.f_range (z00 (z0P z0Z (pv 0) z01 (fun _ _ => rfl)) z05)) (fun _ _ _ _ _ _ => (z0N (i := 0) (by decide +kernel : (["y", "pic"] : List Str).Nodup) rfl (Or.inl rfl))) (fun _ _ _ _ _ _ => z12) (fun _ _ _ _ _ _ => (z0F O_rowof hr rfl (z00 (pv 1) (z00 (pv 0) z05))))))), ?_⟩
  have hR := R.len
  have hR2 := R.h2
  refine ⟨_, rfl, p, _, 1, _, rfl, rfl, SqT.of h1, rfl, _, rfl, (z1y (by omega) (by omega)).1, (z1y (by omega) (by omega)).2, ?_⟩
  refine z13 (n := rows.length) (fun i σ zs H2 => ∃ (v : Option V) (qs : List Addr), σ = [v, some (.ref p)] /\ zs = qs.map V.ref /\ Same H H2 /\ qs.length = i /\ (∀ q ∈ qs, H q = none) /\ ∀ (j : Nat) q r, qs[j]? = some q -> rows[j]? = some r -> H2 q = some (.lst (r.map z0Q)))
    ⟨none, [], rfl, rfl, Same.refl _, rfl, (fun _ h => nomatch h), (fun _ _ _ h => nomatch h)⟩ (Nat.le_of_lt (z0R (by omega))) ?_ ?_ ?_ ?_ ?_
  . rintro i σ zs H2 ⟨v, qs, _, rfl, _, hi, _⟩
    rw [List.length_map, hi]
  . rintro σ zs H2 _
    show ((rows.length : Int)).toNat <= rows.length
    omega
  . intro i σ zs H2 hi _
    show i < ((rows.length : Int)).toNat
    omega
  . rintro i σ zs H2 x H' Z hi ⟨v, qs, rfl, rfl, s2, hq, nq, gq⟩ ⟨rfl, rfl⟩ hZ
    refine ⟨_, rfl, _, rfl, p, _, _, _, rows, rfl, PC.mono s2, R, by omega, by omega, fun l' H3 s3 nl gl => ?_⟩
    have e0 : (0 + (i : Int)).toNat = i := by omega
    have eg : rows.getD i [] = rows[i]'hi := by rw [List.getD_eq_getElem?_getD, List.getElem?_eq_getElem hi]; rfl
    rw [e0, eg] at gl
    refine hZ _ _ _ ⟨_, qs ++ [l'], rfl, by rw [List.map_append]; rfl, s2.trans s3, by rw [List.length_append, hq]; rfl, fun q h => ?_, fun j q r e1 e2 => ?_⟩
    . rcases List.mem_append.mp h with h | h
      . exact nq q h
      . rw [List.mem_singleton.mp h]
        exact s2.free nl
    . by_cases hj : j < qs.length
      . rw [List.getElem?_append_left hj] at e1
        exact s3 _ _ (gq j q r e1 e2)
      . rw [List.getElem?_append_right (by omega)] at e1
        cases hk : j - qs.length with
        | zero =>
          rw [hk] at e1
          cases e1
          have ej : j = i := by omega
          subst ej
          rw [List.getElem?_eq_getElem hi] at e2
          cases e2
          exact gl
        | succ n =>
          rw [hk] at e1
          cases e1
  . rintro σ zs H2 ⟨v, qs, rfl, rfl, s2, hq, nq, gq⟩ l nl
    refine q l qs _ ⟨s2.trans (Same.new nl), s2.free nl, fun p' hp => ⟨nq p' hp, fun e => ?_⟩, z06, hq, fun i p' r e1 e2 => (Same.new nl) _ _ (gq i p' r e1 e2)⟩
    obtain ⟨j, hj, ej⟩ := List.mem_iff_getElem.mp hp
    have := gq j p' (rows[j]'(by omega)) (by rw [List.getElem?_eq_getElem hj, ej]) (List.getElem?_eq_getElem _)
    rw [e, nl] at this
    cases this
theorem sc_tonesat : FnScope ["table", "ranked", "y", "tones", "row", "colour", "tone"] ["table", "ranked", "y"] (z02 z0c) := ⟨rfl, rfl, rfl, by decide +kernel, rfl, by decide +kernel, by decide +kernel⟩
theorem z2c {f : Addr} {fd : FuncData} (D : Df K mg "tones_at" z0c ["table", "ranked", "y"] f fd) (B : Blt mg) :
    Ow P w K mg base "tones_at" ["table", "ranked", "y"] 1 z1u := by
  refine D.ow (D.F.ok sc_tonesat (fun vs H Q E h => ?_) (fun cdv A outer s H vs Q E hr h => ?_))
  . obtain ⟨tb, m, y, tz, ts, bs, ms, rfl, _⟩ := h
    rfl
  obtain ⟨tb, m, y, tz, ts, bs, ms, rfl, gt, ht, BA, gm, hO, q⟩ := h
  refine ⟨_, (z03 (z0A (i := 3) sc_tonesat.nd rfl (Or.inl rfl) (z0o z16 rfl B.f_list boot_list (z00 (pv 0) z05)))
    (z03 (z14 PassesOwn.never rfl (z1S (pv 1)) (z3t (n := 3) rfl (z0y (z0N (i := 4) sc_tonesat.nd rfl (Or.inl rfl)) (z0y (z0N (i := 5) sc_tonesat.nd rfl (Or.inl rfl)) (z0y (z0N (i := 6) sc_tonesat.nd rfl (Or.inl rfl)) z2i)))) (z07 (z0k (z0B z4t (pv 4) (pv 2) (z0J _)) (z07 (z4r (pv 6) (z4q (pv 3) (pv 5) set_list))) z0L)))
    (z07 (z0I (pv 3))))), ?_⟩
  walk_at "rs"
  refine ⟨tb, _, rfl, .inr (SqT.of gt), fun l nl => ?_⟩
  have s1 := Same.new (o := .lst (tz.map V.int)) nl
  have g1 : (upd H l (.lst (tz.map V.int))) l = some (.lst (tz.map V.int)) := z06
  generalize upd H l (.lst (tz.map V.int)) = H1 at s1 g1
  have lm : (z2Y ts ms).length = ms.length := by unfold z2Y; rw [List.length_map]
  refine ⟨_, rfl, m, rfl, ⟨_, SqL.of (s1 _ _ gm)⟩, ?_⟩
  refine z1T (K := K) (a := m) (xs := z2Y ts ms) (fun k σ H2 => Same H H2 /\ ∃ zs v4 v5 v6, σ = [some (.ref tb), some (.ref m), some (.int y), some (.ref l), v4, v5, v6] /\ H2 l = some (.lst (zs.map V.int)) /\ TonesUp bs tz y (ms.take k) zs) ⟨s1, tz, none, none, none, rfl, g1, TonesUp.nil ht⟩ (fun k σ H2 _ ⟨s2, _⟩ => SqL.of (s2 _ _ gm)) ?_ ?_
  . rintro k v σ H2 hk ⟨s2, zs, v4, v5, v6, rfl, g2, TU⟩
    have hkl : k < ms.length := by
      have := (List.getElem?_eq_some_iff.mp hk).1
      rwa [lm] at this
    unfold z2Y at hk
    rw [List.getElem?_map, List.getElem?_eq_getElem hkl] at hk
    cases hk
    have hj := hO.lt hkl
    have gj := s2 _ _ (BA.at' ms[k] hj)
    have tk : ms.take (k + 1) = ms.take k ++ [ms[k]] := by rw [List.take_succ, List.getElem?_eq_getElem hkl]; rfl
    have hc := BA.col _ (List.getElem_mem hj)
    refine ⟨_, _, rfl, SqT.of gj, rfl, _, _, rfl, _, _, rfl, _, _, rfl, rfl, ?_⟩
    walk_at "rs"
    refine z21 (fun c => ?_) (fun c => ?_)
    . have h16 := TU.1
      walk_at "rs"
      refine ⟨l, _, _, (bs[ms[k]]).col.toNat, rfl, rfl, g2, ?_, ?_⟩
      . have e := z4U (x := (bs[ms[k]]).col.toNat) (n := (zs.map V.int).length) (by rw [List.length_map]; omega)
        rw [show (0 : Int) + (((bs[ms[k]]).col.toNat : Nat) : Int) = (bs[ms[k]]).col by omega] at e
        exact e
      refine ⟨s2.put nl, zs.set (bs[ms[k]]).col.toNat (bs[ms[k]]).tone, _, _, _, rfl, by rw [z06, List.map_set], ?_⟩
      rw [tk]
      refine TU.take hj c hc fun i hi => ?_
      obtain ⟨n, hn, rfl⟩ := List.mem_iff_getElem.mp hi
      rw [List.length_take] at hn
      rw [List.getElem_take]
      exact ⟨hO.lt (by omega), hO.two (by omega) hkl⟩
    . refine ⟨s2, zs, _, _, _, rfl, g2, ?_⟩
      rw [tk]
      exact TU.skip hj c
  . rintro σ H2 ⟨s2, zs, v4, v5, v6, rfl, g2, TU⟩
    walk_at "rs"
    rw [lm, List.take_length] at TU
    exact q l zs H2 s2 nl g2 (TU.done hO.1)
theorem z3W : FnScope ["tones", "row"] ["tones", "row"] (z02 z0j) := ⟨rfl, rfl, rfl, by decide +kernel, rfl, by decide +kernel, by decide +kernel⟩
theorem z3X {f : Addr} {fd : FuncData} (D : Df K mg "lit_row" z0j ["tones", "row"] f fd) (B : Blt mg) :
    Ow P w K mg base "lit_row" ["tones", "row"] 1 z2U := by
  refine D.ow (D.F.ok z3W (fun vs H Q E h => ?_) (fun cdv A outer s H vs Q E hr h => ?_))
  . obtain ⟨l, p, zs, r, rfl, _⟩ := h
    rfl
  obtain ⟨l, p, zs, r, rfl, gl, h16, gp, hc, h64, q⟩ := h
  refine ⟨_, (z07 (z0I (z1G (locs := ["cell"]) (ix := [0]) rfl (BlkSc.look (dsc := z02 z0j) (N := ["tones", "row"]) rfl rfl (by decide +kernel)) (z1S (pv 1)) (fun _ _ _ _ _ _ => (z0N (i := 0) (by decide +kernel : (["cell", "tones"] : List Str).Nodup) rfl (Or.inl rfl))) (fun _ _ _ _ _ _ => z12) (fun _ _ _ _ _ _ => (z3Z (z0B z2p (pv 0) z0t (z0J _)) z0t (z0P z3h (pv 1) (pv 0) (fun _ _ => rfl))))))), ?_⟩
  walk_at "rs"
  refine ⟨⟨_, SqL.of gp⟩, ?_⟩
  refine z13 (n := r.length) (fun i σ ys H2 => ∃ v, σ = [v, some (.ref l)] /\ ys = (r.take i).map (z2T zs) /\ ys.length = i /\ H2 = H) ⟨none, rfl, rfl, rfl, rfl⟩ (Nat.le_of_lt (z0R (by omega))) ?_ ?_ ?_ ?_ ?_
  . rintro i σ ys H2 ⟨v, _, _, hl, _⟩
    exact hl
  . rintro σ ys H2 ⟨v, _, _, _, rfl⟩
    exact ⟨_, SqL.of gp, by rw [List.length_map]; exact Nat.le_refl _⟩
  . rintro i σ ys H2 hi ⟨v, _, _, _, rfl⟩
    exact ⟨_, _, SqL.of gp, List.getElem?_eq_getElem (show i < (r.map z0Q).length by rw [List.length_map]; exact hi)⟩
  . rintro i σ ys H2 x H' Z hi ⟨v, rfl, rfl, hl, eH⟩ ⟨eH', hx⟩ hZ
    subst eH'
    subst eH
    have e := hx _ (SqL.of gp)
    rw [List.getElem?_map, List.getElem?_eq_getElem hi] at e
    cases e
    have tk : (r.take (i + 1)).map (z2T zs) = (r.take i).map (z2T zs) ++ [z2T zs r[i]] := by rw [List.take_succ, List.getElem?_eq_getElem hi, List.map_append]; rfl
    have fin : ∀ u, u = z2T zs r[i] -> ∃ v, [some (z0Q r[i]), some (.ref l)] = [v, some (.ref l)] /\ (r.take i).map (z2T zs) ++ [u] = (r.take (i + 1)).map (z2T zs) /\ ((r.take i).map (z2T zs) ++ [u]).length = i + 1 /\ H' = H' := fun u hu => ⟨_, rfl, by rw [tk, hu], by rw [List.length_append, hl]; rfl, rfl⟩
    have hcell := hc _ (List.getElem_mem hi)
    generalize r[i] = c at fin hcell
    walk_at "rs"
    cases c with
    | none => exact z4z (hZ _ _ _ (fin _ rfl))
    | some z =>
      have hz := hcell z rfl
      refine z64 ?_
      walk_at "rs"
      refine ⟨l, _, _, .int (zs.getD z.toNat 0), rfl, rfl, SqL.of gl, ?_, hZ _ _ _ (fin _ rfl)⟩
      have e := z0S (xs := zs.map V.int) (j := z.toNat) (v := .int (zs.getD z.toNat 0)) (by rw [List.getElem?_map, List.getD_eq_getElem?_getD, List.getElem?_eq_getElem (by omega)]; rfl)
      rw [show ((z.toNat : Nat) : Int) = z by omega] at e
      exact e
  rintro σ ys H2 ⟨v, rfl, rfl, hl, rfl⟩ l2 nl2
  rw [List.take_length]
  exact q l2 _ (Same.new nl2) nl2 z06
theorem sc_lit : FnScope ["table", "bars", "pic", "ranked"] ["table", "bars", "pic"] (z02 z1w) := ⟨rfl, rfl, rfl, by decide +kernel, rfl, by decide +kernel, by decide +kernel⟩
theorem z5R {f : Addr} {fd : FuncData} (D : Df K mg "lit" z1w ["table", "bars", "pic"] f fd) (hcode : fd.code = .ref tc) (BT : BaseT mg base tc tp)
    (O_rowsof : Ow P w K mg base "rows_of" ["pic"] 3 z2N)
    (O_tonesat : Ow P w K mg base "tones_at" ["table", "ranked", "y"] 1 z1u)
    (O_litrow : Ow P w K mg base "lit_row" ["tones", "row"] 1 z2U) (B : Blt mg) :
    Ow P w K mg base "lit" ["table", "bars", "pic"] 4 (z5P tp z4f) := by
  refine D.ow (D.F.okc hcode sc_lit (fun vs H Q E h => ?_) (fun A outer s H vs Q E hr h => ?_))
  . obtain ⟨tb, l, p, tz, ts, bs, w, h, rows, rfl, _⟩ := h
    rfl
  obtain ⟨tb, l, p, tz, ts, bs, wd, hg, rows, rfl, gt, h16, BA, hn, PA, R, TO, q⟩ := h
  refine ⟨_, (z03 (z0A (i := 3) sc_lit.nd rfl (Or.inr rfl) (z26 hr BT rfl rfl rfl rfl (LamScope.zero rfl rfl rfl rfl (show ("bar" : Str) ∉ (["table", "bars", "pic", "ranked"] : List Str) by decide +kernel)) (fun _ _ _ _ => rfl) rfl B.f_sorted (pv 1) (fun _ _ _ _ _ => (z0P z4X (pv 0) z01 (fun _ _ => rfl)))))
    (z07 (z0I (z1G (locs := ["y", "row"]) (ix := [0, 3]) rfl (BlkSc.look (dsc := z02 z1w) (N := ["table", "bars", "pic", "ranked"]) rfl rfl (by decide +kernel)) (z4L rfl B.f_enumerate (z00 (z0F O_rowsof hr rfl (z00 (pv 2) z05)) z05)) (fun _ _ _ _ _ _ => (z4N (n := 2) rfl (z0y (z0N (i := 0) (by decide +kernel : (["y", "row", "table", "ranked"] : List Str).Nodup) rfl (Or.inl rfl)) (z0y (z0N (i := 1) (by decide +kernel : (["y", "row", "table", "ranked"] : List Str).Nodup) rfl (Or.inl rfl)) z2i)))) (fun _ _ _ _ _ _ => z12) (fun _ _ _ _ _ _ => (z0F O_litrow hr rfl (z00 (z0F O_tonesat hr rfl (z00 (pv 2) (z00 (pv 3) (z00 (pv 0) z05)))) (z00 (pv 1) z05)))))))), ?_⟩
  have hl := BA.bar.len
  have gD : ∀ i, (hi : i < ts.length) -> ts[i]'hi = ts.getD i 0 := fun i hi => by rw [List.getD_eq_getElem?_getD, List.getElem?_eq_getElem hi]; rfl
  walk_at "rs"
  refine ⟨l, ts, z1t bs, rfl, SqL.of BA.lst, BA.bar.nd, by omega, TO, fun i hi H2 e2 => ?_, fun H2 m ms T2 e2 nm hO gm => ?_⟩
  . have g2 := e2.tup TO (BA.bar.at' i (by omega))
    rw [gD i hi, z1a (show i < bs.length by omega)]
    exact ⟨_, rfl, _, _, 0, _, rfl, rfl, SqT.of g2, rfl, rfl, rfl⟩
  rw [hl] at hO
  have BA2 := e2.bar TO BA.bar
  have gt2 := e2.tup TO gt
  walk_at "rs"
  refine ⟨p, wd, hg, rows, rfl, e2.pic TO PA, R, fun rl ps H3 RB => ?_⟩
  have hpl := RB.rat.len
  have hRl := R.len
  have hR2 := R.h2
  refine ⟨rl, rfl, ⟨_, SqL.of RB.rat.lst⟩, ?_⟩
  refine z13 (n := rows.length) (fun i σ ys H4 => ∃ v0 v1 fs, σ = [v0, v1, some (.ref tb), some (.ref m)] /\ ys = (fs : List Addr).map V.ref /\ fs.length = i /\ Same H3 H4 /\ (∀ x ∈ fs, H3 x = none) /\ ∀ (j : Nat) x r, fs[j]? = some x -> rows[j]? = some r -> ∃ zs, z1B bs tz (j : Int) zs /\ H4 x = some (.lst (r.map (z2T zs)))) ⟨none, none, [], rfl, rfl, rfl, Same.refl _, (fun x hx => nomatch hx), (fun j x r e => nomatch e)⟩ (Nat.le_of_lt (z0R (by omega))) ?_ ?_ ?_ ?_ ?_
  . rintro i σ ys H4 ⟨v0, v1, fs, _, rfl, hf, _⟩
    rw [List.length_map, hf]
  . rintro σ ys H4 ⟨v0, v1, fs, _, _, _, s4, _⟩
    exact ⟨_, SqL.of (s4 _ _ RB.rat.lst), by rw [List.length_map, hpl]; exact Nat.le_refl _⟩
  . rintro i σ ys H4 hi ⟨v0, v1, fs, _, _, _, s4, _⟩
    exact ⟨_, _, SqL.of (s4 _ _ RB.rat.lst), List.getElem?_eq_getElem (show i < (ps.map V.ref).length by rw [List.length_map]; omega)⟩
  . rintro i σ ys H4 x H' Z hi ⟨v0, v1, fs, rfl, rfl, hf, s4, nf, LL⟩ ⟨T, v, nT, rfl, rfl, hx⟩ hZ
    obtain ⟨pr, hp, gr⟩ := RB.rat.at hi
    have e := hx _ (SqL.of (s4 _ _ RB.rat.lst))
    rw [List.getElem?_map, hp] at e
    cases e
    have s5 := Same.new (o := .tup [.int (i : Int), .ref pr]) nT
    have gT : (upd H4 T (.tup [.int (i : Int), .ref pr])) T = some (.tup [.int (i : Int), .ref pr]) := z06
    generalize upd H4 T (.tup [.int (i : Int), .ref pr]) = H5 at s5 gT
    have s35 := s4.trans s5
    have s25 : Same H2 H5 := RB.same.trans s35
    refine ⟨_, _, rfl, SqT.of gT, rfl, _, _, rfl, _, _, rfl, rfl, ?_⟩
    walk_at "rs"
    refine ⟨tb, m, _, tz, ts, bs, ms, rfl, s25 _ _ gt2, h16, BA2.mono s25, s25 _ _ gm, hO, fun tl zs H6 s6 ntl g6 TA => ?_⟩
    obtain ⟨hw, hc⟩ := R.row0 hi
    have w64 := R.w2
    walk_at "rs"
    refine ⟨tl, pr, zs, rows[i], rfl, g6, TA.1, s6 _ _ (s35 _ _ gr), hc, by omega, fun u H7 s7 nu gu => ?_⟩
    refine hZ _ _ _ ⟨_, _, fs ++ [u], rfl, by rw [List.map_append]; rfl, by rw [List.length_append, hf]; rfl, (s35.trans s6).trans s7, fun x hx => ?_, fun j x r e1 e2 => ?_⟩
    . rcases List.mem_append.mp hx with e | e
      . exact nf x e
      . rw [List.mem_singleton.mp e]
        exact (s35.trans s6).free nu
    . by_cases hj : j < fs.length
      . rw [List.getElem?_append_left hj] at e1
        obtain ⟨zs', h1, h2⟩ := LL j x r e1 e2
        exact ⟨zs', h1, s7 _ _ (s6 _ _ (s5 _ _ h2))⟩
      . rw [List.getElem?_append_right (by omega)] at e1
        cases hk : j - fs.length with
        | zero =>
          rw [hk] at e1
          cases e1
          have ej : j = i := by omega
          subst ej
          rw [List.getElem?_eq_getElem hi] at e2
          cases e2
          exact ⟨zs, TA, gu⟩
        | succ n =>
          rw [hk] at e1
          cases e1
  rintro σ ys H4 ⟨v0, v1, fs, rfl, rfl, hf, s4, nf, LL⟩ f nfl
  have s24 : Same H2 H4 := RB.same.trans s4
  have s5 := Same.new (o := .lst (fs.map V.ref)) nfl
  refine q f fs _ (T2.keep (s24.trans s5)) (e2.trans (s24.trans s5).toP') (e2.unmd T2 (s24.free nfl)) (fun x hx => e2.unmd T2 (RB.same.free (nf x hx))) ⟨z06, hf, fun j x r e1 e2 => ?_⟩
  obtain ⟨zs, h1, h2⟩ := LL j x r e1 e2
  exact ⟨zs, h1, s5 _ _ h2⟩
theorem sc_lawcells : FnScope ["_law_script", "_law_wide", "_law_high", "_law_rows", "_law_y", "_law_row", "_law_x", "_law_way", "_law_cell"] ["_law_script", "_law_wide", "_law_high"] (z02 z0X) := ⟨rfl, rfl, rfl, by decide +kernel, rfl, by decide +kernel, by decide +kernel⟩
theorem z2D {f : Addr} {fd : FuncData} (D : Df K mg "_law_cells" z0X ["_law_script", "_law_wide", "_law_high"] f fd)
    (O_lawdraw : Ow P w K mg base "_law_draw" ["_law_script", "_law_k", "_law_prime", "_law_many"] 1 (z1Y K)) (B : Blt mg) :
    Ow P w K mg base "_law_cells" ["_law_script", "_law_wide", "_law_high"] 2 (z1v K) := by
  refine D.ow (D.F.ok sc_lawcells (fun vs H Q E h => ?_) (fun cdv A outer s H vs Q E hr h => ?_))
  . obtain ⟨a, ns, w, h, rfl, _⟩ := h
    rfl
  obtain ⟨a, ns, wd, hg, rfl, hS, w1, w2, h1, h2, q⟩ := h
  refine ⟨_, (z03 (z0A (i := 3) sc_lawcells.nd rfl (Or.inl rfl) (z1j z05))
    (z03 (z14 PassesOwn.never rfl (z0Y rfl B.f_range (z00 (pv 2) z05)) (z0N (i := 4) sc_lawcells.nd rfl (Or.inl rfl)) (z03 (z0A (i := 5) sc_lawcells.nd rfl (Or.inl rfl) (z1j z05))
    (z03 (z14 PassesOwn.never rfl (z0Y rfl B.f_range (z00 (pv 1) z05)) (z0N (i := 6) sc_lawcells.nd rfl (Or.inl rfl)) (z03 (z0A (i := 7) sc_lawcells.nd rfl (Or.inl rfl) (z0F O_lawdraw hr rfl (z00 (pv 0) (z00 (z0E z0U (z0E z0U z01 (z0E z0u z01 (pv 4))) (pv 6)) (z00 z01 (z00 z01 z05))))))
    (z03 (z0A (i := 8) sc_lawcells.nd rfl (Or.inl rfl) z0t)
    (z03 (z0k (z0B z4A (pv 7) z01 (z0J _)) (z07 (z0A (i := 8) sc_lawcells.nd rfl (Or.inl rfl) (z0E z15 (z0E z0U (z0F O_lawdraw hr rfl (z00 (pv 0) (z00 z01 (z00 z01 (z00 z01 z05))))) (z0E z0u z01 (pv 7))) z01))) z0L)
    (z07 (z0w (z3b PySem.F.plainAttrs_list PySem.F.slot_list_append PySem.F.type_list_append z11 (pv 5) (z00 (pv 8) z05))))))))
    (z07 (z0w (z3b PySem.F.plainAttrs_list PySem.F.slot_list_append PySem.F.type_list_append z11 (pv 3) (z00 (pv 5) z05)))))))
    (z07 (z0I (pv 3))))), ?_⟩
  walk_at "rs"
  intro l nl
  refine ⟨_, rfl, _, rfl, (z1y (by omega) (by omega)).1, (z1y (by omega) (by omega)).2, ?_⟩
  refine z0z (n := hg.toNat) (fun y σ H2 => ∃ ps rows v4 v5 v6 v7 v8, σ = [some (.ref a), some (.int wd), some (.int hg), some (.ref l), v4, v5, v6, v7, v8] /\ RowsB H H2 l ps rows /\ rows.length = y /\ ∀ r ∈ rows, r.length = wd.toNat /\ Cells r)
    ⟨[], [], none, none, none, none, none, rfl, z4P (Same.refl _) nl, rfl, (fun _ hr => nomatch hr)⟩ ?_ ?_
  . rintro y σ H2 hy ⟨ps, rows, v4, v5, v6, v7, v8, rfl, RB, hlen, hrow⟩
    have hpl := RB.rat.len
    walk_at "rs"
    intro p np
    have npl : p ≠ l := fun e => by
      have := RB.rat.lst
      rw [<- e, np] at this
      cases this
    have npp : p ∉ ps := fun hp => by
      obtain ⟨i, hi, e⟩ := List.mem_iff_getElem.mp hp
      have := RB.rat.row i p (rows[i]'(by omega)) (by rw [List.getElem?_eq_getElem hi, e]) (List.getElem?_eq_getElem _)
      rw [np] at this
      cases this
    have np0 : H p = none := RB.same.free np
    have RB1 := RB.put (o := .lst []) np0 npl npp
    have g1 : (upd H2 p (.lst [])) p = some (.lst []) := z06
    generalize upd H2 p (.lst []) = H3 at RB1 g1
    walk_at "rs"
    refine ⟨(z1y (by omega) (by omega)).1, (z1y (by omega) (by omega)).2, ?_⟩
    refine z0z (n := wd.toNat) (fun x σ H4 => ∃ r v6 v7 v8, σ = [some (.ref a), some (.int wd), some (.int hg), some (.ref l), some (.int (0 + (y : Int))), some (.ref p), v6, v7, v8] /\ RowsB H H4 l ps rows /\ H4 p = some (.lst (r.map z0Q)) /\ r.length = x /\ Cells r) ⟨[], v6, v7, v8, rfl, RB1, g1, rfl, (fun _ h => nomatch h)⟩ ?_ ?_
    . rintro x σ H4 hx ⟨r, v6, v7, v8, rfl, RB4, g4, hr, hc⟩
      walk_at "rs"
      refine ⟨a, ns, _, _, _, rfl, RB4.same.seq hS, by omega, by omega, (by decide), by decide, fun z1 a0 a1 => ?_⟩
      walk_at "rs"
      refine z21 (fun c => ?_) (fun c => ?_)
      . walk_at "rs"
        refine ⟨a, ns, _, _, _, rfl, RB4.same.seq hS, by omega, by omega, (by decide), by decide, fun z2 b0 b1 => ?_⟩
        walk_at "rs"
        refine ⟨.inl ⟨rfl, _, SqL.of g4⟩, ?_⟩
        walk_at "rs"
        refine ⟨p, _, _, rfl, rfl, g4, by rw [List.length_map]; exact z0R (by omega), ?_⟩
        refine ⟨r ++ [some ((z2 + 5 * z1) % 16)], _, _, _, rfl, RB4.put np0 npl npp, by rw [z06, List.map_append]; rfl, by rw [List.length_append, hr]; rfl, fun d hd => ?_⟩
        rcases List.mem_append.mp hd with e | e
        . exact hc d e
        . rw [List.mem_singleton.mp e]
          exact fun z hz => by
            cases hz
            exact ⟨Int.emod_nonneg _ (by decide), by have := Int.emod_lt_of_pos (z2 + 5 * z1) (show (0 : Int) < 16 by decide); omega⟩
      . walk_at "rs"
        refine ⟨.inl ⟨rfl, _, SqL.of g4⟩, ?_⟩
        walk_at "rs"
        refine ⟨p, _, _, rfl, rfl, g4, by rw [List.length_map]; exact z0R (by omega), ?_⟩
        refine ⟨r ++ [none], _, _, _, rfl, RB4.put np0 npl npp, by rw [z06, List.map_append]; rfl, by rw [List.length_append, hr]; rfl, fun d hd => ?_⟩
        rcases List.mem_append.mp hd with e | e
        . exact hc d e
        . rw [List.mem_singleton.mp e]
          exact fun z hz => nomatch hz
    . rintro σ H4 ⟨r, v6, v7, v8, rfl, RB4, g4, hr, hc⟩
      walk_at "rs"
      refine ⟨.inl ⟨rfl, _, SqL.of RB4.rat.lst⟩, ?_⟩
      walk_at "rs"
      refine ⟨l, _, _, rfl, rfl, RB4.rat.lst, by rw [List.length_map]; exact z0R (by omega), ?_⟩
      refine ⟨ps ++ [p], rows ++ [r], _, _, _, _, _, rfl, RB4.push np0 npl g4, by rw [List.length_append, hlen]; rfl, fun r' hr' => ?_⟩
      rcases List.mem_append.mp hr' with e | e
      . exact hrow r' e
      . rw [List.mem_singleton.mp e]
        exact ⟨hr, hc⟩
  . rintro σ H2 ⟨ps, rows, v4, v5, v6, v7, v8, rfl, RB, hlen, hrow⟩
    walk_at "rs"
    exact q l ps rows H2 RB.same RB.fl RB.rat ⟨hlen, by omega, by omega, by omega, by omega, hrow⟩
theorem sc_lawbar : FnScope ["_law_script", "_law_k", "_law_high", "_law_row", "_law_way", "_law_colour"] ["_law_script", "_law_k", "_law_high"] (z02 z0n) := ⟨rfl, rfl, rfl, by decide +kernel, rfl, by decide +kernel, by decide +kernel⟩
theorem z3Y {f : Addr} {fd : FuncData} (D : Df K mg "_law_bar" z0n ["_law_script", "_law_k", "_law_high"] f fd)
    (O_lawdraw : Ow P w K mg base "_law_draw" ["_law_script", "_law_k", "_law_prime", "_law_many"] 1 (z1Y K))
    (O_lawgreat : Ow P w K mg base "_law_great" ["_law_script", "_law_k", "_law_many"] 1 (z42 K)) (B : Blt mg) :
    Ow P w K mg base "_law_bar" ["_law_script", "_law_k", "_law_high"] 2 (z5Q K) := by
  refine D.ow (D.F.ok sc_lawbar (fun vs H Q E h => ?_) (fun cdv A outer s H vs Q E hr h => ?_))
  . obtain ⟨a, ns, k, h, rfl, _⟩ := h
    rfl
  obtain ⟨a, ns, k, hg, rfl, hS, k0, k1, q⟩ := h
  refine ⟨_, (z03 (z0A (i := 3) sc_lawbar.nd rfl (Or.inl rfl) (z0E z2l (z0F O_lawdraw hr rfl (z00 (pv 0) (z00 (pv 1) (z00 z01 (z00 z01 z05))))) z01))
    (z03 (z0A (i := 4) sc_lawbar.nd rfl (Or.inl rfl) (z0F O_lawdraw hr rfl (z00 (pv 0) (z00 (z0E z0U (pv 1) z01) (z00 z01 (z00 z01 z05))))))
    (z1H (z0k (z0B z1U (pv 4) z01 (z0J _)) (z07 (z0A (i := 3) sc_lawbar.nd rfl (Or.inl rfl) (z0E z2l (z0F O_lawgreat hr rfl (z00 (pv 0) (z00 (z0E z0U (pv 1) z01) (z00 (z0E z0U (z0E z0u z01 (z0E z2H z01 z01)) z01) z05)))) (z0E z2H z01 z01)))) z0L)
    (z1H (z0k (z0B z1U (pv 4) z01 (z0J _)) (z07 (z0A (i := 3) sc_lawbar.nd rfl (Or.inl rfl) (z0E z2l (pv 2) (z0F O_lawdraw hr rfl (z00 (pv 0) (z00 (z0E z0U (pv 1) z01) (z00 z01 (z00 z01 z05)))))))) z0L)
    (z03 (z0A (i := 5) sc_lawbar.nd rfl (Or.inl rfl) (z0E z15 (z0E z0U (z0F O_lawdraw hr rfl (z00 (pv 0) (z00 z01 (z00 z01 (z00 z01 z05))))) (z0E z0u z01 (z0F O_lawdraw hr rfl (z00 (pv 0) (z00 (z0E z0U (pv 1) z01) (z00 z01 (z00 z01 z05))))))) z01))
    (z07 (z0I (z3x (z00 (pv 3) (z00 (pv 5) (z00 (z0F O_lawdraw hr rfl (z00 (pv 0) (z00 (z0E z0U (pv 1) z01) (z00 z01 (z00 z01 z05))))) z05))))))))))), ?_⟩
  walk_at "rs"
  refine ⟨a, ns, _, _, _, rfl, hS, by omega, by omega, (by decide), by decide, fun z1 a0 a1 => ?_⟩
  walk_at "rs"
  refine ⟨a, ns, _, _, _, rfl, hS, by omega, by omega, (by decide), by decide, fun z2 b0 b1 => ?_⟩
  walk_at "rs"
  refine ⟨fun σ' H' => H' = H /\ ∃ rw : Int, σ' = [some (.ref a), some (.int k), some (.int hg), some (.int rw), some (.int z2), none], ?_, ?_⟩
  . walk_at "rs"
    refine z21 (fun c => ?_) (fun c => ?_)
    . walk_at "rs"
      refine ⟨a, ns, _, _, rfl, hS, by omega, by omega, (by decide), fun z3 c0 c1 => ?_⟩
      walk_at "rs"
      exact ⟨_, rfl⟩
    . exact ⟨rfl, _, rfl⟩
  rintro σ1 H1 ⟨rfl, rw1, rfl⟩
  refine ⟨fun σ' H' => H' = H1 /\ ∃ rw : Int, σ' = [some (.ref a), some (.int k), some (.int hg), some (.int rw), some (.int z2), none], ?_, ?_⟩
  . walk_at "rs"
    refine z21 (fun c => ?_) (fun c => ?_)
    . walk_at "rs"
      refine ⟨a, ns, _, _, _, rfl, hS, by omega, by omega, (by decide), by decide, fun z3 c0 c1 => ?_⟩
      walk_at "rs"
      exact ⟨_, rfl⟩
    . exact ⟨rfl, _, rfl⟩
  rintro σ2 H2 ⟨rfl, rw2, rfl⟩
  walk_at "rs"
  refine ⟨a, ns, _, _, _, rfl, hS, by omega, by omega, (by decide), by decide, fun z3 c0 c1 => ?_⟩
  walk_at "rs"
  refine ⟨a, ns, _, _, _, rfl, hS, by omega, by omega, (by decide), by decide, fun z4 d0 d1 => ?_⟩
  walk_at "rs"
  refine ⟨a, ns, _, _, _, rfl, hS, by omega, by omega, (by decide), by decide, fun z5 e0 e1 => ?_⟩
  walk_at "rs"
  intro t nt
  exact q t ⟨rw2, (z3 + 5 * z4) % 16, z5⟩ nt (Int.emod_nonneg _ (by decide)) (Int.emod_lt_of_pos _ (by decide))
theorem sc_lawtone : FnScope ["_law_table", "_law_bars", "_law_colour", "_law_y", "_law_tone_here", "_law_least", "_law_bar_here"] ["_law_table", "_law_bars", "_law_colour", "_law_y"] (z02 z0f) := ⟨rfl, rfl, rfl, by decide +kernel, rfl, by decide +kernel, by decide +kernel⟩
theorem z2d {f : Addr} {fd : FuncData} (D : Df K mg "_law_tone" z0f ["_law_table", "_law_bars", "_law_colour", "_law_y"] f fd) (B : Blt mg) :
    Ow P w K mg base "_law_tone" ["_law_table", "_law_bars", "_law_colour", "_law_y"] 1 z3Q := by
  refine D.ow (D.F.ok sc_lawtone (fun vs H Q E h => ?_) (fun cdv A outer s H vs Q E hr h => ?_))
  . obtain ⟨tb, l, c, y, tz, ts, bs, rfl, _⟩ := h
    rfl
  obtain ⟨tb, l, c, y, tz, ts, bs, rfl, gt, h16, BA, c0, c1, q⟩ := h
  refine ⟨_, (z03 (z0A (i := 4) sc_lawtone.nd rfl (Or.inl rfl) (z0P z0Z (pv 0) (pv 2) (fun _ _ => rfl)))
    (z03 (z0A (i := 5) sc_lawtone.nd rfl (Or.inl rfl) z0t)
    (z03 (z14 PassesOwn.never rfl (z1S (pv 1)) (z0N (i := 6) sc_lawtone.nd rfl (Or.inl rfl)) (z07 (z0k (PW.pt (z3s (z0B z1U (z0P z0Z (pv 6) z01 (fun _ _ => rfl)) (pv 2) (z0J _)) (z3s (z0B z4t (z0P z0Z (pv 6) z01 (fun _ _ => rfl)) (pv 3) (z0J _)) (z47 (PW.pt (z20 (z0B z2p (pv 5) z0t (z0J _)) (z1g (z0B z4B (z0P z0Z (pv 6) z01 (fun _ _ => rfl)) (pv 5) (z0J _))))))))) (z03 (z0A (i := 5) sc_lawtone.nd rfl (Or.inl rfl) (z0P z0Z (pv 6) z01 (fun _ _ => rfl)))
    (z07 (z0A (i := 4) sc_lawtone.nd rfl (Or.inl rfl) (z0P z0Z (pv 6) z01 (fun _ _ => rfl))))) z0L)))
    (z07 (z0I (pv 4)))))), ?_⟩
  walk_at "rs"
  have hl := BA.bar.len
  refine ⟨tb, _, _, .int (tz.getD c.toNat 0), rfl, rfl, SqT.of gt, ?_, ?_⟩
  . have e := z0S (xs := tz.map V.int) (j := c.toNat) (v := .int (tz.getD c.toNat 0)) (by rw [List.getElem?_map, List.getD_eq_getElem?_getD, List.getElem?_eq_getElem (by omega)]; rfl)
    rw [show ((c.toNat : Nat) : Int) = c by omega] at e
    exact e
  walk_at "rs"
  refine ⟨⟨_, SqL.of BA.lst⟩, ?_⟩
  refine z1T (K := K) (a := l) (xs := ts.map V.ref) (fun k σ H2 => H2 = H /\ ∃ r o v6, σ = [some (.ref tb), some (.ref l), some (.int c), some (.int y), some (.int r), some (z0Q o), v6] /\ Upm bs y c (tz.getD c.toNat 0) (· < k) o r) ⟨rfl, _, none, none, rfl, Upm.none fun i => Nat.not_lt_zero i⟩ (fun k σ H2 _ ⟨e, _⟩ => by rw [e]; exact SqL.of BA.lst) ?_ ?_
  . rintro k v σ H2 hk ⟨rfl, r, o, v6, rfl, U⟩
    have hkl : k < ts.length := by
      have := (List.getElem?_eq_some_iff.mp hk).1
      rwa [List.length_map] at this
    rw [List.getElem?_map, List.getElem?_eq_getElem hkl] at hk
    cases hk
    have hkb : k < bs.length := by omega
    have gj := BA.bar.at' k hkb
    rw [show ts.getD k 0 = ts[k] by rw [List.getD_eq_getElem?_getD, List.getElem?_eq_getElem hkl]; rfl] at gj
    have no : ¬ ((bs[k]).row <= y /\ (bs[k]).col = c) -> Upm bs y c (tz.getD c.toNat 0) (· < k + 1) o r := fun n => (U.skip (k := k) fun b hb => by
      have := (z0q hkb).symm.trans hb.1
      cases this
      exact n hb.2).congr fun i => by omega
    refine ⟨_, rfl, ts[k], _, 1, _, rfl, rfl, SqT.of gj, rfl, ?_⟩
    walk_at "rs"
    refine z21 (fun c1 => ?_) (fun c1 => ?_)
    . refine ⟨_, rfl, ts[k], _, 0, _, rfl, rfl, SqT.of gj, rfl, ?_⟩
      walk_at "rs"
      refine z21 (fun c2 => ?_) (fun c2 => ?_)
      . have e1 : (bs[k]).col = c := V.int.inj c1
        have yes : (∀ z, o = some z -> z <= (bs[k]).row) -> Upm bs y c (tz.getD c.toNat 0) (· < k + 1) (some (bs[k]).row) (bs[k]).tone := fun h => U.next ⟨z0q hkb, c2, e1⟩ h
        cases o with
        | none =>
          walk_at "rs"
          refine ⟨ts[k], _, 0, _, rfl, rfl, SqT.of gj, rfl, ?_⟩
          refine ⟨_, rfl, ts[k], _, 2, _, rfl, rfl, SqT.of gj, rfl, ?_⟩
          exact ⟨rfl, _, some (bs[k]).row, _, rfl, yes fun z e => nomatch e⟩
        | some z =>
          walk_at "rs"
          refine ⟨ts[k], _, 0, _, rfl, rfl, SqT.of gj, rfl, ?_⟩
          walk_at "rs"
          refine z21 (fun c4 => ?_) (fun c4 => ?_)
          . refine ⟨_, rfl, ts[k], _, 0, _, rfl, rfl, SqT.of gj, rfl, ?_⟩
            refine ⟨_, rfl, ts[k], _, 2, _, rfl, rfl, SqT.of gj, rfl, ?_⟩
            exact ⟨rfl, _, some (bs[k]).row, _, rfl, yes fun z' e => by cases e; exact c4⟩
          . exact ⟨rfl, r, some z, _, rfl, (U.under (k := k) (z0q hkb) (by omega)).congr fun i => by omega⟩
      . exact ⟨rfl, r, o, _, rfl, no fun z => c2 z.1⟩
    . exact ⟨rfl, r, o, _, rfl, no fun z => c1 (congrArg V.int z.2)⟩
  . rintro σ H2 ⟨rfl, r, o, v6, rfl, U⟩
    walk_at "rs"
    rw [List.length_map, hl] at U
    exact q r ⟨o, U⟩
theorem sc_lawsame : FnScope ["_law_found", "_law_rows", "_law_table", "_law_bars", "_law_y", "_law_x"] ["_law_found", "_law_rows", "_law_table", "_law_bars"] (z02 z0g) := ⟨rfl, rfl, rfl, by decide +kernel, rfl, by decide +kernel, by decide +kernel⟩
theorem z2e {f : Addr} {fd : FuncData} (D : Df K mg "_law_same" z0g ["_law_found", "_law_rows", "_law_table", "_law_bars"] f fd)
    (O_lawwhole : Ow P w K mg base "_law_whole" ["_law_found"] 1 z3C)
    (O_lawtone : Ow P w K mg base "_law_tone" ["_law_table", "_law_bars", "_law_colour", "_law_y"] 1 z3Q) (B : Blt mg) :
    Ow P w K mg base "_law_same" ["_law_found", "_law_rows", "_law_table", "_law_bars"] 2 z3R := by
  refine D.ow (D.F.ok sc_lawsame (fun vs H Q E h => ?_) (fun cdv A outer s H vs Q E hr h => ?_))
  . obtain ⟨f, l, tb, m, fs, ps, rows, w, h, tz, ts, bs, rfl, _⟩ := h
    rfl
  obtain ⟨f, l, tb, m, fs, ps, rows, wd, hg, tz, ts, bs, rfl, LA, RA, R, gt, h16, BA, q⟩ := h
  refine ⟨_, (z03 (z0k (PW.pt (z20 (z1h (z1f (z0H z18 rfl B.f_isinstance boot_isinstance (z00 (pv 0) (z00 (z1Q (v := .ty "list") rfl B.f_list boot_list rfl) z05))))) (z1g (z0B z49 (z0H z09 rfl B.f_len boot_len (z00 (pv 0) z05)) (z0H z09 rfl B.f_len boot_len (z00 (pv 1) z05)) (z0J _))))) (z07 (z0I z1e)) z0L)
    (z03 (z14 PassesOwn.never rfl (z0Y rfl B.f_range (z00 (z0H z09 rfl B.f_len boot_len (z00 (pv 1) z05)) z05)) (z0N (i := 4) sc_lawsame.nd rfl (Or.inl rfl)) (z03 (z0k (PW.pt (z20 (z1h (z1f (z0H z18 rfl B.f_isinstance boot_isinstance (z00 (z0P z0M (pv 0) (pv 4) (fun _ _ => rfl)) (z00 (z1Q (v := .ty "list") rfl B.f_list boot_list rfl) z05))))) (z1g (z0B z49 (z0H z09 rfl B.f_len boot_len (z00 (z0P z0M (pv 0) (pv 4) (fun _ _ => rfl)) z05)) (z0H z09 rfl B.f_len boot_len (z00 (z0P z0M (pv 1) (pv 4) (fun _ _ => rfl)) z05)) (z0J _))))) (z07 (z0I z1e)) z0L)
    (z07 (z14 PassesOwn.never rfl (z0Y rfl B.f_range (z00 (z0H z09 rfl B.f_len boot_len (z00 (z0P z0M (pv 1) (pv 4) (fun _ _ => rfl)) z05)) z05)) (z0N (i := 5) sc_lawsame.nd rfl (Or.inl rfl)) (z07 (z0k (z0B z2p (z0P z0M (z0P z0M (pv 1) (pv 4) (fun _ _ => rfl)) (pv 5) (fun _ _ => rfl)) z0t (z0J _)) (z07 (z0k (z0B z2q (z0P z0M (z0P z0M (pv 0) (pv 4) (fun _ _ => rfl)) (pv 5) (fun _ _ => rfl)) z0t (z0J _)) (z07 (z0I z1e)) z0L)) (z07 (z0k (z1h (z1f (z0F O_lawwhole hr rfl (z00 (z0P z0M (z0P z0M (pv 0) (pv 4) (fun _ _ => rfl)) (pv 5) (fun _ _ => rfl)) z05)))) (z07 (z0I z1e)) (z07 (z0k (z0B z49 (z0P z0M (z0P z0M (pv 0) (pv 4) (fun _ _ => rfl)) (pv 5) (fun _ _ => rfl)) (z0F O_lawtone hr rfl (z00 (pv 2) (z00 (pv 3) (z00 (z0P z0M (z0P z0M (pv 1) (pv 4) (fun _ _ => rfl)) (pv 5) (fun _ _ => rfl)) (z00 (pv 4) z05))))) (z0J _)) (z07 (z0I z1e)) z0L))))))))))
    (z07 (z0I z1e)))), ?_⟩
  have hfl := LA.len
  have hpl := RA.len
  have hRl := R.len
  have hR2 := R.h2
  have w64 := R.w2
  refine ⟨_, rfl, _, "list", "list", rfl, by decide, by simp only [tyS, LA.lst], _, rfl, z50 rfl ?_⟩
  refine ⟨_, rfl, f, _, rfl, .inl (SqL.of LA.lst), ?_⟩
  rw [List.length_map, hfl]
  refine ⟨_, rfl, l, _, rfl, .inl (SqL.of RA.lst), ?_⟩
  rw [List.length_map, hpl]
  walk_at "rs"
  refine z5W (fun n => absurd rfl n) (fun _ => ?_)
  walk_at "rs"
  refine ⟨l, _, rfl, .inl (SqL.of RA.lst), ?_⟩
  rw [List.length_map, hpl]
  walk_at "rs"
  refine ⟨(z1y (by omega) (by omega)).1, (z1y (by omega) (by omega)).2, ?_⟩
  refine z0z (n := ((rows.length : Int)).toNat) (fun y σ H2 => H2 = H /\ ∃ v4 v5, σ = [some (.ref f), some (.ref l), some (.ref tb), some (.ref m), v4, v5]) ⟨rfl, none, none, rfl⟩ ?_ ?_
  . rintro y σ H2 hy ⟨rfl, v4, v5, rfl⟩
    have ey : (0 : Int) + (y : Int) = y := by omega
    have hyr : y < rows.length := by omega
    obtain ⟨hw, hc⟩ := R.row0 hyr
    have f1 : atI (ps.map V.ref) (0 + (y : Int)) = some (.ref (ps[y]'(by omega))) := by rw [ey]; exact z0S (by rw [List.getElem?_map, List.getElem?_eq_getElem (by omega)]; rfl)
    have f2 : atI (fs.map V.ref) (0 + (y : Int)) = some (.ref (fs[y]'(by omega))) := by rw [ey]; exact z0S (by rw [List.getElem?_map, List.getElem?_eq_getElem (by omega)]; rfl)
    have g1 := RA.row y (ps[y]'(by omega)) rows[y] (List.getElem?_eq_getElem (by omega)) (List.getElem?_eq_getElem hyr)
    obtain ⟨zs, TA, g2⟩ := LA.row y (fs[y]'(by omega)) rows[y] (List.getElem?_eq_getElem (by omega)) (List.getElem?_eq_getElem hyr)
    generalize ps[y]'(by omega) = p1 at f1 g1
    generalize fs[y]'(by omega) = p2 at f2 g2
    generalize rows[y] = r at g1 g2 hw hc
    refine ⟨_, rfl, _, rfl, f, _, _, _, rfl, rfl, SqL.of LA.lst, f2, _, "list", "list", rfl, by decide, by simp only [tyS, g2], _, rfl, z50 rfl ?_⟩
    refine ⟨_, rfl, _, rfl, f, _, _, _, rfl, rfl, SqL.of LA.lst, f2, p2, _, rfl, .inl (SqL.of g2), ?_⟩
    rw [List.length_map]
    refine ⟨_, rfl, _, rfl, l, _, _, _, rfl, rfl, SqL.of RA.lst, f1, p1, _, rfl, .inl (SqL.of g1), ?_⟩
    rw [List.length_map]
    walk_at "rs"
    refine z5W (fun n => absurd rfl n) (fun _ => ?_)
    refine ⟨_, rfl, _, rfl, l, _, _, _, rfl, rfl, SqL.of RA.lst, f1, p1, _, rfl, .inl (SqL.of g1), ?_⟩
    rw [List.length_map]
    walk_at "rs"
    refine ⟨(z1y (by omega) (by omega)).1, (z1y (by omega) (by omega)).2, ?_⟩
    refine z0z (n := ((r.length : Int)).toNat) (fun x σ H3 => H3 = H2 /\ ∃ v5, σ = [some (.ref f), some (.ref l), some (.ref tb), some (.ref m), some (.int (0 + (y : Int))), v5]) ⟨rfl, v5, rfl⟩ ?_ ?_
    . rintro x σ H3 hx ⟨rfl, v5, rfl⟩
      have ex : (0 : Int) + (x : Int) = x := by omega
      have hxr : x < r.length := by omega
      have k1 : atI (r.map z0Q) (0 + (x : Int)) = some (z0Q r[x]) := by rw [ex]; exact z0S (by rw [List.getElem?_map, List.getElem?_eq_getElem hxr]; rfl)
      have k2 : atI (r.map (z2T zs)) (0 + (x : Int)) = some (z2T zs r[x]) := by rw [ex]; exact z0S (by rw [List.getElem?_map, List.getElem?_eq_getElem hxr]; rfl)
      have hcell := hc _ (List.getElem_mem hxr)
      generalize r[x] = c at k1 k2 hcell
      refine ⟨_, rfl, _, rfl, l, _, _, _, rfl, rfl, SqL.of RA.lst, f1, _, rfl, p1, _, _, _, rfl, rfl, SqL.of g1, k1, ?_⟩
      cases c with
      | none =>
        walk_at "rs"
        refine ⟨f, _, _, _, rfl, rfl, SqL.of LA.lst, f2, _, rfl, p2, _, _, _, rfl, rfl, SqL.of g2, k2, ?_⟩
        walk_at "rs"
        exact ⟨_, rfl⟩
      | some z =>
        obtain ⟨z0, z1⟩ := hcell z rfl
        walk_at "rs"
        refine ⟨f, _, _, _, rfl, rfl, SqL.of LA.lst, f2, _, rfl, p2, _, _, _, rfl, rfl, SqL.of g2, k2, ?_⟩
        walk_at "rs"
        refine ⟨f, _, _, _, rfl, rfl, SqL.of LA.lst, f2, _, rfl, p2, _, _, _, rfl, rfl, SqL.of g2, k2, ?_⟩
        walk_at "rs"
        refine ⟨l, _, _, _, rfl, rfl, SqL.of RA.lst, f1, _, rfl, p1, _, _, _, rfl, rfl, SqL.of g1, k1, ?_⟩
        walk_at "rs"
        refine ⟨tb, m, z, _, tz, ts, bs, rfl, gt, h16, BA, z0, by omega, fun rr TI => ?_⟩
        rw [ey] at TI
        obtain rfl := TI.uniq (TA.2 z z0 (by omega))
        walk_at "rs"
        refine z5W (fun n => absurd rfl n) (fun _ => ?_)
        exact ⟨rfl, _, rfl⟩
    . rintro σ H3 ⟨rfl, v5, rfl⟩
      exact ⟨rfl, _, _, rfl⟩
  . rintro σ H2 ⟨rfl, v4, v5, rfl⟩
    walk_at "rs"
    exact q
theorem sc_law : FnScope ["_law_script", "_law_wide", "_law_high", "_law_way", "_law_rows", "_law_many", "_law_bars", "_law_table", "_law_handed", "_law_pic", "_law_found"] ["_law_script"] (z02 z17) := ⟨rfl, rfl, rfl, by decide +kernel, rfl, by decide +kernel, by decide +kernel⟩
theorem z5S {f : Addr} {fd : FuncData} (D : Df K mg "law" z17 ["_law_script"] f fd)
    (O_lit : Ow P w K mg base "lit" ["table", "bars", "pic"] 4 (z5P tp z4f))
    (O_lawdraw : Ow P w K mg base "_law_draw" ["_law_script", "_law_k", "_law_prime", "_law_many"] 1 (z1Y K))
    (O_lawbits : Ow P w K mg base "_law_bits" ["_law_rows"] 1 z2M)
    (O_lawcells : Ow P w K mg base "_law_cells" ["_law_script", "_law_wide", "_law_high"] 2 (z1v K))
    (O_lawbar : Ow P w K mg base "_law_bar" ["_law_script", "_law_k", "_law_high"] 2 (z5Q K))
    (O_lawsame : Ow P w K mg base "_law_same" ["_law_found", "_law_rows", "_law_table", "_law_bars"] 2 z3R) (B : Blt mg) :
    FnOk P w K mg base CX0 5 f fd ["_law_script"] (z2S K tp z4f) := by
  refine D.F.ok sc_law (fun vs H Q E h => ?_) (fun cdv A outer s H vs Q E hr h => ?_)
  . obtain ⟨a, ns, rfl, _⟩ := h
    rfl
  obtain ⟨a, ns, rfl, hS, hn, TO, q⟩ := h
  refine ⟨_, (z03 (z0A (i := 1) sc_law.nd rfl (Or.inl rfl) (z0E z0U z01 (z0F O_lawdraw hr rfl (z00 (pv 0) (z00 z01 (z00 z01 (z00 z01 z05)))))))
    (z03 (z0A (i := 2) sc_law.nd rfl (Or.inr rfl) (z0E z0U z01 (z0F O_lawdraw hr rfl (z00 (pv 0) (z00 z01 (z00 z01 (z00 z01 z05)))))))
    (z03 (z0A (i := 3) sc_law.nd rfl (Or.inl rfl) (z0F O_lawdraw hr rfl (z00 (pv 0) (z00 z01 (z00 z01 (z00 z01 z05))))))
    (z1H (z0k (z0B z1U (pv 3) z01 (z0J _)) (z07 (z0A (i := 1) sc_law.nd rfl (Or.inl rfl) z01)) z0L)
    (z1H (z0k (z0B z1U (pv 3) z01 (z0J _)) (z07 (z0A (i := 2) sc_law.nd rfl (Or.inr rfl) z01)) z0L)
    (z03 (z0A (i := 4) sc_law.nd rfl (Or.inl rfl) (z0F O_lawcells hr rfl (z00 (pv 0) (z00 (pv 1) (z00 (pv 2) z05)))))
    (z03 (z0A (i := 5) sc_law.nd rfl (Or.inl rfl) (z0F O_lawdraw hr rfl (z00 (pv 0) (z00 z01 (z00 z01 (z00 z01 z05))))))
    (z1H (z0k (z0B z1U (z0F O_lawdraw hr rfl (z00 (pv 0) (z00 z01 (z00 z01 (z00 z01 z05))))) z01 (z0J _)) (z07 (z0A (i := 5) sc_law.nd rfl (Or.inl rfl) z01)) z0L)
    (z03 (z4K (i := 6) (locs := ["_law_n"]) (ix := [0, 2]) rfl sc_law.nd rfl rfl (BlkSc.look (dsc := z02 z17) (N := ["_law_script", "_law_wide", "_law_high", "_law_way", "_law_rows", "_law_many", "_law_bars", "_law_table", "_law_handed", "_law_pic", "_law_found"]) rfl rfl (by decide +kernel)) (z0Y rfl B.f_range (z00 (pv 5) z05)) (fun _ _ _ _ _ _ => (z0N (i := 0) (by decide +kernel : (["_law_n", "_law_script", "_law_high"] : List Str).Nodup) rfl (Or.inl rfl))) (fun _ _ _ _ _ _ => z12) (fun _ _ _ _ _ _ => (z0F O_lawbar hr rfl (z00 (pv 1) (z00 (z0E z0U z01 (z0E z0u z01 (pv 0))) (z00 (pv 2) z05))))) rfl)
    (z03 (z0A (i := 7) sc_law.nd rfl (Or.inl rfl) (z0o z0l rfl B.f_tuple boot_tuple (z00 (z1G (locs := ["_law_n"]) (ix := [0]) rfl (BlkSc.look (dsc := z02 z17) (N := ["_law_script", "_law_wide", "_law_high", "_law_way", "_law_rows", "_law_many", "_law_bars", "_law_table", "_law_handed", "_law_pic", "_law_found"]) rfl rfl (by decide +kernel)) (z0Y rfl B.f_range (z00 z01 z05)) (fun _ _ _ _ _ _ => (z0N (i := 0) (by decide +kernel : (["_law_n", "_law_script"] : List Str).Nodup) rfl (Or.inl rfl))) (fun _ _ _ _ _ _ => z12) (fun _ _ _ _ _ _ => (z0F O_lawdraw hr rfl (z00 (pv 1) (z00 (z0E z0U z01 (pv 0)) (z00 z01 (z00 z01 z05))))))) z05)))
    (z03 (z0A (i := 8) sc_law.nd rfl (Or.inl rfl) (z0o z16 rfl B.f_list boot_list (z00 (pv 6) z05)))
    (z03 (z0A (i := 9) sc_law.nd rfl (Or.inl rfl) (z0F O_lawbits hr rfl (z00 (pv 4) z05)))
    (z03 (z0A (i := 10) sc_law.nd rfl (Or.inl rfl) (z0F O_lit hr rfl (z00 (pv 7) (z00 (pv 8) (z00 (pv 9) z05)))))
    (z03 (z0k (PW.pt (z20 (z1h (z1f (z0F O_lawsame hr rfl (z00 (pv 10) (z00 (pv 4) (z00 (pv 7) (z00 (pv 6) z05))))))) (z1g (z0B (z5G (n := 0) (z5E hr)) (pv 8) (pv 6) (z0J _))))) (z07 (z0I z1e)) z0L)
    (z03 (z0w (z2y PySem.F.plainAttrs_list PySem.F.slot_list_clear PySem.F.type_list_clear z1V (z0P z0M (pv 10) z01 (fun _ _ => rfl))))
    (z03 (z0w (z2y PySem.F.plainAttrs_list PySem.F.slot_list_clear PySem.F.type_list_clear z1V (pv 10)))
    (z03 (z0w (z2y PySem.F.plainAttrs_list PySem.F.slot_list_clear PySem.F.type_list_clear z1V (pv 8)))
    (z03 (z0k (z1h (z1f (z0F O_lawsame hr rfl (z00 (z0F O_lit hr rfl (z00 (pv 7) (z00 (pv 6) (z00 (pv 9) z05)))) (z00 (pv 4) (z00 (pv 7) (z00 (pv 6) z05))))))) (z07 (z0I z1e)) z0L)
    (z07 (z0I (z0F O_lawsame hr rfl (z00 (z0F O_lit hr rfl (z00 (pv 7) (z00 (pv 8) (z00 (pv 9) z05)))) (z00 (pv 4) (z00 (pv 7) (z00 (z1j z05) z05))))))))))))))))))))))))), ?_⟩
  walk_at "rs"
  refine ⟨a, ns, _, _, _, rfl, hS, by decide, by decide, (by decide), by decide, fun w0 wa wb => ?_⟩
  walk_at "rs"
  refine ⟨a, ns, _, _, _, rfl, hS, by decide, by decide, (by decide), by decide, fun h0 ha hb => ?_⟩
  walk_at "rs"
  refine ⟨a, ns, _, _, _, rfl, hS, by decide, by decide, (by decide), by decide, fun z0 za zb => ?_⟩
  refine ⟨fun σ' H' => H' = H /\ ∃ wd : Int, 1 <= wd /\ wd <= 64 /\ σ' = [some (.ref a), some (.int wd), some (.int (1 + h0)), some (.int z0), none, none, none, none, none, none, none], ?_, ?_⟩
  . walk_at "rs"
    refine z6r (fun _ => ?_) (fun _ => ?_)
    . exact ⟨rfl, 64, by decide, by decide, rfl⟩
    . exact ⟨rfl, 1 + w0, by omega, by omega, rfl⟩
  rintro σ1 H1 ⟨rfl, wd, w1, w2, rfl⟩
  refine ⟨fun σ' H' => H' = H1 /\ ∃ hg : Int, 1 <= hg /\ hg <= 64 /\ σ' = [some (.ref a), some (.int wd), some (.int hg), some (.int z0), none, none, none, none, none, none, none], ?_, ?_⟩
  . walk_at "rs"
    refine z6r (fun _ => ?_) (fun _ => ?_)
    . exact ⟨rfl, 64, by decide, by decide, rfl⟩
    . exact ⟨rfl, 1 + h0, by omega, by omega, rfl⟩
  rintro σ2 H2 ⟨rfl, hg, h1, h2, rfl⟩
  walk_at "rs"
  refine ⟨a, ns, wd, hg, rfl, hS, w1, w2, h1, h2, fun rl ps rows H3 s3 nrl RA R => ?_⟩
  have T3 := TO.keep s3
  have hS3 := s3.seq hS
  walk_at "rs"
  refine ⟨a, ns, _, _, _, rfl, hS3, by decide, by decide, (by decide), by decide, fun m0 ma mb => ?_⟩
  refine ⟨fun σ' H' => H' = H3 /\ ∃ mn : Int, 0 <= mn /\ mn <= 50 /\ σ' = [some (.ref a), some (.int wd), some (.int hg), some (.int z0), some (.ref rl), some (.int mn), none, none, none, none, none], ?_, ?_⟩
  . walk_at "rs"
    refine ⟨a, ns, _, _, _, rfl, hS3, by decide, by decide, (by decide), by decide, fun z1 _ _ => ?_⟩
    walk_at "rs"
    refine z21 (fun c => ?_) (fun c => ?_)
    . exact ⟨rfl, 50, by decide, by decide, rfl⟩
    . exact ⟨rfl, m0, by omega, by omega, rfl⟩
  rintro σ3 H3' ⟨rfl, mn, n0, n1, rfl⟩
  walk_at "rs"
  refine ⟨(z1y (by omega) (by omega)).1, (z1y (by omega) (by omega)).2, ?_⟩
  refine z13 (n := mn.toNat) (fun i σ zs H4 => ∃ v ts bs, σ = [v, some (.ref a), some (.int hg)] /\ zs = (ts : List Addr).map V.ref /\ ts.length = i /\ (bs : List Bar).length = i /\ Same H3' H4 /\ BarT H4 ts bs) ⟨none, [], [], rfl, rfl, rfl, rfl, Same.refl _, BarT.nil⟩ (Nat.le_of_lt (z0R (by omega))) ?_ ?_ ?_ ?_ ?_
  . rintro i σ zs H4 ⟨v, ts, bs, _, rfl, ht, _⟩
    rw [List.length_map, ht]
  . rintro σ zs H4 _
    show mn.toNat <= mn.toNat
    exact Nat.le_refl _
  . intro i σ zs H4 hi _
    show i < mn.toNat
    exact hi
  . rintro i σ zs H4 x H' Z hi ⟨v, ts, bs, rfl, rfl, ht, hb', s4, BT4⟩ ⟨rfl, rfl⟩ hZ
    walk_at "rs"
    refine ⟨a, ns, _, hg, rfl, s4.seq hS3, by omega, by omega, fun t b nt c0 c1 => ?_⟩
    exact hZ _ _ _ ⟨_, ts ++ [t], bs ++ [b], rfl, by rw [List.map_append]; rfl, by rw [List.length_append, ht]; rfl, by rw [List.length_append, hb']; rfl, s4.trans (Same.new nt), BT4.push nt c0 c1⟩
  rintro σ zs H4 ⟨v, ts, bs, rfl, rfl, ht, hbl, s4, BT4⟩ bl nbl
  have BB : BarsAt (upd H4 bl (.lst (ts.map V.ref))) bl ts bs := ⟨z06, BT4.mono (Same.new nbl)⟩
  have s5 : Same H3' (upd H4 bl (.lst (ts.map V.ref))) := s4.trans (Same.new nbl)
  generalize upd H4 bl (.lst (ts.map V.ref)) = H5 at BB s5
  have hS5 := s5.seq hS3
  walk_at "rs"
  refine ⟨(z1y (by omega) (by omega)).1, (z1y (by omega) (by omega)).2, ?_⟩
  refine z13 (n := 16) (fun i σ zs H6 => ∃ v tz, σ = [v, some (.ref a)] /\ zs = (tz : List Int).map V.int /\ tz.length = i /\ H6 = H5) ⟨none, [], rfl, rfl, rfl, rfl⟩ (by decide) ?_ ?_ ?_ ?_ ?_
  . rintro i σ zs H6 ⟨v, tz, _, rfl, ht, _⟩
    rw [List.length_map, ht]
  . rintro σ zs H6 _
    show (16 : Int).toNat <= 16
    decide
  . intro i σ zs H6 hi _
    show i < (16 : Int).toNat
    exact hi
  . rintro i σ zs H6 x H' Z hi ⟨v, tz, rfl, rfl, ht, rfl⟩ ⟨rfl, rfl⟩ hZ
    walk_at "rs"
    refine ⟨a, ns, _, _, _, rfl, hS5, by omega, by omega, (by decide), by decide, fun z1 _ _ => ?_⟩
    exact hZ _ _ _ ⟨_, tz ++ [z1], rfl, by rw [List.map_append]; rfl, by rw [List.length_append, ht]; rfl, rfl⟩
  rintro σ zs H6 ⟨v, tz, rfl, rfl, h16, rfl⟩ lc nlc
  refine ⟨_, _, rfl, .inl ⟨SqL.of z06, fun tb ntb => ?_⟩⟩
  have s7 := (Same.new (o := .lst (tz.map V.int)) nlc).trans (Same.new (o := .tup (tz.map V.int)) ntb)
  have gt7 : (upd (upd H6 lc (.lst (tz.map V.int))) tb (.tup (tz.map V.int))) tb = some (.tup (tz.map V.int)) := z06
  generalize upd (upd H6 lc (.lst (tz.map V.int))) tb (.tup (tz.map V.int)) = H7 at s7 gt7
  have BB7 := BB.mono s7
  have RA7 := RA.mono (s5.trans s7)
  have T7 := T3.keep (s5.trans s7)
  clear RA BB T3 BT4
  walk_at "rs"
  refine ⟨bl, _, rfl, .inl (SqL.of BB7.lst), fun hd nhd => ?_⟩
  have s8 := Same.new (o := .lst (ts.map V.ref)) nhd
  have gh8 : (upd H7 hd (.lst (ts.map V.ref))) hd = some (.lst (ts.map V.ref)) := z06
  generalize upd H7 hd (.lst (ts.map V.ref)) = H8 at s8 gh8
  walk_at "rs"
  refine ⟨rl, ps, rows, _, _, rfl, RA7.mono s8, R, fun p H9 s9 PC => ?_⟩
  have s79 := s8.trans s9
  have T9 := T7.keep s79
  have BH9 : BarsAt H9 hd ts bs := ⟨s9 _ _ gh8, BB7.bar.mono s79⟩
  have scu : ∀ x ∈ ts.map V.ref, Sc x := fun x hx => by
    obtain ⟨u, _, rfl⟩ := List.mem_map.mp hx
    exact Sc.ref u
  walk_at "rs"
  refine ⟨tb, hd, p, tz, ts, bs, _, _, rows, rfl, s79 _ _ gt7, h16, BH9, by omega, PC, R, T9, fun f fs H10 T10 e10 nf nfs LA => ?_⟩
  walk_at "rs"
  have e710 := (s79.toP' (P := tp)).trans e10
  refine ⟨f, rl, tb, bl, fs, ps, rows, _, _, tz, ts, bs, rfl, LA, e710.rows T7 RA7, R, e710.tup T7 gt7, h16, e710.bars T7 BB7, ?_⟩
  walk_at "rs"
  refine ⟨EqT.copy (e10.lst T9 BH9.lst) (e710.lst T7 BB7.lst) scu, ?_⟩
  have hfl := LA.len
  have hRl := R.len
  have hR1 := R.h1
  obtain ⟨x0, hx0⟩ : ∃ x0, fs[0]? = some x0 := ⟨_, List.getElem?_eq_getElem (show 0 < fs.length by omega)⟩
  have k0 : atI (fs.map V.ref) 0 = some (.ref x0) := z0S (j := 0) (by rw [List.getElem?_map, hx0]; rfl)
  obtain ⟨zs0, _, g0⟩ := LA.row 0 x0 (rows[0]'(by omega)) hx0 (List.getElem?_eq_getElem (by omega))
  walk_at "rs"
  refine ⟨f, _, 0, _, rfl, rfl, SqL.of LA.lst, k0, ?_⟩
  refine ⟨.inl ⟨rfl, _, SqL.of g0⟩, ?_⟩
  refine ⟨x0, _, rfl, rfl, g0, ?_⟩
  have nx0 := nfs x0 (List.mem_of_getElem? hx0)
  have T11 := T10.put (o := .lst []) g0
  have e11 : SameP tp H9 (upd H10 x0 (.lst [])) := fun c o nc ec => by
    rw [z04 (z08 ec nx0)]
    exact e10 c o nc ec
  have nf0 : f ≠ x0 := fun e => by
    have h1 := LA.lst
    rw [e, g0] at h1
    have h2 : (rows[0]'(by omega)).map (z2T zs0) = fs.map V.ref := by
      injection h1 with h
      injection h
    have h3 := congrArg (fun xs => xs[0]?) h2
    simp only [List.getElem?_map, hx0] at h3
    cases hz : (rows[0]'(by omega))[0]? with
    | none => rw [hz] at h3; cases h3
    | some c => rw [hz] at h3; cases c <;> cases h3
  have gf11 : (upd H10 x0 (.lst [])) f = some (.lst (fs.map V.ref)) := by rw [z04 nf0]; exact LA.lst
  generalize upd H10 x0 (.lst []) = H11 at T11 e11 gf11
  walk_at "rs"
  refine ⟨.inl ⟨rfl, _, SqL.of gf11⟩, ?_⟩
  refine ⟨f, _, rfl, rfl, gf11, ?_⟩
  have T12 := T11.put (o := .lst []) gf11
  have e12 : SameP tp H9 (upd H11 f (.lst [])) := fun c o nc ec => by
    rw [z04 (z08 ec nf)]
    exact e11 c o nc ec
  generalize upd H11 f (.lst []) = H12 at T12 e12
  have gh12 := e12.lst T9 BH9.lst
  have PC12 := e12.pic T9 PC
  walk_at "rs"
  refine ⟨.inl ⟨rfl, _, SqL.of gh12⟩, ?_⟩
  refine ⟨hd, _, rfl, rfl, gh12, ?_⟩
  have T13 := T12.put (o := .lst []) gh12
  have PC13 := z4Y (o := .lst []) PC12 gh12
  have e13 : SameP tp H7 (upd H12 hd (.lst [])) := fun c o nc ec => by
    rw [z04 (z08 ec nhd)]
    exact e12 c o nc (s79 _ _ ec)
  have gh13 : (upd H12 hd (.lst [])) hd = some (.lst []) := z06
  generalize upd H12 hd (.lst []) = H13 at T13 PC13 e13 gh13
  walk_at "rs"
  refine ⟨tb, bl, p, tz, ts, bs, _, _, rows, rfl, e13.tup T7 gt7, h16, e13.bars T7 BB7, by omega, PC13, R, T13, fun f2 fs2 H14 T14 e14 nf2 nfs2 LA2 => ?_⟩
  have e714 := e13.trans e14
  walk_at "rs"
  refine ⟨f2, rl, tb, bl, fs2, ps, rows, _, _, tz, ts, bs, rfl, LA2, e714.rows T7 RA7, R, e714.tup T7 gt7, h16, e714.bars T7 BB7, ?_⟩
  walk_at "rs"
  have gh14 := e14.lst T13 gh13
  refine ⟨tb, hd, p, tz, [], [], _, _, rows, rfl, e714.tup T7 gt7, h16, ⟨gh14, BarT.nil⟩, by decide, e14.pic T13 PC13, R, T14, fun f3 fs3 H15 T15 e15 nf3 nfs3 LA3 => ?_⟩
  have e715 := e714.trans e15
  walk_at "rs"
  intro em nem
  have s16 := Same.new (o := .lst []) nem
  refine ⟨f3, rl, tb, em, fs3, ps, rows, _, _, tz, [], [], rfl, LA3.mono s16, (e715.rows T7 RA7).mono s16, R, s16 _ _ (e715.tup T7 gt7), h16, ⟨z06, BarT.nil⟩, ?_⟩
  exact q _
end
theorem all_mk {l : PySem.W.OpenLaw} {w : World} {K : PySem.W.Frag} {h : Heap} {mg : Str -> Option Value} {fa f1 f2 f3 f4 f5 f6 f7 f8 f9 f10 f11 f12 f13 f14 f15 : Addr} (X : K.In h) (G : h.Ns mainGlobals mg) (hfa : mg "law" = some (.ref fa))
    {od1 an1 : Option Addr} {sl1 : Array (Option Value)} {oc1 kV1 dc1 pm1 cd1 ct1 : Value}
    {od2 an2 : Option Addr} {sl2 : Array (Option Value)} {oc2 kV2 dc2 pm2 cd2 ct2 : Value}
    {od3 an3 : Option Addr} {sl3 : Array (Option Value)} {oc3 kV3 dc3 pm3 cd3 ct3 : Value}
    {od4 an4 : Option Addr} {sl4 : Array (Option Value)} {oc4 kV4 dc4 pm4 cd4 ct4 : Value}
    {od5 an5 : Option Addr} {sl5 : Array (Option Value)} {oc5 kV5 dc5 pm5 cd5 ct5 : Value}
    {od6 an6 : Option Addr} {sl6 : Array (Option Value)} {oc6 kV6 dc6 pm6 cd6 ct6 : Value}
    {od7 an7 : Option Addr} {sl7 : Array (Option Value)} {oc7 kV7 dc7 pm7 cd7 ct7 : Value}
    {od8 an8 : Option Addr} {sl8 : Array (Option Value)} {oc8 kV8 dc8 pm8 cd8 ct8 : Value}
    {od9 an9 : Option Addr} {sl9 : Array (Option Value)} {oc9 kV9 dc9 pm9 cd9 ct9 : Value}
    {od10 an10 : Option Addr} {sl10 : Array (Option Value)} {oc10 kV10 dc10 pm10 cd10 ct10 : Value}
    {od11 an11 : Option Addr} {sl11 : Array (Option Value)} {oc11 kV11 dc11 pm11 cd11 ct11 : Value}
    {od12 an12 : Option Addr} {sl12 : Array (Option Value)} {oc12 kV12 dc12 pm12 cd12 ct12 : Value}
    {od13 an13 : Option Addr} {sl13 : Array (Option Value)} {oc13 kV13 dc13 pm13 cd13 ct13 : Value}
    {od14 an14 : Option Addr} {sl14 : Array (Option Value)} {oc14 kV14 dc14 pm14 cd14 ct14 : Value}
    {od15 an15 : Option Addr} {sl15 : Array (Option Value)} {oc15 kV15 dc15 pm15 cd15 ct15 : Value}
    {tc tp : Addr} {octt : Value} {odtt : Option Addr} {sltt : Array (Option Value)} {vstt : Array Value}
    (a1 : PySem.W.nsIn K mainGlobals "cell_of" = some (some (.ref f1))) (l1 : K.lookup f1 = some ⟨oc1, od1, .func (PySem.W.fnOf "cell_of" "cell_of" (z0G z0m) (z0C z0m) (z02 z0m) .none kV1 dc1 pm1 an1 cd1 ct1), sl1⟩) (c1 : PySem.W.codeIn K cd1 "cell_of" = true) (k1 : PySem.W.keepIn K (.ref f1) = true)
    (a2 : PySem.W.nsIn K mainGlobals "row_of" = some (some (.ref f2))) (l2 : K.lookup f2 = some ⟨oc2, od2, .func (PySem.W.fnOf "row_of" "row_of" (z0G z0r) (z0C z0r) (z02 z0r) .none kV2 dc2 pm2 an2 cd2 ct2), sl2⟩) (c2 : PySem.W.codeIn K cd2 "row_of" = true) (k2 : PySem.W.keepIn K (.ref f2) = true)
    (a3 : PySem.W.nsIn K mainGlobals "rows_of" = some (some (.ref f3))) (l3 : K.lookup f3 = some ⟨oc3, od3, .func (PySem.W.fnOf "rows_of" "rows_of" (z0G z0i) (z0C z0i) (z02 z0i) .none kV3 dc3 pm3 an3 cd3 ct3), sl3⟩) (c3 : PySem.W.codeIn K cd3 "rows_of" = true) (k3 : PySem.W.keepIn K (.ref f3) = true)
    (a4 : PySem.W.nsIn K mainGlobals "tones_at" = some (some (.ref f4))) (l4 : K.lookup f4 = some ⟨oc4, od4, .func (PySem.W.fnOf "tones_at" "tones_at" (z0G z0c) (z0C z0c) (z02 z0c) .none kV4 dc4 pm4 an4 cd4 ct4), sl4⟩) (c4 : PySem.W.codeIn K cd4 "tones_at" = true) (k4 : PySem.W.keepIn K (.ref f4) = true)
    (a5 : PySem.W.nsIn K mainGlobals "lit_row" = some (some (.ref f5))) (l5 : K.lookup f5 = some ⟨oc5, od5, .func (PySem.W.fnOf "lit_row" "lit_row" (z0G z0j) (z0C z0j) (z02 z0j) .none kV5 dc5 pm5 an5 cd5 ct5), sl5⟩) (c5 : PySem.W.codeIn K cd5 "lit_row" = true) (k5 : PySem.W.keepIn K (.ref f5) = true)
    (a6 : PySem.W.nsIn K mainGlobals "lit" = some (some (.ref f6))) (l6 : K.lookup f6 = some ⟨oc6, od6, .func (PySem.W.fnOf "lit" "lit" (z0G z1w) (z0C z1w) (z02 z1w) .none kV6 dc6 pm6 an6 cd6 ct6), sl6⟩) (c6 : PySem.W.codeIn K cd6 "lit" = true) (k6 : PySem.W.keepIn K (.ref f6) = true)
    (a7 : PySem.W.nsIn K mainGlobals "_law_draw" = some (some (.ref f7))) (l7 : K.lookup f7 = some ⟨oc7, od7, .func (PySem.W.fnOf "_law_draw" "_law_draw" (z0G z0d) (z0C z0d) (z02 z0d) .none kV7 dc7 pm7 an7 cd7 ct7), sl7⟩) (c7 : PySem.W.codeIn K cd7 "_law_draw" = true) (k7 : PySem.W.keepIn K (.ref f7) = true)
    (a8 : PySem.W.nsIn K mainGlobals "_law_great" = some (some (.ref f8))) (l8 : K.lookup f8 = some ⟨oc8, od8, .func (PySem.W.fnOf "_law_great" "_law_great" (z0G z0V) (z0C z0V) (z02 z0V) .none kV8 dc8 pm8 an8 cd8 ct8), sl8⟩) (c8 : PySem.W.codeIn K cd8 "_law_great" = true) (k8 : PySem.W.keepIn K (.ref f8) = true)
    (a9 : PySem.W.nsIn K mainGlobals "_law_whole" = some (some (.ref f9))) (l9 : K.lookup f9 = some ⟨oc9, od9, .func (PySem.W.fnOf "_law_whole" "_law_whole" (z0G z0W) (z0C z0W) (z02 z0W) .none kV9 dc9 pm9 an9 cd9 ct9), sl9⟩) (c9 : PySem.W.codeIn K cd9 "_law_whole" = true) (k9 : PySem.W.keepIn K (.ref f9) = true)
    (a10 : PySem.W.nsIn K mainGlobals "_law_bits" = some (some (.ref f10))) (l10 : K.lookup f10 = some ⟨oc10, od10, .func (PySem.W.fnOf "_law_bits" "_law_bits" (z0G z0e) (z0C z0e) (z02 z0e) .none kV10 dc10 pm10 an10 cd10 ct10), sl10⟩) (c10 : PySem.W.codeIn K cd10 "_law_bits" = true) (k10 : PySem.W.keepIn K (.ref f10) = true)
    (a11 : PySem.W.nsIn K mainGlobals "_law_cells" = some (some (.ref f11))) (l11 : K.lookup f11 = some ⟨oc11, od11, .func (PySem.W.fnOf "_law_cells" "_law_cells" (z0G z0X) (z0C z0X) (z02 z0X) .none kV11 dc11 pm11 an11 cd11 ct11), sl11⟩) (c11 : PySem.W.codeIn K cd11 "_law_cells" = true) (k11 : PySem.W.keepIn K (.ref f11) = true)
    (a12 : PySem.W.nsIn K mainGlobals "_law_bar" = some (some (.ref f12))) (l12 : K.lookup f12 = some ⟨oc12, od12, .func (PySem.W.fnOf "_law_bar" "_law_bar" (z0G z0n) (z0C z0n) (z02 z0n) .none kV12 dc12 pm12 an12 cd12 ct12), sl12⟩) (c12 : PySem.W.codeIn K cd12 "_law_bar" = true) (k12 : PySem.W.keepIn K (.ref f12) = true)
    (a13 : PySem.W.nsIn K mainGlobals "_law_tone" = some (some (.ref f13))) (l13 : K.lookup f13 = some ⟨oc13, od13, .func (PySem.W.fnOf "_law_tone" "_law_tone" (z0G z0f) (z0C z0f) (z02 z0f) .none kV13 dc13 pm13 an13 cd13 ct13), sl13⟩) (c13 : PySem.W.codeIn K cd13 "_law_tone" = true) (k13 : PySem.W.keepIn K (.ref f13) = true)
    (a14 : PySem.W.nsIn K mainGlobals "_law_same" = some (some (.ref f14))) (l14 : K.lookup f14 = some ⟨oc14, od14, .func (PySem.W.fnOf "_law_same" "_law_same" (z0G z0g) (z0C z0g) (z02 z0g) .none kV14 dc14 pm14 an14 cd14 ct14), sl14⟩) (c14 : PySem.W.codeIn K cd14 "_law_same" = true) (k14 : PySem.W.keepIn K (.ref f14) = true)
    (a15 : PySem.W.nsIn K mainGlobals "law" = some (some (.ref f15))) (l15 : K.lookup f15 = some ⟨oc15, od15, .func (PySem.W.fnOf "law" "law" (z0G z17) (z0C z17) (z02 z17) .none kV15 dc15 pm15 an15 cd15 ct15), sl15⟩) (c15 : PySem.W.codeIn K cd15 "law" = true) (k15 : PySem.W.keepIn K (.ref f15) = true)
    (z1 : PySem.W.nsIn K mainGlobals "len" = some none)
    (z2 : PySem.W.nsIn K mainGlobals "range" = some none)
    (z3 : PySem.W.nsIn K mainGlobals "enumerate" = some none)
    (z4 : PySem.W.nsIn K mainGlobals "reversed" = some none)
    (z5 : PySem.W.nsIn K mainGlobals "isinstance" = some none)
    (z6 : PySem.W.nsIn K mainGlobals "int" = some none)
    (z7 : PySem.W.nsIn K mainGlobals "bool" = some none)
    (z8 : PySem.W.nsIn K mainGlobals "list" = some none)
    (z9 : PySem.W.nsIn K mainGlobals "tuple" = some none)
    (z10 : PySem.W.nsIn K mainGlobals "sorted" = some none)
    (qt : cd6 = .ref tc) (lt : K.lookup tc = some ⟨octt, odtt, .fields vstt, sltt⟩) (vt : vstt[11]? = some (.ref tp)) (nt : PySem.W.noTabs K = true)
    : ∃ (fd : FuncData) (c t : Addr), PySem.W.tabIn K "lit" = some (c, t) /\ PySem.W.noTabs K = true /\ (∀ (s : Shared) (v : Value), BindsTo s fd ⟨[v], []⟩ [("_law_script", v)]) /\ ∀ base : Heap, K.In base -> base.Ns mainGlobals mg -> BaseT mg base c t -> FnOk l.prog w K mg base CX0 5 fa fd ["_law_script"] (z2S K t z4f) := by
  have e := hfa.symm.trans (PySem.W.mg_of X G a15)
  cases e
  have B : Blt mg := ⟨PySem.W.mg_none_of X G z1, PySem.W.mg_none_of X G z2, PySem.W.mg_none_of X G z3, PySem.W.mg_none_of X G z4, PySem.W.mg_none_of X G z5, PySem.W.mg_none_of X G z6, PySem.W.mg_none_of X G z7, PySem.W.mg_none_of X G z8, PySem.W.mg_none_of X G z9, PySem.W.mg_none_of X G z10⟩
  have F1 := z0a (st := z0m) l1 c1 k1
  have D1 : Df K mg "cell_of" z0m ["pic", "x", "y"] _ _ := ⟨F1, F1.binds (ps := ["pic", "x", "y"]) fun _ _ _ _ _ _ us hl => match us, hl with | [_, _, _], _ => rfl, PySem.W.mg_of X G a1⟩
  have F2 := z0a (st := z0r) l2 c2 k2
  have D2 : Df K mg "row_of" z0r ["pic", "y"] _ _ := ⟨F2, F2.binds (ps := ["pic", "y"]) fun _ _ _ _ _ _ us hl => match us, hl with | [_, _], _ => rfl, PySem.W.mg_of X G a2⟩
  have F3 := z0a (st := z0i) l3 c3 k3
  have D3 : Df K mg "rows_of" z0i ["pic"] _ _ := ⟨F3, F3.binds (ps := ["pic"]) fun _ _ _ _ _ _ us hl => match us, hl with | [_], _ => rfl, PySem.W.mg_of X G a3⟩
  have F4 := z0a (st := z0c) l4 c4 k4
  have D4 : Df K mg "tones_at" z0c ["table", "ranked", "y"] _ _ := ⟨F4, F4.binds (ps := ["table", "ranked", "y"]) fun _ _ _ _ _ _ us hl => match us, hl with | [_, _, _], _ => rfl, PySem.W.mg_of X G a4⟩
  have F5 := z0a (st := z0j) l5 c5 k5
  have D5 : Df K mg "lit_row" z0j ["tones", "row"] _ _ := ⟨F5, F5.binds (ps := ["tones", "row"]) fun _ _ _ _ _ _ us hl => match us, hl with | [_, _], _ => rfl, PySem.W.mg_of X G a5⟩
  have F6 := z0a (st := z1w) l6 c6 k6
  have D6 : Df K mg "lit" z1w ["table", "bars", "pic"] _ _ := ⟨F6, F6.binds (ps := ["table", "bars", "pic"]) fun _ _ _ _ _ _ us hl => match us, hl with | [_, _, _], _ => rfl, PySem.W.mg_of X G a6⟩
  have F7 := z0a (st := z0d) l7 c7 k7
  have D7 : Df K mg "_law_draw" z0d ["_law_script", "_law_k", "_law_prime", "_law_many"] _ _ := ⟨F7, F7.binds (ps := ["_law_script", "_law_k", "_law_prime", "_law_many"]) fun _ _ _ _ _ _ us hl => match us, hl with | [_, _, _, _], _ => rfl, PySem.W.mg_of X G a7⟩
  have F8 := z0a (st := z0V) l8 c8 k8
  have D8 : Df K mg "_law_great" z0V ["_law_script", "_law_k", "_law_many"] _ _ := ⟨F8, F8.binds (ps := ["_law_script", "_law_k", "_law_many"]) fun _ _ _ _ _ _ us hl => match us, hl with | [_, _, _], _ => rfl, PySem.W.mg_of X G a8⟩
  have F9 := z0a (st := z0W) l9 c9 k9
  have D9 : Df K mg "_law_whole" z0W ["_law_found"] _ _ := ⟨F9, F9.binds (ps := ["_law_found"]) fun _ _ _ _ _ _ us hl => match us, hl with | [_], _ => rfl, PySem.W.mg_of X G a9⟩
  have F10 := z0a (st := z0e) l10 c10 k10
  have D10 : Df K mg "_law_bits" z0e ["_law_rows"] _ _ := ⟨F10, F10.binds (ps := ["_law_rows"]) fun _ _ _ _ _ _ us hl => match us, hl with | [_], _ => rfl, PySem.W.mg_of X G a10⟩
  have F11 := z0a (st := z0X) l11 c11 k11
  have D11 : Df K mg "_law_cells" z0X ["_law_script", "_law_wide", "_law_high"] _ _ := ⟨F11, F11.binds (ps := ["_law_script", "_law_wide", "_law_high"]) fun _ _ _ _ _ _ us hl => match us, hl with | [_, _, _], _ => rfl, PySem.W.mg_of X G a11⟩
  have F12 := z0a (st := z0n) l12 c12 k12
  have D12 : Df K mg "_law_bar" z0n ["_law_script", "_law_k", "_law_high"] _ _ := ⟨F12, F12.binds (ps := ["_law_script", "_law_k", "_law_high"]) fun _ _ _ _ _ _ us hl => match us, hl with | [_, _, _], _ => rfl, PySem.W.mg_of X G a12⟩
  have F13 := z0a (st := z0f) l13 c13 k13
  have D13 : Df K mg "_law_tone" z0f ["_law_table", "_law_bars", "_law_colour", "_law_y"] _ _ := ⟨F13, F13.binds (ps := ["_law_table", "_law_bars", "_law_colour", "_law_y"]) fun _ _ _ _ _ _ us hl => match us, hl with | [_, _, _, _], _ => rfl, PySem.W.mg_of X G a13⟩
  have F14 := z0a (st := z0g) l14 c14 k14
  have D14 : Df K mg "_law_same" z0g ["_law_found", "_law_rows", "_law_table", "_law_bars"] _ _ := ⟨F14, F14.binds (ps := ["_law_found", "_law_rows", "_law_table", "_law_bars"]) fun _ _ _ _ _ _ us hl => match us, hl with | [_, _, _, _], _ => rfl, PySem.W.mg_of X G a14⟩
  have F15 := z0a (st := z17) l15 c15 k15
  have D15 : Df K mg "law" z17 ["_law_script"] _ _ := ⟨F15, F15.binds (ps := ["_law_script"]) fun _ _ _ _ _ _ us hl => match us, hl with | [_], _ => rfl, PySem.W.mg_of X G a15⟩
  refine ⟨PySem.W.fnOf "law" "law" (z0G z17) (z0C z17) (z02 z17) .none kV15 dc15 pm15 an15 cd15 ct15, tc, tp, z5O a6 l6 qt lt vt, nt, fun s v => .of_eq rfl, fun base _ _ BT => ?_⟩
  have O_cellof := z3T (P := l.prog) (w := w) (base := base) D1  B
  have O_rowof := z3r (P := l.prog) (w := w) (base := base) D2 O_cellof B
  have O_rowsof := z3V (P := l.prog) (w := w) (base := base) D3 O_rowof B
  have O_tonesat := z2c (P := l.prog) (w := w) (base := base) D4  B
  have O_litrow := z3X (P := l.prog) (w := w) (base := base) D5  B
  have O_lit := z5R (P := l.prog) (w := w) (base := base) (tp := tp) D6 qt BT O_rowsof O_tonesat O_litrow B
  have O_lawdraw := z2a (P := l.prog) (w := w) (base := base) D7  B
  have O_lawgreat := z2A (P := l.prog) (w := w) (base := base) D8  B
  have O_lawwhole := z2C (P := l.prog) (w := w) (base := base) D9  B
  have O_lawbits := z2b (P := l.prog) (w := w) (base := base) D10  B
  have O_lawcells := z2D (P := l.prog) (w := w) (base := base) D11 O_lawdraw B
  have O_lawbar := z3Y (P := l.prog) (w := w) (base := base) D12 O_lawdraw O_lawgreat B
  have O_lawtone := z2d (P := l.prog) (w := w) (base := base) D13  B
  have O_lawsame := z2e (P := l.prog) (w := w) (base := base) D14 O_lawwhole O_lawtone B
  exact z5S D15 O_lit O_lawdraw O_lawbits O_lawcells O_lawbar O_lawsame B
theorem walk {l : PySem.W.OpenLaw} {q : Program} {loose : List Str} {XP : (Str -> Option Value) -> Heap -> Prop} {YP : World -> Heap -> Prop} {d dd : DefRec} {K : Params -> PySem.W.Frag} (hn : l.most = some 63) (hdf : d.params.defaults = [])
    (hY : ∀ (w : World) (h : Heap), YP w h -> (K w.params).In h) (hrec : (recsOf q).find? (fun e => e.name == ("lit" : Str)) = some dd)
    (F : ∀ (w : World) (mg : Str -> Option Value) (fa : Addr) (h : Heap), (K w.params).In h -> h.Ns mainGlobals mg -> mg d.name = some (.ref fa) ->
      ∃ (fd : FuncData) (c t : Addr), PySem.W.tabIn (K w.params) "lit" = some (c, t) /\ PySem.W.noTabs (K w.params) = true /\ (∀ (s : Shared) (u : Value), BindsTo s fd ⟨[u], []⟩ [("_law_script", u)]) /\ ∀ base : Heap, (K w.params).In base -> base.Ns mainGlobals mg -> BaseT mg base c t -> FnOk l.prog w (K w.params) mg base CX0 5 fa fd ["_law_script"] (z2S (K w.params) t z4f)) :
    PySem.W.WalkO q loose XP YP l.row.toRowW d [] (fun f vs => PySem.call f vs) :=
  L2.walk_ofT (n := 63) (k := 5) (x := "_law_script") (fn := "lit") (sp := fun w t => z2S (K w.params) t z4f) hn (by decide) hdf ⟨rfl, by decide, by decide⟩ hY hrec F fun _ _ _ a ns hl hT hS => ⟨a, ns, rfl, hS, hl, .inl hT, fun _ => rfl⟩
end K52
namespace PySem.W.Fast
theorem tw2982032360890643462 : True := trivial
theorem tw17159739466609805187 : True := trivial
theorem tw17710446245624697994 : True := trivial
theorem tw11366258197994508299 : True := trivial
theorem tw14583338851120084592 : True := trivial
theorem tw13502210428633900852 : True := trivial
theorem tw15385426232540010617 : True := trivial
end PySem.W.Fast
open PySem PySem.W PyProof.Rows
set_option maxRecDepth 100000 in
set_option maxHeartbeats 0 in
theorem PySem.Challenge.cw_glowboard_k52_lit_by_bars_holds : PySem.Challenge.rw_glowboard_k52_lit_by_bars.Holds := by
  w_on; o_law; k_head; (case hw => w_witness2)
  k_fill
  refine K52.walk (l := PySem.Challenge.rw_glowboard_k52_lit_by_bars) rfl rfl (fun w h Y => PySem.W.km_in_of Y) rfl ?F
  case F =>
    intro w mg fa h KX G hmg
    refine' K52.all_mk KX G hmg ?a1 ?l1 ?c1 ?k1 ?a2 ?l2 ?c2 ?k2 ?a3 ?l3 ?c3 ?k3 ?a4 ?l4 ?c4 ?k4 ?a5 ?l5 ?c5 ?k5 ?a6 ?l6 ?c6 ?k6 ?a7 ?l7 ?c7 ?k7 ?a8 ?l8 ?c8 ?k8 ?a9 ?l9 ?c9 ?k9 ?a10 ?l10 ?c10 ?k10 ?a11 ?l11 ?c11 ?k11 ?a12 ?l12 ?c12 ?k12 ?a13 ?l13 ?c13 ?k13 ?a14 ?l14 ?c14 ?k14 ?a15 ?l15 ?c15 ?k15 ?z1 ?z2 ?z3 ?z4 ?z5 ?z6 ?z7 ?z8 ?z9 ?z10 ?qt ?lt ?vt ?nt
    (case a1 => k_is); (case l1 => k_is); (case c1 => k_is); (case k1 => k_is)
    (case a2 => k_is); (case l2 => k_is); (case c2 => k_is); (case k2 => k_is)
    (case a3 => k_is); (case l3 => k_is); (case c3 => k_is); (case k3 => k_is)
    (case a4 => k_is); (case l4 => k_is); (case c4 => k_is); (case k4 => k_is)
    (case a5 => k_is); (case l5 => k_is); (case c5 => k_is); (case k5 => k_is)
    (case a6 => k_is); (case l6 => k_is); (case c6 => k_is); (case k6 => k_is)
    (case a7 => k_is); (case l7 => k_is); (case c7 => k_is); (case k7 => k_is)
    (case a8 => k_is); (case l8 => k_is); (case c8 => k_is); (case k8 => k_is)
    (case a9 => k_is); (case l9 => k_is); (case c9 => k_is); (case k9 => k_is)
    (case a10 => k_is); (case l10 => k_is); (case c10 => k_is); (case k10 => k_is)
    (case a11 => k_is); (case l11 => k_is); (case c11 => k_is); (case k11 => k_is)
    (case a12 => k_is); (case l12 => k_is); (case c12 => k_is); (case k12 => k_is)
    (case a13 => k_is); (case l13 => k_is); (case c13 => k_is); (case k13 => k_is)
    (case a14 => k_is); (case l14 => k_is); (case c14 => k_is); (case k14 => k_is)
    (case a15 => k_is); (case l15 => k_is); (case c15 => k_is); (case k15 => k_is)
    (case z1 => k_is); (case z2 => k_is); (case z3 => k_is); (case z4 => k_is)
    (case z5 => k_is); (case z6 => k_is); (case z7 => k_is); (case z8 => k_is)
    (case z9 => k_is); (case z10 => k_is); (case qt => exact rfl); (case lt => k_is)
    (case vt => exact rfl); (case nt => kernel_rfl)
#print axioms PySem.Challenge.cw_glowboard_k52_lit_by_bars_holds