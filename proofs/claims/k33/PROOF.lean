import PyProof.Rows.All
import Wide.All
import OpenK.AllK
import Wide.FinOn
import Lean
import PyProof.EqAt
import PyProof.EqKinds
import PyProof.TupleCall
import PySem.Challenge.RW_glowboard_k33_texts_broken
set_option Elab.async false
set_option linter.all false
set_option maxRecDepth 100000
namespace L2
open PySem PySem.Spec PyProof.Rows
abbrev Key := Sum Int Str
def z5H : Key -> Value -> Bool
  | .inl k, v => Value.isInt k v
  | .inr x, v => Value.isStrOf x v
def zD7 (w : World) : Key -> Int
  | .inl k => hashInt k
  | .inr x => hashStr w x
theorem z0U : ∀ {k : Key} {v : Value}, z5H k v = true -> (∃ i t, k = Sum.inl i /\ v = Value.int i t) \/ (∃ x t, k = Sum.inr x /\ v = Value.str x t)
  | .inl i, v, h => by
    obtain ⟨t, e⟩ := Value.isInt_shape (k := i) (v := v) h
    exact .inl ⟨i, t, rfl, e⟩
  | .inr x, v, h => by
    obtain ⟨t, e⟩ := Value.isStrOf_shape (x := x) (v := v) h
    exact .inr ⟨x, t, rfl, e⟩
theorem z64 (i : Int) (t : Tok) : z5H (.inl i) (.int i t) = true := by simp [z5H, Value.isInt]
theorem z65 (x : Str) (t : Tok) : z5H (.inr x) (.str x t) = true := by simp [z5H, Value.isStrOf]
theorem z9y (a b : Int) : decide ((Sum.inl a : Key) = Sum.inl b) = (a == b) := by
  by_cases e : a = b
  . subst e; simp
  . have h : ¬ (Sum.inl a : Key) = Sum.inl b := fun q => e (Sum.inl.inj q)
    rw [decide_eq_false h]
    exact (beq_eq_false_iff_ne.mpr e).symm
theorem z9z (a b : Str) : decide ((Sum.inr a : Key) = Sum.inr b) = decide (a = b) := by
  by_cases e : a = b
  . subst e; simp
  . have h : ¬ (Sum.inr a : Key) = Sum.inr b := fun q => e (Sum.inr.inj q)
    rw [decide_eq_false h, decide_eq_false e]
theorem zA0 (a : Int) (b : Str) : decide ((Sum.inl a : Key) = Sum.inr b) = false := decide_eq_false (fun q => nomatch q)
theorem zA1 (a : Str) (b : Int) : decide ((Sum.inr a : Key) = Sum.inl b) = false := decide_eq_false (fun q => nomatch q)
def z0R (prog : Program) (w : World) : PySem.KeyKind prog w Key where
  is := z5H
  hash := zD7 w
  inj := fun v a b ha hb => by
    rcases z0U ha with ⟨i, t, rfl, rfl⟩ | ⟨x, t, rfl, rfl⟩
    . rcases z0U hb with ⟨j, u, rfl, e⟩ | ⟨y, u, rfl, e⟩
      . injection e with e1 _; rw [e1]
      . exact nomatch e
    . rcases z0U hb with ⟨j, u, rfl, e⟩ | ⟨y, u, rfl, e⟩
      . exact nomatch e
      . injection e with e1 _; rw [e1]
  byValue := fun k v h => by
    rcases z0U h with ⟨i, t, rfl, rfl⟩ | ⟨x, t, rfl, rfl⟩ <;> rfl
  pyHash := fun hv h => by
    rcases z0U hv with ⟨i, t, rfl, rfl⟩ | ⟨x, t, rfl, rfl⟩
    . exact wpAny_pyHash_int h
    . exact wpAny_pyHash_str h
  eqBool := fun hu hv h => by
    rcases z0U hu with ⟨i, t, rfl, rfl⟩ | ⟨x, t, rfl, rfl⟩
    . rcases z0U hv with ⟨j, u, rfl, rfl⟩ | ⟨y, u, rfl, rfl⟩
      . rw [z9y] at h; exact wpAny_eqBool_int h
      . rw [zA0] at h; exact SeqAt.EqAt.int_str i t y u _ _ _ _ h
    . rcases z0U hv with ⟨j, u, rfl, rfl⟩ | ⟨y, u, rfl, rfl⟩
      . rw [zA1] at h; exact SeqAt.EqAt.str_int x t j u _ _ _ _ h
      . rw [z9z] at h; exact wpAny_eqBool_str h
  «strs» := fun k x t v h => by
    rcases z0U h with ⟨i, u, rfl, e⟩ | ⟨y, u, rfl, e⟩
    . exact nomatch e
    . injection e with e1 _
      subst e1
      cases v <;> rfl
theorem z4E (prog : Program) (w : World) (i : Int) (t : Tok) : (z0R prog w).is (.inl i) (.int i t) = true := z64 i t
theorem z4F (prog : Program) (w : World) (x : Str) (t : Tok) : (z0R prog w).is (.inr x) (.str x t) = true := z65 x t
inductive V where
  | non | bl (b : Bool) | int (i : Int) | str (x : Str) | byt (b : Array UInt8) | flt (b : UInt64) | ref (a : Addr) | ty (n : String)
  deriving DecidableEq
def RelV : V -> Value -> Prop
  | .non, u => u = Value.none
  | .bl b, u => u = Value.bool b
  | .int i, u => ∃ t, u = Value.int i t
  | .str x, u => ∃ t, u = Value.str x t
  | .byt b, u => ∃ t, u = Value.bytes b t
  | .flt b, u => ∃ t, u = Value.float b t
  | .ref a, u => u = Value.ref a
  | .ty n, u => u = Value.type n
abbrev Vals : List V -> List Value -> Prop := Paired RelV
theorem Vals.length {xs : List V} {us : List Value} (r : Vals xs us) : xs.length = us.length := Paired.length r
theorem Vals.get : ∀ {xs : List V} {us : List Value} {i : Nat} {x : V}, Vals xs us -> xs[i]? = some x -> ∃ u, us[i]? = some u /\ RelV x u
  | _, _, _, _, .nil, e => by simp at e
  | _, _, 0, _, .cons r _, e => by simp at e; subst e; exact ⟨_, rfl, r⟩
  | _, _, i + 1, x, .cons _ t, e => by
    obtain ⟨u, h1, h2⟩ := Vals.get (i := i) (x := x) t (by simpa using e)
    exact ⟨u, by simpa using h1, h2⟩
theorem Vals.set {x : V} {u : Value} (r : RelV x u) : ∀ {xs : List V} {us : List Value} (i : Nat), Vals xs us -> Vals (xs.set i x) (us.set i u)
  | _, _, _, .nil => .nil
  | _, _, 0, .cons _ t => .cons r t
  | _, _, i + 1, .cons q t => .cons q (Vals.set r i t)
theorem Vals.append : ∀ {xs ys : List V} {us ws : List Value}, Vals xs us -> Vals ys ws -> Vals (xs ++ ys) (us ++ ws)
  | _, _, _, _, .nil, s => s
  | _, _, _, _, .cons r t, s => .cons r (Vals.append t s)
theorem Vals.take : ∀ {xs : List V} {us : List Value} (n : Nat), Vals xs us -> Vals (xs.take n) (us.take n)
  | _, _, 0, _ => .nil
  | _, _, _ + 1, .nil => .nil
  | _, _, n + 1, .cons r t => .cons r (Vals.take n t)
theorem Vals.drop : ∀ {xs : List V} {us : List Value} (n : Nat), Vals xs us -> Vals (xs.drop n) (us.drop n)
  | _, _, 0, r => r
  | _, _, _ + 1, .nil => .nil
  | _, _, n + 1, .cons _ t => Vals.drop n t
theorem Vals.none_of : ∀ {xs : List V} {us : List Value} {i : Nat}, Vals xs us -> xs[i]? = none -> us[i]? = none := fun {xs us i} r e => by
  have h1 := r.length
  have h2 : xs.length <= i := List.getElem?_eq_none_iff.mp e
  exact List.getElem?_eq_none_iff.mpr (by omega)
def RelO : Option V -> Option Value -> Prop
  | some v, some u => RelV v u
  | none, none => True
  | _, _ => False
def KV {κ : Type} : List (κ × V) -> List (κ × Value) -> Prop := Paired fun (p : κ × V) (q : κ × Value) => p.1 = q.1 /\ RelV p.2 q.2
def kV : Key -> V
  | .inl i => .int i
  | .inr x => .str x
inductive HO where
  | lst (xs : List V)
  | tup (xs : List V)
  | dK (kvs : List (Key × V)) | dT (kvs : List (List Key × V))
  | set (S : Int -> Bool) (n : Nat)
  | ins (C dx : Addr) (fs : List (Str × V))
  | own (x : Addr)
  | xd (fs : List (Str × V))
  | met (f x : Addr)
  | rng (lo hi : Int)
  | frz (o : Obj) (u : HO)
  | tbl (ps : Array Value)
  | ext (φ : Heap -> Prop)
abbrev Hp := Addr -> Option HO
def upd (H : Hp) (a : Addr) (o : HO) : Hp := fun b => if b = a then some o else H b
theorem z05 {H : Hp} {a : Addr} {o : HO} : upd H a o a = some o := by unfold upd; rw [if_pos rfl]
theorem z06 {H : Hp} {a b : Addr} {o : HO} (h : b ≠ a) : upd H a o b = H b := by unfold upd; rw [if_neg h]
theorem z4G {H : Hp} {a : Addr} {o u : HO} : upd (upd H a o) a u = upd H a u := by
  funext b; unfold upd; split <;> rfl
theorem z1H {H : Hp} {a b : Addr} {o u : HO} (h : H a = some o) (h' : H b = some u) (d : o ≠ u) : a ≠ b := by
  intro e; subst e; rw [h] at h'; exact d (Option.some.inj h')
theorem z08 {H : Hp} {a b : Addr} {o : HO} (h : H a = some o) (h' : H b = none) : a ≠ b := by
  intro e; subst e; rw [h] at h'; cases h'
section
variable (P : Program) (w : World)
def ObjOk (H : Hp) (h : Heap) (a : Addr) : HO -> Prop
  | .lst xs => xs.length <= sizeLine /\ ∃ (its : List Value) (n : Nat), Vals xs its /\ h.get? a = some { cls := .type "list", data := .seq its.toArray n }
  | .tup xs => xs.length <= sizeLine /\ ∃ its : List Value, Vals xs its /\ IsTup h a its.toArray
  | .dK kvs => kvs.length <= sizeLine /\ (a == sysModules) = false /\ ∃ vs, KV kvs vs /\ h.DictOf (z0R P w) a vs
  | .dT kvs => kvs.length <= sizeLine /\ (a == sysModules) = false /\ ∃ xs : List (List Key × Addr × Value),
      Paired (fun (p : List Key × V) (q : List Key × Addr × Value) => p.1 = q.1 /\ H q.2.1 = some (.tup (p.1.map kV)) /\ RelV p.2 q.2.2) kvs xs /\
      ∃ o es ep, h.get? a = some o /\ o.ExactDict /\ o.data = .dict es ep /\ es.toList = xs.map (entryOfKey (tupleKind (z0R P w))) /\ (xs.map (·.1)).Nodup
  | .set S n => h.SetOf (intKind P w) a S n
  | .ins C dx fs => H dx = some (.own a) /\ fs.length <= 1000 /\ dx ≠ a /\ h.get? a = some (PySem.W.instObj C dx) /\
      ∃ mA, h.Ns1 dx mA /\ (∀ f, RelO (fs.lookup f) (mA f)) /\ PySem.Within mA (fs.map (·.1))
  | .own _ => ∃ o, h.get? a = some o
  | .xd fs => ∃ mA, h.Ns1 a mA /\ ∀ f, RelO (fs.lookup f) (mA f)
  | .rng lo hi => ∃ t u v, h.get? a = some { cls := .type "range", data := .fields #[.int lo t, .int hi u, .int 1 v] }
  | .frz o u => h.get? a = some o /\ ObjOk H h a u
  | .tbl ps => h.get? a = some { cls := .none, data := .fields ps }
  | .met f x => h.get? a = some (PySem.W.methodObj (.ref f) (.ref x))
  | .ext φ => φ h /\ (∃ o, h.get? a = some o) /\ ∀ h1 h2 : Heap, φ h1 -> (∀ o, h1.get? a = some o -> h2.get? a = some o) -> φ h2
def HOk (H : Hp) (h : Heap) : Prop := ∀ a o, H a = some o -> ObjOk P w H h a o
end
section
variable {P : Program} {w : World} {H H' : Hp} {h h' : Heap} {a : Addr} {o : HO}
theorem ObjOk.lt (x : ObjOk P w H h a o) : a < h.objs.size := by
  cases o with
  | lst xs => obtain ⟨_, _, _, _, e⟩ := x; exact Heap.lt_size e
  | tup xs => obtain ⟨_, _, _, p⟩ := x; exact p.lt
  | dK kvs => obtain ⟨_, _, _, _, o, _, _, e, _⟩ := x; exact Heap.lt_size e
  | dT kvs => obtain ⟨_, _, _, _, o, _, _, e, _⟩ := x; exact Heap.lt_size e
  | set S n => obtain ⟨o, _, _, _, e, _⟩ := x; exact Heap.lt_size e
  | ins C dx fs => obtain ⟨_, _, _, e, _⟩ := x; exact Heap.lt_size e
  | own y => obtain ⟨_, e⟩ := x; exact Heap.lt_size e
  | xd fs => obtain ⟨_, ⟨_, _, _, e, _⟩, _⟩ := x; exact Heap.lt_size e
  | rng lo hi => obtain ⟨_, _, _, e⟩ := x; exact Heap.lt_size e
  | frz ob u => obtain ⟨e, _⟩ := x; exact Heap.lt_size e
  | tbl ps => exact Heap.lt_size (show h.get? a = some _ from x)
  | met f y => exact Heap.lt_size (show h.get? a = some _ from x)
  | ext φ => obtain ⟨_, ⟨_, e⟩, _⟩ := x; exact Heap.lt_size e
theorem Paired.mapP {α β : Type} {F G : α -> β -> Prop} : ∀ {l₁ : List α} {l₂ : List β}, Paired F l₁ l₂ -> (∀ a b, F a b -> G a b) -> Paired G l₁ l₂
  | _, _, .nil, _ => .nil
  | _, _, .cons r t, f => .cons (f _ _ r) (Paired.mapP t f)
theorem ObjOk.stay (x : ObjOk P w H h a o) (k : ∀ b u, (b = a \/ H b = some (.own a)) -> h.get? b = some u -> h'.get? b = some u)
    (ho : ∀ b, H b = some (.own a) -> H' b = some (.own a)) (ht : ∀ b xs, H b = some (.tup xs) -> H' b = some (.tup xs)) : ObjOk P w H' h' a o := by
  induction o with
  | lst xs => obtain ⟨z, its, n, r, e⟩ := x; exact ⟨z, its, n, r, k _ _ (.inl rfl) e⟩
  | tup xs => obtain ⟨z, its, r, ob, e, c⟩ := x; exact ⟨z, its, r, ob, k _ _ (.inl rfl) e, c⟩
  | dK kvs => obtain ⟨z, y, vs, r, ob, es, ep, e, c⟩ := x; exact ⟨z, y, vs, r, ob, es, ep, k _ _ (.inl rfl) e, c⟩
  | dT kvs =>
    obtain ⟨z, y, xs, r, ob, es, ep, e, c⟩ := x
    exact ⟨z, y, xs, Paired.mapP r fun p q z => ⟨z.1, ht _ _ z.2.1, z.2.2⟩, ob, es, ep, k _ _ (.inl rfl) e, c⟩
  | set S n => obtain ⟨ob, es, ep, t, e, c⟩ := x; exact ⟨ob, es, ep, t, k _ _ (.inl rfl) e, c⟩
  | ins C dx fs =>
    obtain ⟨d, z, ne, e, mA, ⟨od, es, ep, e2, c⟩, r⟩ := x
    exact ⟨ho _ d, z, ne, k _ _ (.inl rfl) e, mA, ⟨od, es, ep, k _ _ (.inr d) e2, c⟩, r⟩
  | own y => obtain ⟨ob, e⟩ := x; exact ⟨ob, k _ _ (.inl rfl) e⟩
  | xd fs => obtain ⟨mA, ⟨od, es, ep, e, c⟩, r⟩ := x; exact ⟨mA, ⟨od, es, ep, k _ _ (.inl rfl) e, c⟩, r⟩
  | rng lo hi => obtain ⟨t, u, v, e⟩ := x; exact ⟨t, u, v, k _ _ (.inl rfl) e⟩
  | frz ob u ih => obtain ⟨e, q⟩ := x; exact ⟨k _ _ (.inl rfl) e, ih q⟩
  | tbl ps =>
    have e : h.get? a = some { cls := .none, data := .fields ps } := x
    show h'.get? a = some { cls := .none, data := .fields ps }
    exact k a _ (.inl rfl) e
  | met f y =>
    have e : h.get? a = some (PySem.W.methodObj (.ref f) (.ref y)) := x
    show h'.get? a = some (PySem.W.methodObj (.ref f) (.ref y))
    exact k a _ (.inl rfl) e
  | ext φ => obtain ⟨p, ⟨o, e⟩, st⟩ := x; exact ⟨st _ _ p fun o q => k _ _ (.inl rfl) q, ⟨o, k _ _ (.inl rfl) e⟩, st⟩
theorem HOk.lt (x : HOk P w H h) (e : H a = some o) : a < h.objs.size := (x a o e).lt
theorem HOk.fresh (x : HOk P w H h) (e : h.objs.size <= a) : H a = none := by
  cases q : H a with
  | none => rfl
  | some u => exact absurd (Nat.lt_of_lt_of_le (x.lt q) e) (Nat.lt_irrefl _)
theorem HOk.kept (x : HOk P w H h) (k : ∀ b u, h.get? b = some u -> h'.get? b = some u) : HOk P w H h' := fun a o e =>
  (x a o e).stay (fun b u _ q => k b u q) (fun _ q => q) fun _ _ q => q
theorem HOk.laid (x : HOk P w H h) (k : ∀ b u, h.get? b = some u -> h'.get? b = some u) (hp : h.objs.size <= a) (new : ObjOk P w (upd H a o) h' a o) : HOk P w (upd H a o) h' := fun b u e => by
  have hn := x.fresh hp
  by_cases hb : b = a
  . subst hb; rw [z05] at e; cases e; exact new
  . rw [z06 hb] at e
    exact (x b u e).stay (fun c v _ q => k c v q) (fun c q => by rw [z06 (z08 q hn)]; exact q) fun c xs q => by rw [z06 (z08 q hn)]; exact q
end
def Rd (H : Hp) (a : Addr) (u : HO) : Prop := H a = some u \/ ∃ o, H a = some (.frz o u)
theorem Rd.of {H : Hp} {a : Addr} {u : HO} (h : H a = some u) : Rd H a u := .inl h
theorem Rd.ok {P : Program} {w : World} {H : Hp} {h : Heap} {a : Addr} {u : HO} (r : Rd H a u) (x : HOk P w H h) : ObjOk P w H h a u := by
  rcases r with r | ⟨o, r⟩
  . exact x a u r
  . obtain ⟨_, q⟩ := x a _ r
    exact q
def Mut : Option HO -> Prop
  | some (.lst _) => True
  | some (.dK _) => True
  | some (.dT _) => True
  | some (.set _ _) => True
  | some (.ins _ _ _) => True
  | some (.ext _) => True
  | _ => False
section
variable {P : Program} {w : World} {H : Hp} {h h' : Heap} {x e : Addr} {o' : HO}
theorem HOk.write (ok : HOk P w H h) (mu : Mut (H x)) (he : e = x \/ H e = some (.own x)) (k : ∀ b u, b ≠ e -> h.get? b = some u -> h'.get? b = some u) (heo : ∃ u, h'.get? e = some u)
    (new : ObjOk P w (upd H x o') h' x o') : HOk P w (upd H x o') h' := fun b u q => by
  have nown : ∀ c y, H c = some (.own y) -> c ≠ x := fun c y r z => by subst z; rw [r] at mu; exact mu
  have ntup : ∀ c xs, H c = some (.tup xs) -> c ≠ x := fun c xs r z => by subst z; rw [r] at mu; exact mu
  by_cases hb : b = x
  . subst hb; rw [z05] at q; cases q; exact new
  . rw [z06 hb] at q
    by_cases hbe : b = e
    . have q' : H b = some (.own x) := by
        rcases he with z | z
        . exact absurd (hbe.trans z) hb
        . rw [hbe]; exact z
      rw [q] at q'; cases q'
      obtain ⟨v, hv⟩ := heo
      exact ⟨v, by rw [hbe]; exact hv⟩
    . refine (ok b u q).stay (fun c v hc r => k c v ?_ r) (fun c r => by rw [z06 (nown c b r)]; exact r) fun c xs r => by rw [z06 (ntup c xs r)]; exact r
      rcases hc with rfl | hc
      . exact hbe
      . rintro rfl
        rcases he with z | z
        . exact nown c b hc z
        . rw [hc] at z; cases z; exact hb rfl
end
structure Un (fs ex : List Addr) (H H' : Hp) (h h' : Heap) : Prop where
  keep : ∀ b o, h.get? b = some o -> H b = none -> b ∉ fs -> b ∉ ex -> h'.get? b = some o
  slot : ∀ b o, h.get? b = some o -> H b = none -> b ∈ fs -> b ∉ ex -> ∃ sl, h'.get? b = some { o with slots := sl }
  free : ∀ b o, h.get? b = some o -> H b = none -> b ∉ ex -> H' b = none
  there : ∀ b o, h.get? b = some o -> b ∉ ex -> ∃ o', h'.get? b = some o'
  tups : ∀ b xs, H b = some (.tup xs) -> H' b = some (.tup xs)
  frzs : ∀ b o u, H b = some (.frz o u) -> H' b = some (.frz o u)
  tbls : ∀ b ps, H b = some (.tbl ps) -> ∃ more, H' b = some (.tbl (ps ++ more))
section
variable {fs fs' ex ex' : List Addr} {H H1 H2 : Hp} {h h1 h2 h' : Heap} {a x e : Addr} {o : HO}
theorem Un.any (u : Un fs ex H H1 h h1) {b : Addr} {ob : Obj} (q : h.get? b = some ob) (n : H b = none) (hx : b ∉ ex) : ∃ sl, h1.get? b = some { ob with slots := sl } := by
  by_cases hb : b ∈ fs
  . exact u.slot b ob q n hb hx
  . exact ⟨ob.slots, u.keep b ob q n hb hx⟩
theorem Un.trans (a : Un fs ex H H1 h h1) (b : Un fs ex H1 H2 h1 h2) : Un fs ex H H2 h h2 where
  keep := fun c ob q n hc hx => b.keep c ob (a.keep c ob q n hc hx) (a.free c ob q n hx) hc hx
  slot := fun c ob q n hc hx => by
    obtain ⟨sl, e1⟩ := a.slot c ob q n hc hx
    obtain ⟨sl', e2⟩ := b.slot c _ e1 (a.free c ob q n hx) hc hx
    exact ⟨sl', e2⟩
  free := fun c ob q n hx => by
    obtain ⟨o', e1⟩ := a.there c ob q hx
    exact b.free c o' e1 (a.free c ob q n hx) hx
  there := fun c ob q hx => by
    obtain ⟨o', e1⟩ := a.there c ob q hx
    exact b.there c o' e1 hx
  tups := fun c xs q => b.tups c xs (a.tups c xs q)
  frzs := fun c ob xs q => b.frzs c ob xs (a.frzs c ob xs q)
  tbls := fun c ps q => by
    obtain ⟨m1, e1⟩ := a.tbls c ps q
    obtain ⟨m2, e2⟩ := b.tbls c _ e1
    exact ⟨m1 ++ m2, by rw [e2, Array.append_assoc]⟩
theorem Un.kept (k : ∀ b u, h.get? b = some u -> h'.get? b = some u) : Un fs ex H H h h' :=
  ⟨fun b ob q _ _ _ => k b ob q, fun b ob q _ _ _ => ⟨ob.slots, k b ob q⟩, fun _ _ _ n _ => n, fun b ob q _ => ⟨ob, k b ob q⟩, fun _ _ q => q, fun _ _ _ q => q, fun _ ps q => ⟨#[], by rw [q]; simp⟩⟩
theorem Un.refl : Un fs ex H H h h := Un.kept fun _ _ q => q
theorem Un.laid (k : ∀ b u, h.get? b = some u -> h'.get? b = some u) (hp : h.objs.size <= a) (hn : H a = none) : Un fs ex H (upd H a o) h h' where
  keep := fun b u q _ _ _ => k b u q
  slot := fun b u q _ _ _ => ⟨u.slots, k b u q⟩
  free := fun b u q n _ => by rw [z06 (Nat.ne_of_lt (Nat.lt_of_lt_of_le (Heap.lt_size q) hp))]; exact n
  there := fun b u q _ => ⟨u, k b u q⟩
  tups := fun b xs q => by rw [z06 (z08 q hn)]; exact q
  frzs := fun b u xs q => by rw [z06 (z08 q hn)]; exact q
  tbls := fun b ps q => ⟨#[], by rw [z06 (z08 q hn), q]; simp⟩
theorem Un.write (mu : Mut (H x)) (he : e = x \/ H e = some (.own x)) (k : ∀ b u, b ≠ e -> h.get? b = some u -> h'.get? b = some u) (heo : ∃ u, h'.get? e = some u) : Un fs ex H (upd H x o) h h' := by
  have hx : ∀ b, H b = none -> b ≠ x := fun b n z => by subst z; rw [n] at mu; exact mu
  have hb : ∀ b, H b = none -> b ≠ e := fun b n z => by
    subst z
    rcases he with r | r
    . exact hx b n r
    . rw [n] at r; cases r
  have hm : ∀ b u, H b = some u -> ¬ Mut (some u) -> b ≠ x := fun b u q nm z => by subst z; rw [q] at mu; exact nm mu
  refine ⟨fun b u q n _ _ => k b u (hb b n) q, fun b u q n _ _ => ⟨u.slots, k b u (hb b n) q⟩, fun b u q n _ => by rw [z06 (hx b n)]; exact n, fun b u q _ => ?_,
    fun b xs q => by rw [z06 (hm b _ q fun z => z)]; exact q, fun b u xs q => by rw [z06 (hm b _ q fun z => z)]; exact q, fun b ps q => ⟨#[], by rw [z06 (hm b _ q fun z => z), q]; simp⟩⟩
  by_cases hbe : b = e
  . subst hbe; exact heo
  . exact ⟨u, k b u hbe q⟩
theorem Un.mono (u : Un fs ex H H1 h h1) (hs : ∀ b ∈ fs, b ∈ fs') (hx : ∀ b ∈ ex, b ∈ ex') : Un fs' ex' H H1 h h1 :=
  ⟨fun b ob q n hb he => u.keep b ob q n (fun z => hb (hs b z)) fun z => he (hx b z), fun _ _ q n _ he => u.any q n fun z => he (hx _ z), fun b ob q n he => u.free b ob q n fun z => he (hx b z), fun b ob q he => u.there b ob q fun z => he (hx b z), u.tups, u.frzs, u.tbls⟩
end
def trk (h : Heap) (H : Hp) : List Addr := (List.range h.objs.size).filter fun a => (H a).isSome
def z7f (h : Heap) (H : Hp) : Heap := PySem.W.hideAll h (trk h H)
theorem z66 (h : Heap) (H : Hp) : (z7f h H).objs.size = h.objs.size := PySem.W.hideAll_size _ _
theorem z7g {h : Heap} {H : Hp} {b : Addr} {o : Obj} (e : h.get? b = some o) (n : H b = none) : (z7f h H).get? b = some o :=
  PySem.W.hideAll_get _ e fun hm => by
    have q : (H b).isSome = true := (List.mem_filter.mp hm).2
    rw [n] at q; simp at q
theorem z92 {h : Heap} {H : Hp} {b : Addr} {o : Obj} (e : (z7f h H).get? b = some o) : h.get? b = some o /\ H b = none := by
  have e' : h.get? b = some o := PySem.W.of_hideAll (trk h H) e
  refine ⟨e', ?_⟩
  cases q : H b with
  | none => rfl
  | some x =>
    have hm : b ∈ trk h H := List.mem_filter.mpr ⟨List.mem_range.mpr (Heap.lt_size e'), by simp [q]⟩
    have z : (z7f h H).get? b = none := PySem.W.hideAll_none (trk h H) hm
    rw [z] at e; cases e
def z93 (g h : Heap) (L : Addr) : List (Addr × Obj) := (List.range h.objs.size).filterMap fun a => if a = L \/ (g.get? a).isSome = true then none else (h.get? a).map fun o => (a, o)
def rest (g h : Heap) (L d : Addr) : List (Addr × Obj) := (z93 g h L).filter fun p => decide (p.1 ≠ d)
structure Mod (K : PySem.W.Frag) (mg : Str -> Option Value) (base : Heap) : Prop where
  kin : K.In base
  glob : base.Ns mainGlobals mg
  blt : ∃ mb, base.Ns builtinsNs mb /\ ∀ x : Str, x ≠ "__name__" -> mb x = bootBuiltins x
  nolimit : base.NoLimit
structure Cx where
  prog : Program
  w : World
  K : PySem.W.Frag
  mg : Str -> Option Value
  base : Heap
  A : Around
  N : List Str
  s₀ : Shared
  H₀ : Hp
  env : Env
  outer : List Env
  stack : List Env
  ex : List Addr
  fn : Str -> Bool
  calm : Bool
  pn : List (Addr × Obj)
  xe : Value -> Shared -> Prop
def frs (l : List Env) : List Addr := l.filterMap (·.frame)
abbrev Cx.fs (X : Cx) : List Addr := frs X.outer
def Vis (sc : Scope) (x : Str) : Prop := sc.names.lookup x = some .local \/ sc.names.lookup x = some .cell \/ sc.names.lookup x = some .free
def Loc (sc : Scope) (x : Str) : Prop := sc.names.lookup x = some .local \/ sc.names.lookup x = some .cell
def Look (env : Env) (h : Heap) (m : Str -> Option Value) (x : Str) (u : Value) : Prop :=
  (env.kindOf x = some .local /\ m x = some u) \/ ((env.kindOf x = some .cell \/ env.kindOf x = some .free) /\ ∃ c, env.cells.lookup x = some c /\ h.IsCell c (some u))
structure Cx.Ok (X : Cx) : Prop where
  mod : Mod X.K X.mg X.base
  kind : X.env.scope.kind = .function
  glob : X.env.globals = mainGlobals
  blt : X.env.builtins = builtinsNs
  above : X.s₀.heap.objs.size <= X.env.locals
  inj : ∀ x y c, X.env.cells.lookup x = some c -> X.env.cells.lookup y = some c -> x = y
  has : ∀ x, (X.env.kindOf x = some .cell \/ X.env.kindOf x = some .free) -> ∃ c, X.env.cells.lookup x = some c
  cab : ∀ x c, X.fn x = true -> X.env.cells.lookup x = some c -> X.s₀.heap.objs.size <= c
  hd : X.calm = true -> X.A.handled = none
  frames : X.A.frames = some X.stack
  stk : X.stack = X.outer \/ (X.stack = X.env :: X.outer /\ X.env.frame = some X.env.locals)
  exf : ∀ b ∈ X.ex, b ≠ X.env.locals /\ ∀ x c, X.env.cells.lookup x = some c -> c ≠ b
  bs : ∀ b o, X.base.get? b = some o -> X.s₀.heap.get? b = some o /\ X.H₀ b = none
  bsz : X.base.objs.size <= X.s₀.heap.objs.size
  noex : ∀ b o, X.base.get? b = some o -> b ∉ X.ex
  exfs : ∀ b ∈ X.ex, b ∉ X.fs
  funs : X.s₀.heap.FunFrames X.base X.outer
  frf : ∀ b ∈ X.fs, X.H₀ b = none
structure Inv (X : Cx) (pins : List (Addr × Obj)) (σ : List (Option V)) (H : Hp) (s : Shared) : Prop where
  ok : X.Ok
  os : s.os = X.s₀.os
  bare : AllBare s.gens
  base : Un X.fs X.ex X.H₀ H X.s₀.heap s.heap
  loc : ∃ m, s.heap.Ns X.env.locals m /\ ∀ (i : Nat) (x : Str) (v : V), X.N[i]? = some x -> σ[i]? = some (some v) -> Vis X.env.scope x -> ∃ u, RelV v u /\ Look X.env s.heap m x u
  cell : ∀ x c, X.env.cells.lookup x = some c -> ∃ v, s.heap.IsCell c v
  free : H X.env.locals = none
  freeC : ∀ x c, X.env.cells.lookup x = some c -> H c = none
  pin : ∀ p ∈ X.pn ++ pins, s.heap.get? p.1 = some p.2 /\ H p.1 = none /\ p.1 ≠ X.env.locals /\ p.1 ∉ X.fs /\ ∀ v, p.2.data ≠ .cell v
  hok : HOk X.prog X.w H s.heap
  len : σ.length = X.N.length
section
variable {X : Cx} {pins : List (Addr × Obj)} {σ : List (Option V)} {H H' : Hp} {s : Shared} {h' : Heap}
theorem Cx.Ok.nofr (ok : X.Ok) {b : Addr} {o : Obj} (e : X.base.get? b = some o) : b ∉ X.fs := fun hb => by
  have := (ok.funs.mem hb).1
  rw [e] at this; cases this
theorem Inv.bs (I : Inv X pins σ H s) : ∀ b o, X.base.get? b = some o -> s.heap.get? b = some o /\ H b = none := fun b o e =>
  ⟨I.base.keep b o (I.ok.bs b o e).1 (I.ok.bs b o e).2 (I.ok.nofr e) (I.ok.noex b o e), I.base.free b o (I.ok.bs b o e).1 (I.ok.bs b o e).2 (I.ok.noex b o e)⟩
theorem Inv.bk (I : Inv X pins σ H s) : ∀ b o, X.base.get? b = some o -> s.heap.get? b = some o := fun b o e => (I.bs b o e).1
theorem Inv.mod (I : Inv X pins σ H s) : Mod X.K X.mg X.base := I.ok.mod
theorem Inv.kIn (I : Inv X pins σ H s) : X.K.In s.heap := I.ok.mod.kin.keeps I.bk
theorem Inv.nolimit (I : Inv X pins σ H s) : s.heap.NoLimit := I.ok.mod.nolimit.keeps I.bk
theorem Inv.fr (I : Inv X pins σ H s) : ∃ m, Fr X.base X.env.locals s.heap m :=
  let ⟨m, hn, _⟩ := I.loc
  ⟨m, hn, I.bk, Nat.le_trans I.ok.bsz I.ok.above⟩
theorem Inv.lt (I : Inv X pins σ H s) : X.env.locals < s.heap.objs.size := let ⟨_, hn, _⟩ := I.loc; hn.lt
theorem Inv.sz (I : Inv X pins σ H s) : X.s₀.heap.objs.size <= s.heap.objs.size := Nat.le_trans I.ok.above (Nat.le_of_lt I.lt)
theorem Inv.nofs (I : Inv X pins σ H s) {a : Addr} (h : s.heap.objs.size <= a) : a ∉ X.fs := fun hb => by
  obtain ⟨_, o, ho, _⟩ := I.ok.funs.mem hb
  exact absurd (Nat.lt_of_lt_of_le (Heap.lt_size ho) (Nat.le_trans I.sz h)) (Nat.lt_irrefl _)
theorem Inv.cne (I : Inv X pins σ H s) : ∀ x c, X.env.cells.lookup x = some c -> c ≠ X.env.locals := fun x c e z => by
  obtain ⟨v, o, ho, hd⟩ := I.cell x c e
  obtain ⟨m, ⟨o', es, ep, ho', hd', _⟩, _⟩ := I.loc
  rw [z, ho'] at ho; cases ho; rw [hd'] at hd; cases hd
theorem Inv.funs (I : Inv X pins σ H s) : s.heap.FunFrames X.base X.outer := by
  have all : ∀ (l : List Env), (∀ b ∈ frs l, b ∈ X.fs) -> X.s₀.heap.FunFrames X.base l -> s.heap.FunFrames X.base l := by
    intro l
    induction l with
    | nil => intro _ _; trivial
    | cons env r ih =>
      intro hs hl
      obtain ⟨hk, ⟨L, o, hf, hn, ho, hd⟩, hr⟩ := hl
      have hL : L ∈ X.fs := hs L (by unfold frs; rw [List.filterMap_cons, hf]; exact List.mem_cons_self)
      obtain ⟨sl, e⟩ := I.base.slot L o ho (I.ok.frf L hL) hL fun z => I.ok.exfs L z hL
      exact ⟨hk, ⟨L, _, hf, hn, e, hd⟩, ih (fun b hb => hs b (by unfold frs; rw [List.filterMap_cons, hf]; exact List.mem_cons_of_mem _ hb)) hr⟩
  exact all X.outer (fun _ hb => hb) I.ok.funs
theorem Inv.stack (I : Inv X pins σ H s) : s.heap.FunFrames X.base X.stack := by
  rcases I.ok.stk with e | ⟨e, hf⟩
  . rw [e]; exact I.funs
  . rw [e]
    obtain ⟨m, hn, _⟩ := I.loc
    refine .cons (by rw [I.ok.kind]; decide) hf hn ?_ I.funs
    exact Heap.get?_none_of_le (Nat.le_trans I.ok.bsz I.ok.above)
theorem Inv.stkSub (I : Inv X pins σ H s) : ∀ b ∈ frs X.stack, b ∈ X.env.locals :: X.fs := fun b hb => by
  rcases I.ok.stk with e | ⟨e, hf⟩
  . rw [e] at hb; exact List.mem_cons_of_mem _ hb
  . rw [e] at hb
    unfold frs at hb
    rw [List.filterMap_cons, hf] at hb
    exact hb
theorem Inv.stkFree (I : Inv X pins σ H s) : ∀ b ∈ frs X.stack, H b = none := fun b hb => by
  rcases List.mem_cons.mp (I.stkSub b hb) with e | hb
  . rw [e]; exact I.free
  . obtain ⟨_, o, ho, _⟩ := I.ok.funs.mem hb
    exact I.base.free b o ho (I.ok.frf b hb) fun z => I.ok.exfs b z hb
theorem Inv.step {g' : Array GenState} {t' : Nat} {d' : Drawn} {ch : List Addr} (I : Inv X pins σ H s)
    (hch : ∀ b ∈ ch, (b ∈ X.ex \/ X.s₀.heap.objs.size <= b) /\ b ≠ X.env.locals /\ (∀ x c, X.env.cells.lookup x = some c -> c ≠ b) /\ ∀ p ∈ X.pn ++ pins, p.1 ≠ b)
    (keep : ∀ b o, b ≠ X.env.locals -> b ∉ X.fs -> b ∉ ch -> s.heap.get? b = some o -> H b = none -> h'.get? b = some o)
    (slot : ∀ b o, b ≠ X.env.locals -> b ∈ X.fs -> b ∉ ch -> s.heap.get? b = some o -> H b = none -> ∃ sl, h'.get? b = some { o with slots := sl }) (free : ∀ b o, b ∉ ch -> s.heap.get? b = some o -> H b = none -> H' b = none)
    (there : ∀ b o, b ∉ ch -> s.heap.get? b = some o -> ∃ o', h'.get? b = some o')
    (tups : ∀ b xs, H b = some (.tup xs) -> H' b = some (.tup xs)) (frzs : ∀ b o u, H b = some (.frz o u) -> H' b = some (.frz o u)) (tbls : ∀ b ps, H b = some (.tbl ps) -> ∃ more, H' b = some (.tbl (ps ++ more)))
    (ns : ∀ m, s.heap.Ns X.env.locals m -> h'.Ns X.env.locals m) (hok : HOk X.prog X.w H' h') (hg : AllBare g') :
    Inv X pins σ H' { s with heap := h', gens := g', drawn := d', toks := t' } := by
  have neL : ∀ b o, X.s₀.heap.get? b = some o -> b ≠ X.env.locals := fun b o e => Nat.ne_of_lt (Nat.lt_of_lt_of_le (Heap.lt_size e) I.ok.above)
  have neC : ∀ b o, X.s₀.heap.get? b = some o -> b ∉ X.ex -> b ∉ ch := fun b o e hx hb => by
    rcases (hch b hb).1 with z | z
    . exact hx z
    . exact absurd (Nat.lt_of_lt_of_le (Heap.lt_size e) z) (Nat.lt_irrefl _)
  have cellK : ∀ x c, X.env.cells.lookup x = some c -> ∀ v, s.heap.IsCell c v -> h'.IsCell c v := fun x c e v ⟨o, ho, hd⟩ => by
    have nch : c ∉ ch := fun z => (hch c z).2.2.1 x c e rfl
    by_cases hc : c ∈ X.fs
    . obtain ⟨sl, q⟩ := slot c o (I.cne x c e) hc nch ho (I.freeC x c e)
      exact ⟨_, q, hd⟩
    . exact ⟨o, keep c o (I.cne x c e) hc nch ho (I.freeC x c e), hd⟩
  refine ⟨I.ok, I.os, hg, ⟨fun b o e n hb hx => ?_, fun b o e n hb hx => ?_, fun b o e n hx => ?_, fun b o e hx => ?_, fun b xs e => tups b xs (I.base.tups b xs e), fun b o xs e => frzs b o xs (I.base.frzs b o xs e), fun b ps e => ?_⟩, ?_, fun x c e => ?_, ?_, fun x c e => ?_, fun p hp => ?_, hok, I.len⟩
  . exact keep b o (neL b o e) hb (neC b o e hx) (I.base.keep b o e n hb hx) (I.base.free b o e n hx)
  . obtain ⟨sl, e1⟩ := I.base.slot b o e n hb hx
    obtain ⟨sl', e2⟩ := slot b _ (neL b o e) hb (neC b o e hx) e1 (I.base.free b o e n hx)
    exact ⟨sl', e2⟩
  . obtain ⟨o', e1⟩ := I.base.there b o e hx
    exact free b o' (neC b o e hx) e1 (I.base.free b o e n hx)
  . obtain ⟨o', e1⟩ := I.base.there b o e hx
    exact there b o' (neC b o e hx) e1
  . obtain ⟨m1, e1⟩ := I.base.tbls b ps e
    obtain ⟨m2, e2⟩ := tbls b _ e1
    exact ⟨m1 ++ m2, by rw [e2, Array.append_assoc]⟩
  . obtain ⟨m, hn, hl⟩ := I.loc
    refine ⟨m, ns m hn, fun i x v e1 e2 e3 => ?_⟩
    obtain ⟨u, r, l⟩ := hl i x v e1 e2 e3
    refine ⟨u, r, ?_⟩
    rcases l with l | ⟨k, c, e, z⟩
    . exact .inl l
    . exact .inr ⟨k, c, e, cellK x c e _ z⟩
  . obtain ⟨v, z⟩ := I.cell x c e
    exact ⟨v, cellK x c e v z⟩
  . obtain ⟨m, ⟨o, _, _, ho, _⟩, _⟩ := I.loc
    exact free _ o (fun z => (hch _ z).2.1 rfl) ho I.free
  . obtain ⟨v, o, ho, hd⟩ := I.cell x c e
    exact free c o (fun z => (hch c z).2.2.1 x c e rfl) ho (I.freeC x c e)
  . obtain ⟨e, n, ne, nf, d⟩ := I.pin p hp
    have nch : p.1 ∉ ch := fun z => (hch p.1 z).2.2.2 p hp rfl
    exact ⟨keep p.1 p.2 ne nf nch e n, free p.1 p.2 nch e n, ne, nf, d⟩
theorem Inv.un {t' : Nat} (I : Inv X pins σ H s) (u : Un X.fs [] H H' s.heap h') (hok : HOk X.prog X.w H' h') : Inv X pins σ H' { s with heap := h', toks := t' } := by
  obtain ⟨m, ⟨o, es, ep, ho, r⟩, _⟩ := id I.loc
  obtain ⟨sl, hL⟩ := u.any ho I.free (by simp)
  exact I.step (g' := s.gens) (d' := s.drawn) (ch := []) (fun _ z => nomatch z) (fun b o _ hb _ e n => u.keep b o e n hb (by simp)) (fun b o _ hb _ e n => u.slot b o e n hb (by simp)) (fun b o _ e n => u.free b o e n (by simp)) (fun b o _ e => u.there b o e (by simp)) u.tups u.frzs u.tbls (fun m' hm => by
    obtain ⟨o', es', ep', ho', r'⟩ := hm
    rw [ho] at ho'; cases ho'
    exact ⟨_, es', ep', hL, r'⟩) hok I.bare
theorem Inv.call {g' : Array GenState} {t' : Nat} {d' : Drawn} {ch : List Addr} (I : Inv X pins σ H s) (u : Un (frs X.stack) ch H H' s.heap h') (hok : HOk X.prog X.w H' h') (hg : AllBare g')
    (hch : ∀ b ∈ ch, (b ∈ X.ex \/ X.s₀.heap.objs.size <= b) /\ b ≠ X.env.locals /\ (∀ x c, X.env.cells.lookup x = some c -> c ≠ b) /\ ∀ p ∈ X.pn ++ pins, p.1 ≠ b) :
    Inv X pins σ H' { s with heap := h', gens := g', drawn := d', toks := t' } := by
  obtain ⟨m, ⟨o, es, ep, ho, r⟩, _⟩ := id I.loc
  obtain ⟨sl, hL⟩ := u.any ho I.free fun z => (hch _ z).2.1 rfl
  exact I.step (ch := ch) hch (fun b o hL hb hc e n => u.keep b o e n (fun z => (List.mem_cons.mp (I.stkSub b z)).elim hL hb) hc) (fun b o _ _ hc e n => u.any e n hc) (fun b o hc e n => u.free b o e n hc) (fun b o hc e => u.there b o e hc) u.tups u.frzs u.tbls (fun m' hm => by
    obtain ⟨o', es', ep', ho', r'⟩ := hm
    rw [ho] at ho'; cases ho'
    exact ⟨_, es', ep', hL, r'⟩) hok hg
theorem Inv.turned {t' : Nat} {it : Addr} (I : Inv X pins σ H s) (k : ∀ b o, b ≠ it -> s.heap.get? b = some o -> h'.get? b = some o) (hn : H it = none) (hL : it ≠ X.env.locals)
    (h1 : it ∈ X.ex \/ X.s₀.heap.objs.size <= it) (h2 : ∀ x c, X.env.cells.lookup x = some c -> c ≠ it) (h3 : ∀ p ∈ X.pn ++ pins, p.1 ≠ it) : Inv X pins σ H { s with heap := h', toks := t' } := by
  have nit : ∀ b u, H b = some u -> b ≠ it := fun b u e z => by rw [z, hn] at e; cases e
  refine I.step (g' := s.gens) (d' := s.drawn) (ch := [it]) (fun b hb => ?_) (fun b o _ _ hc e _ => k b o (fun z => hc (by simp [z])) e) (fun b o _ _ hc e _ => ⟨o.slots, k b o (fun z => hc (by simp [z])) e⟩) (fun _ _ _ _ n => n)
    (fun b o hc e => ⟨o, k b o (fun z => hc (by simp [z])) e⟩) (fun _ _ e => e) (fun _ _ _ e => e) (fun b ps e => ⟨#[], by rw [e]; simp⟩) (fun m hm => ?_) (fun b u e => ?_) I.bare
  . have e : b = it := by simpa using hb
    subst e
    exact ⟨h1, hL, h2, h3⟩
  . obtain ⟨o, es, ep, ho, r⟩ := hm
    exact ⟨o, es, ep, k _ o (Ne.symm hL) ho, r⟩
  . refine (I.hok b u e).stay (fun c v hc q => k c v ?_ q) (fun _ q => q) fun _ _ q => q
    rcases hc with z | z
    . rw [z]; exact nit b u e
    . exact nit c _ z
theorem Inv.tok (I : Inv X pins σ H s) (t : Nat) : Inv X pins σ H { s with toks := t } := I.un (h' := s.heap) (t' := t) Un.refl I.hok
theorem Inv.kept {t' : Nat} (I : Inv X pins σ H s) (k : ∀ b u, s.heap.get? b = some u -> h'.get? b = some u) : Inv X pins σ H { s with heap := h', toks := t' } := I.un (Un.kept k) (I.hok.kept k)
theorem Inv.laid {a : Addr} {o : HO} {t' : Nat} (I : Inv X pins σ H s) (k : ∀ b u, s.heap.get? b = some u -> h'.get? b = some u) (hp : s.heap.objs.size <= a) (new : ObjOk X.prog X.w (upd H a o) h' a o) :
    Inv X pins σ (upd H a o) { s with heap := h', toks := t' } := I.un (Un.laid k hp (I.hok.fresh hp)) (I.hok.laid k hp new)
theorem Inv.write {x e : Addr} {o : HO} {t' : Nat} (I : Inv X pins σ H s) (mu : Mut (H x)) (he : e = x \/ H e = some (.own x)) (k : ∀ b u, b ≠ e -> s.heap.get? b = some u -> h'.get? b = some u) (heo : ∃ u, h'.get? e = some u)
    (new : ObjOk X.prog X.w (upd H x o) h' x o) : Inv X pins σ (upd H x o) { s with heap := h', toks := t' } := I.un (Un.write mu he k heo) (I.hok.write mu he k heo new)
theorem Inv.pins_of {pins' : List (Addr × Obj)} (I : Inv X pins σ H s) (h : ∀ p ∈ pins', s.heap.get? p.1 = some p.2 /\ H p.1 = none /\ p.1 ≠ X.env.locals /\ p.1 ∉ X.fs /\ ∀ v, p.2.data ≠ .cell v) : Inv X pins' σ H s :=
  ⟨I.ok, I.os, I.bare, I.base, I.loc, I.cell, I.free, I.freeC, fun p hp => (List.mem_append.mp hp).elim (fun z => I.pin p (List.mem_append_left _ z)) (h p), I.hok, I.len⟩
theorem z3A {N : List Str} (hN : N.Nodup) {i j : Nat} {x : Str} (a : N[i]? = some x) (b : N[j]? = some x) : i = j := by
  obtain ⟨h1, e1⟩ := List.getElem?_eq_some_iff.mp a
  obtain ⟨h2, e2⟩ := List.getElem?_eq_some_iff.mp b
  exact (List.getElem_inj hN).mp (e1.trans e2.symm)
theorem z67 {M : Model} {A : Around} {E : Value -> Shared -> Prop} {i : Nat} {x : Str} {v : V} {u : Value} {Q : Unit -> Shared -> Prop} (I : Inv X pins σ H s) (hN : X.N.Nodup) (hi : X.N[i]? = some x) (hx : Loc X.env.scope x) (r : RelV v u)
    (h : ∀ s', Inv X pins (σ.set i (some v)) H s' -> (∃ a, Heap.SameBut a s.heap s'.heap /\ (a = X.env.locals \/ X.env.cells.lookup x = some a)) -> Q () s') (hf : X.fn x = true \/ X.env.scope.names.lookup x = some .local := by first | exact .inl rfl | exact .inr rfl | assumption) : wpAny M A (storeName X.env x u) Q E s := by
  obtain ⟨m, hn, hl⟩ := id I.loc
  have hcls : (X.env.scope.kind == .class || (X.env.scope.kind == .module && X.env.locals != X.env.globals)) = false := by rw [I.ok.kind]; rfl
  have hiσ : i < σ.length := by rw [I.len]; exact (List.getElem?_eq_some_iff.mp hi).1
  have cne := I.cne
  have tracked : ∀ {a : Addr} {h' : Heap}, (∃ o, s.heap.get? a = some o /\ H a = none) -> Heap.SameBut a s.heap h' -> HOk X.prog X.w H h' := fun {a h'} ha hs b ob e => by
    obtain ⟨_, _, hfree⟩ := ha
    refine (I.hok b ob e).stay (fun c w' hc q => (hs.2 c ?_).trans q) (fun _ q => q) fun _ _ q => q
    rintro rfl
    rcases hc with rfl | hc
    . rw [hfree] at e; cases e
    . rw [hfree] at hc; cases hc
  rcases hx with hk | hk
  . refine wpAny_storeName_local hk hn (fun h' hn' hs => ?_) hcls
    obtain ⟨oL, _, _, hoL, _⟩ := id hn
    refine h _ ⟨I.ok, I.os, I.bare, ⟨fun b o e n hb hx => ?_, fun b o e n hb hx => ?_, I.base.free, fun b o e hx => ?_, I.base.tups, I.base.frzs, I.base.tbls⟩, ⟨_, hn', fun j y v' e1 e2 e3 => ?_⟩, fun y c e => ?_, I.free, I.freeC, fun p hp => ?_, tracked ⟨oL, hoL, I.free⟩ hs, by simpa using I.len⟩ ⟨_, hs, .inl rfl⟩
    . exact (hs.2 b (Nat.ne_of_lt (Nat.lt_of_lt_of_le (Heap.lt_size e) I.ok.above))).trans (I.base.keep b o e n hb hx)
    . obtain ⟨sl, e1⟩ := I.base.slot b o e n hb hx
      exact ⟨sl, (hs.2 b (Nat.ne_of_lt (Nat.lt_of_lt_of_le (Heap.lt_size e) I.ok.above))).trans e1⟩
    . obtain ⟨o', e1⟩ := I.base.there b o e hx
      exact ⟨o', (hs.2 b (Nat.ne_of_lt (Nat.lt_of_lt_of_le (Heap.lt_size e) I.ok.above))).trans e1⟩
    . by_cases hj : j = i
      . subst hj
        rw [hi] at e1; cases e1
        rw [List.getElem?_set_self hiσ] at e2
        cases e2
        exact ⟨u, r, .inl ⟨hk, by simp⟩⟩
      . rw [List.getElem?_set_ne (Ne.symm hj)] at e2
        obtain ⟨u', r', q⟩ := hl j y v' e1 e2 e3
        refine ⟨u', r', ?_⟩
        rcases q with ⟨k, e⟩ | ⟨k, c, e, z⟩
        . refine .inl ⟨k, ?_⟩
          have : y ≠ x := fun e => hj (z3A hN e1 (e ▸ hi))
          simp [this, e]
        . exact .inr ⟨k, c, e, z.sameBut hs (cne y c e)⟩
    . obtain ⟨w', z⟩ := I.cell y c e
      exact ⟨w', z.sameBut hs (cne y c e)⟩
    . obtain ⟨e, n, ne, nf, d⟩ := I.pin p hp
      exact ⟨(hs.2 p.1 ne).trans e, n, ne, nf, d⟩
  . have hfn : X.fn x = true := by
      rcases hf with z | z
      . exact z
      . rw [z] at hk; cases hk
    obtain ⟨c, hc⟩ := I.ok.has x (.inl hk)
    obtain ⟨w', z⟩ := I.cell x c hc
    refine wpAny_storeName_cell I.ok.kind hk hc z (fun h' hc' hs => ?_)
    obtain ⟨oc, hoc, hocd⟩ := id z
    refine h { s with heap := h' } ⟨I.ok, I.os, I.bare, ⟨fun b o e n hb hx => ?_, fun b o e n hb hx => ?_, I.base.free, fun b o e hx => ?_, I.base.tups, I.base.frzs, I.base.tbls⟩, ⟨m, hn.sameBut hs (Ne.symm (cne x c hc)), fun j y v' e1 e2 e3 => ?_⟩, fun y c' e => ?_, I.free, I.freeC, fun p hp => ?_, tracked ⟨oc, hoc, I.freeC x c hc⟩ hs, by simpa using I.len⟩ ⟨c, hs, .inr hc⟩
    . exact (hs.2 b (Nat.ne_of_lt (Nat.lt_of_lt_of_le (Heap.lt_size e) (I.ok.cab x c hfn hc)))).trans (I.base.keep b o e n hb hx)
    . obtain ⟨sl, e1⟩ := I.base.slot b o e n hb hx
      exact ⟨sl, (hs.2 b (Nat.ne_of_lt (Nat.lt_of_lt_of_le (Heap.lt_size e) (I.ok.cab x c hfn hc)))).trans e1⟩
    . obtain ⟨o', e1⟩ := I.base.there b o e hx
      exact ⟨o', (hs.2 b (Nat.ne_of_lt (Nat.lt_of_lt_of_le (Heap.lt_size e) (I.ok.cab x c hfn hc)))).trans e1⟩
    . by_cases hj : j = i
      . subst hj
        rw [hi] at e1; cases e1
        rw [List.getElem?_set_self hiσ] at e2
        cases e2
        exact ⟨u, r, .inr ⟨.inl hk, c, hc, hc'⟩⟩
      . rw [List.getElem?_set_ne (Ne.symm hj)] at e2
        obtain ⟨u', r', q⟩ := hl j y v' e1 e2 e3
        refine ⟨u', r', ?_⟩
        rcases q with q | ⟨k, c', e, z'⟩
        . exact .inl q
        . refine .inr ⟨k, c', e, z'.sameBut hs ?_⟩
          rintro rfl
          exact hj (z3A hN e1 (I.ok.inj _ _ _ e hc ▸ hi))
    . by_cases hcc : c' = c
      . subst hcc; exact ⟨_, hc'⟩
      . obtain ⟨w2, z2⟩ := I.cell y c' e
        exact ⟨w2, z2.sameBut hs hcc⟩
    . obtain ⟨e, n, ne, nf, d⟩ := I.pin p hp
      refine ⟨(hs.2 p.1 ?_).trans e, n, ne, nf, d⟩
      intro q
      rw [q, hoc] at e
      have q' : oc = p.2 := Option.some.inj e
      exact d w' (by rw [<- q']; exact hocd)
theorem z2I {M : Model} {A : Around} {E : Value -> Shared -> Prop} {i : Nat} {x : Str} {v : V} {u : Value} {Q : Unit -> Shared -> Prop} (I : Inv X pins σ H s) (hN : X.N.Nodup) (hi : X.N[i]? = some x) (hx : Loc X.env.scope x) (r : RelV v u)
    (h : ∀ s', Inv X pins (σ.set i (some v)) H s' -> Q () s') (hf : X.fn x = true \/ X.env.scope.names.lookup x = some .local := by first | exact .inl rfl | exact .inr rfl | assumption) : wpAny M A (storeName X.env x u) Q E s :=
  z67 I hN hi hx r (fun s' I' _ => h s' I') hf
theorem Inv.call' {s' : Shared} {ch : List Addr} (I : Inv X pins σ H s) (ho : s'.os = s.os) (u : Un (frs X.stack) ch H H' s.heap s'.heap) (hok : HOk X.prog X.w H' s'.heap) (hg : AllBare s'.gens)
    (hch : ∀ b ∈ ch, (b ∈ X.ex \/ X.s₀.heap.objs.size <= b) /\ b ≠ X.env.locals /\ (∀ x c, X.env.cells.lookup x = some c -> c ≠ b) /\ ∀ p ∈ X.pn ++ pins, p.1 ≠ b) : Inv X pins σ H' s' := by
  obtain ⟨h', g', d', t', o'⟩ := s'
  have e : o' = s.os := ho
  subst e
  exact I.call (g' := g') (t' := t') (d' := d') u hok hg hch
end
abbrev XK := Value -> Option Addr -> Hp -> Prop
abbrev St := List (Option V)
abbrev VK := V -> Hp -> Prop
abbrev TE := St -> Hp -> VK -> Prop
abbrev TT := St -> Hp -> (Bool -> Hp -> Prop) -> Prop
abbrev TA := St -> Hp -> (List V -> Hp -> Prop) -> Prop
structure Ends where
  nx : St -> Hp -> Prop
  rt : VK
  bk : St -> Hp -> Prop := fun _ _ => False
  ct : St -> Hp -> Prop := fun _ _ => False
abbrev TS := Ends -> St -> Hp -> Prop
def EP (X : Cx) (pins : List (Addr × Obj)) (σ : St) (Q : VK) (u : Value) (s' : Shared) : Prop := ∃ v H', Inv X pins σ H' s' /\ RelV v u /\ Q v H'
def TP (X : Cx) (pins : List (Addr × Obj)) (σ : St) (Q : Bool -> Hp -> Prop) (b : Bool) (s' : Shared) : Prop := ∃ H', Inv X pins σ H' s' /\ Q b H'
def AP (X : Cx) (pins : List (Addr × Obj)) (σ : St) (Q : List V -> Hp -> Prop) (us : List Value) (s' : Shared) : Prop := ∃ vs H', Inv X pins σ H' s' /\ Vals vs us /\ Q vs H'
def SP (X : Cx) (pins : List (Addr × Obj)) (D : Ends) (f : Flow) (s' : Shared) : Prop :=
  match f with
  | .next => ∃ σ' H', Inv X pins σ' H' s' /\ D.nx σ' H'
  | .brk => ∃ σ' H', Inv X pins σ' H' s' /\ D.bk σ' H'
  | .cont => ∃ σ' H', Inv X pins σ' H' s' /\ D.ct σ' H'
  | .ret u => ∃ v σ' H', Inv X pins σ' H' s' /\ RelV v u /\ D.rt v H'
def PE (X : Cx) (e : Expr) (t : TE) : Prop :=
  ∀ (pins : List (Addr × Obj)) (s : Shared) (σ : St) (H : Hp) (Q : VK), Inv X pins σ H s -> t σ H Q -> wpAny (model X.prog X.w) X.A (eval e X.env) (EP X pins σ Q) X.xe s
def PT (X : Cx) (e : Expr) (t : TT) : Prop :=
  ∀ (pins : List (Addr × Obj)) (s : Shared) (σ : St) (H : Hp) (Q : Bool -> Hp -> Prop), Inv X pins σ H s -> t σ H Q -> wpAny (model X.prog X.w) X.A (isTrue e X.env (eval e X.env)) (TP X pins σ Q) X.xe s
def PW (X : Cx) (e : Expr) (t : TT) : Prop :=
  ∀ (whole : Sem Value) (pins : List (Addr × Obj)) (s : Shared) (σ : St) (H : Hp) (Q : Bool -> Hp -> Prop), Inv X pins σ H s -> t σ H Q -> wpAny (model X.prog X.w) X.A (isTrue e X.env whole) (TP X pins σ Q) X.xe s
theorem PW.pt {X : Cx} {e : Expr} {t : TT} (h : PW X e t) : PT X e t := h _
def PA (X : Cx) (es : List Expr) (t : TA) : Prop :=
  ∀ (pos : Pos) (pins : List (Addr × Obj)) (s : Shared) (σ : St) (H : Hp) (Q : List V -> Hp -> Prop), Inv X pins σ H s -> t σ H Q -> wpAny (model X.prog X.w) X.A (spliced (backTo pos (starEach es X.env))) (AP X pins σ Q) X.xe s
def PS (X : Cx) (st : Stmt) (t : TS) : Prop :=
  ∀ (pins : List (Addr × Obj)) (s : Shared) (σ : St) (H : Hp) (D : Ends), Inv X pins σ H s -> t D σ H -> wpAny (model X.prog X.w) X.A (exec st X.env) (SP X pins D) X.xe s
def PSs (X : Cx) (st : List Stmt) (t : TS) : Prop :=
  ∀ (pins : List (Addr × Obj)) (s : Shared) (σ : St) (H : Hp) (D : Ends), Inv X pins σ H s -> t D σ H -> wpAny (model X.prog X.w) X.A (execs st X.env) (SP X pins D) X.xe s
theorem thn {α : Type} {t : Sem α} {Q Q' : α -> Shared -> Prop} {M : Model} {A : Around} {E : Value -> Shared -> Prop} {s : Shared} (h : wpAny M A t Q E s) (hQ : ∀ a s, Q a s -> Q' a s) : wpAny M A t Q' E s := wpAny_mono h hQ fun _ _ x => x
section
variable {X : Cx}
def zCH (i : Nat) : TE := fun σ H Q => ∃ v, σ[i]? = some (some v) /\ Q v H
def tC (v : V) : TE := fun _ H Q => Q v H
theorem zA2 {i : Nat} {x : Str} {pos : Pos} (hN : X.N[i]? = some x) (hv : Vis X.env.scope x) (hd : (x == ("__debug__" : Str)) = false := by decide) (hcd : (x == ("__classdict__" : Str)) = false := by decide) : PE X (.Name x pos) (zCH i) := by
  intro pins s σ H Q I h
  obtain ⟨v, e, h⟩ := h
  obtain ⟨m, hn, hl⟩ := I.loc
  obtain ⟨u, r, l⟩ := hl i x v hN e hv
  have fin : EP X pins σ Q u s := ⟨v, H, I, r, h⟩
  rcases l with ⟨hk, hm⟩ | ⟨hk, c, hc, hcell⟩
  . exact wpAny_Name (wpAny_loadName_local I.ok.kind hk hn hm fin) hd
  . rcases hk with hk | hk
    . exact wpAny_Name (wpAny_loadName_cell I.ok.kind hk hc hcell fin) hd
    . exact wpAny_Name (wpAny_loadName_free I.ok.kind hk hc hcell fin hcd) hd
theorem z03 {i j pos} : PE X (.Constant (.int i) j pos) (tC (.int i)) := fun _ _ _ H _ I h => wpAny_Constant_int ⟨.int i, H, I.tok _, ⟨_, rfl⟩, h⟩
theorem z1t {b j pos} : PE X (.Constant (.bool b) j pos) (tC (.bl b)) := fun _ _ _ H _ I h => Constant_bool ⟨.bl b, H, I, rfl, h⟩
theorem z2t {j pos} : PE X (.Constant .none j pos) (tC .non) := fun _ _ _ H _ I h => Constant_none ⟨.non, H, I, rfl, h⟩
theorem z0f {x j pos} : PE X (.Constant (.str x) j pos) (tC (.str x)) := fun _ _ _ H _ I h => Calls.Constant_str ⟨.str x, H, I.tok _, ⟨_, rfl⟩, h⟩
def Gl (X : Cx) (x : Str) : Prop := X.env.kindOf x = some .globalImplicit
theorem z1P {E : Value -> Shared -> Prop} {pins : List (Addr × Obj)} {s : Shared} {σ : St} {H : Hp} {x : Str} {u : Value} {pos : Pos} {Q : Value -> Shared -> Prop} (I : Inv X pins σ H s) (hg : Gl X x) (hm : X.mg x = some u) (h : Q u s)
    (hd : (x == ("__debug__" : Str)) = false := by decide) : wpAny (model X.prog X.w) X.A (eval (.Name x pos) X.env) Q E s :=
  Calls.Name_function_global I.ok.kind hg (Calls.loadGlobal_global (by rw [I.ok.glob]; exact I.mod.glob.keeps I.bk) hm h) hd
theorem z1u {E : Value -> Shared -> Prop} {pins : List (Addr × Obj)} {s : Shared} {σ : St} {H : Hp} {x : Str} {u : Value} {pos : Pos} {Q : Value -> Shared -> Prop} (I : Inv X pins σ H s) (hg : Gl X x) (hm : X.mg x = none) (hv : bootBuiltins x = some u) (h : Q u s)
    (hn : x ≠ "__name__" := by decide) (hd : (x == ("__debug__" : Str)) = false := by decide) : wpAny (model X.prog X.w) X.A (eval (.Name x pos) X.env) Q E s := by
  obtain ⟨mb, h1, h2⟩ := I.mod.blt
  exact Calls.Name_function_global I.ok.kind hg (Calls.loadGlobal_builtin (by rw [I.ok.glob]; exact I.mod.glob.keeps I.bk) hm (by rw [I.ok.blt]; exact h1.keeps I.bk) ((h2 x hn).trans hv) h) hd
theorem z3B {x : Str} {v : V} {u : Value} {pos : Pos} (hg : Gl X x) (hm : X.mg x = some u) (r : RelV v u) (hd : (x == ("__debug__" : Str)) = false := by decide) : PE X (.Name x pos) (tC v) :=
  fun _ _ _ H _ I h => z1P I hg hm ⟨v, H, I, r, h⟩ hd
theorem z0q {x : Str} {v : V} {u : Value} {pos : Pos} (hg : Gl X x) (hm : X.mg x = none) (hv : bootBuiltins x = some u) (r : RelV v u) (hn : x ≠ "__name__" := by decide) (hd : (x == ("__debug__" : Str)) = false := by decide) : PE X (.Name x pos) (tC v) :=
  fun _ _ _ H _ I h => z1u I hg hm hv ⟨v, H, I, r, h⟩ hn hd
def t2I (ta tb : TE) (k : Int -> Int -> Hp -> Prop) : St -> Hp -> Prop := fun σ H => ta σ H fun x H1 => tb σ H1 fun y H2 => ∃ i j, x = .int i /\ y = .int j /\ k i j H2
def zDw (ta tb : TE) : TE := fun σ H Q => t2I ta tb (fun i j H2 => Q (.int (i + j)) H2) σ H
def zDx (ta tb : TE) : TE := fun σ H Q => t2I ta tb (fun i j H2 => Q (.int (i - j)) H2) σ H
def zDy (ta tb : TE) : TE := fun σ H Q => t2I ta tb (fun i j H2 => (-(2 ^ 64) < i /\ i < 2 ^ 64) /\ Q (.int (i * j)) H2) σ H
variable {a b : Expr} {ta tb : TE} {pos : Pos}
def PC (X : Cx) (op : CmpOp) (a b : Expr) (t : TE) : Prop :=
  ∀ (pins : List (Addr × Obj)) (s : Shared) (σ : St) (H : Hp) (Q : VK), Inv X pins σ H s -> t σ H Q ->
    wpAny (model X.prog X.w) X.A (eval a X.env) (fun v s₁ => wpAny (model X.prog X.w) X.A (eval b X.env) (fun u s₂ => wpAny (model X.prog X.w) X.A (compareOp op v u) (EP X pins σ Q) X.xe s₂) X.xe s₁) X.xe s
theorem z7h (b : Expr) {op : CmpOp} (h : op ≠ .In) (h2 : op ≠ .NotIn) : behindInMarks op b = false := by
  have e1 : (op == CmpOp.In) = false := by cases op <;> first | rfl | exact absurd rfl h
  have e2 : (op == CmpOp.NotIn) = false := by cases op <;> first | rfl | exact absurd rfl h2
  cases b <;> simp [behindInMarks, e1, e2]
def z9r (p : Int -> Int -> Bool) (ta tb : TE) : TE := fun σ H Q => t2I ta tb (fun i j H2 => Q (.bl (p i j)) H2) σ H
abbrev tLt : TE -> TE -> TE := z9r fun i j => decide (i < j)
abbrev tLe : TE -> TE -> TE := z9r fun i j => decide (i <= j)
abbrev tGt : TE -> TE -> TE := z9r fun i j => decide (j < i)
abbrev tGe : TE -> TE -> TE := z9r fun i j => decide (j <= i)
abbrev zDz : TE -> TE -> TE := z9r fun i j => decide (i = j)
abbrev zE0 : TE -> TE -> TE := z9r fun i j => !decide (i = j)
def zE1 (ta : TE) : TE := fun σ H Q => ta σ H fun x H1 => Q (.bl (decide (x = .non))) H1
def zD8 (ta : TE) : TE := fun σ H Q => ta σ H fun x H1 => Q (.bl (!decide (x = .non))) H1
def tB (t : TE) : TT := fun σ H Q => t σ H fun x H1 => ∃ c, x = .bl c /\ Q c H1
theorem z8Y {op : CmpOp} {t : TE} (h : PC X op a b t) (h1 : behindInMarks op b = false := by first | exact z7h _ (by decide) (by decide) | rfl) : PT X (.Compare a [op] [b] pos) (tB t) := by
  intro pins s σ H Q I hw
  refine wpAny_isTrue_Compare1 (thn (h pins s σ H _ I hw) fun v s1 h1 => thn h1 fun u s2 h2 => thn h2 fun c s3 ⟨x, H1, I1, r1, q1⟩ => ?_) h1
  obtain ⟨d, rfl, q⟩ := q1
  cases r1
  exact wpAny_truthy_bool ⟨H1, I1, q⟩
theorem z0g {e : Expr} {t : TE} (h : PE X e t) (he : ∀ whole, isTrue e X.env whole = (do let v <- whole; standAt e.pos; holding [v] (truthy v)) := by intro _; rfl) : PT X e (tB t) := by
  intro pins s σ H Q I hw
  refine isTrue_plain (thn (h pins s σ H _ I hw) fun v s1 ⟨x, H1, I1, r1, q1⟩ => ?_) (he _)
  obtain ⟨d, rfl, q⟩ := q1
  cases r1
  exact wpAny_truthy_bool ⟨H1, I1, q⟩
variable {tA tB' : TT} {rest : List Expr}
def zD9 (t u : TT) : TT := fun σ H Q => t σ H fun c H1 => if c = true then u σ H1 Q else Q false H1
def tOr (t u : TT) : TT := fun σ H Q => t σ H fun c H1 => if c = true then Q true H1 else u σ H1 Q
def zDA (t : TT) : TT := fun σ H Q => t σ H fun c H1 => Q (!c) H1
theorem z3C (ha : PT X a tA) : PW X (.BoolOp .And [a] pos) tA := by
  intro wh pins s σ H Q I h
  refine isTrue_and (thn (ha pins s σ H Q I h) fun c s1 e => ?_)
  cases c with
  | true => exact isTrue_and_nil e
  | false => exact e
theorem z1Y (ha : PT X a tA) : PW X (.BoolOp .Or [a] pos) tA := by
  intro wh pins s σ H Q I h
  refine isTrue_or (thn (ha pins s σ H Q I h) fun c s1 e => ?_)
  cases c with
  | false => exact isTrue_or_nil e
  | true => exact e
theorem z4l (ha : PT X a tA) (hb : PW X (.BoolOp .And (b :: rest) pos) tB') : PW X (.BoolOp .And (a :: b :: rest) pos) (zD9 tA tB') := by
  intro wh pins s σ H Q I h
  refine isTrue_and (thn (ha pins s σ H _ I h) fun c s1 ⟨H1, I1, q1⟩ => ?_)
  cases c with
  | true => exact hb wh pins s1 σ H1 Q I1 q1
  | false => exact ⟨H1, I1, q1⟩
theorem z2E (ha : PT X a tA) (hb : PW X (.BoolOp .Or (b :: rest) pos) tB') : PW X (.BoolOp .Or (a :: b :: rest) pos) (tOr tA tB') := by
  intro wh pins s σ H Q I h
  refine isTrue_or (thn (ha pins s σ H _ I h) fun c s1 ⟨H1, I1, q1⟩ => ?_)
  cases c with
  | true => exact ⟨H1, I1, q1⟩
  | false => exact hb wh pins s1 σ H1 Q I1 q1
theorem z0n (ha : PT X a tA) : PT X (.UnaryOp .Not a pos) (zDA tA) := by
  intro pins s σ H Q I h
  exact isTrue_not (ha pins s σ H (fun c H1 => Q (!c) H1) I h)
def zBB (ta tb : TE) : TE := fun σ H Q => ta σ H fun x H1 => ∃ c, x = .bl c /\ if c = true then tb σ H1 Q else Q (.bl false) H1
def zDB (ta tb : TE) : TE := fun σ H Q => ta σ H fun x H1 => ∃ c, x = .bl c /\ if c = true then Q (.bl true) H1 else tb σ H1 Q
def zBC (ta : TE) : TE := fun σ H Q => ta σ H fun x H1 => ∃ c, x = .bl c /\ Q (.bl (!c)) H1
theorem z2C {op} {t : TE} (h : PE X a t) : PE X (.BoolOp op [a] pos) t := fun pins s σ H Q I hw => BoolOp_one (h pins s σ H Q I hw)
theorem z2U (ha : PE X a ta) (hb : PE X (.BoolOp .And (b :: rest) pos) tb) : PE X (.BoolOp .And (a :: b :: rest) pos) (zBB ta tb) := by
  intro pins s σ H Q I h
  refine BoolOp_and (thn (ha pins s σ H _ I h) fun v s1 ⟨x, H1, I1, r1, q1⟩ => ?_)
  obtain ⟨c, rfl, q1⟩ := q1
  cases r1
  refine wpAny_truthy_bool ?_
  cases c with
  | true => exact hb pins s1 σ H1 Q I1 q1
  | false => exact ⟨.bl false, H1, I1, rfl, q1⟩
theorem zBD (ha : PE X a ta) (hb : PE X (.BoolOp .Or (b :: rest) pos) tb) : PE X (.BoolOp .Or (a :: b :: rest) pos) (zDB ta tb) := by
  intro pins s σ H Q I h
  refine BoolOp_or (thn (ha pins s σ H _ I h) fun v s1 ⟨x, H1, I1, r1, q1⟩ => ?_)
  obtain ⟨c, rfl, q1⟩ := q1
  cases r1
  refine wpAny_truthy_bool ?_
  cases c with
  | false => exact hb pins s1 σ H1 Q I1 q1
  | true => exact ⟨.bl true, H1, I1, rfl, q1⟩
theorem z8Z (ha : PE X a ta) : PE X (.UnaryOp .Not a pos) (zBC ta) := by
  intro pins s σ H Q I h
  refine UnaryOp_ (thn (ha pins s σ H _ I h) fun v s1 ⟨x, H1, I1, r1, q1⟩ => ?_)
  obtain ⟨c, rfl, q1⟩ := q1
  cases r1
  exact not_of (wpAny_truthy_bool ⟨.bl (!c), H1, I1, rfl, q1⟩)
def tIf (t : TT) (ta tb : TE) : TE := fun σ H Q => t σ H fun c H1 => if c = true then ta σ H1 Q else tb σ H1 Q
theorem z7i {c : Expr} (hc : PT X c tA) (ha : PE X a ta) (hb : PE X b tb) : PE X (.IfExp c a b pos) (tIf tA ta tb) := by
  intro pins s σ H Q I h
  refine wpAny_IfExp (thn (hc pins s σ H _ I h) fun d s1 ⟨H1, I1, q1⟩ => ?_)
  cases d with
  | true => exact ha pins s1 σ H1 Q I1 q1
  | false => exact hb pins s1 σ H1 Q I1 q1
end
def SqL (K : PySem.W.Frag) (H : Hp) (a : Addr) (xs : List V) : Prop :=
  Rd H a (.lst xs) \/
    ∃ (o : Obj) (its : Array Value) (n : Nat), K.lookup a = some o /\ o.cls = .type "list" /\ o.dict = none /\ o.data = .seq its n /\ its.size <= sizeLine /\ Vals xs its.toList
def SqT (K : PySem.W.Frag) (H : Hp) (a : Addr) (xs : List V) : Prop :=
  Rd H a (.tup xs) \/
    ∃ (o : Obj) (its : Array Value) (n : Nat), K.lookup a = some o /\ o.cls = .type "tuple" /\ o.data = .seq its n /\ its.size <= sizeLine /\ Vals xs its.toList
def zDC : Value -> Option V
  | .none => some .non
  | .bool b => some (.bl b)
  | .int i _ => some (.int i)
  | .str x _ => some (.str x)
  | .bytes b _ => some (.byt b)
  | .float b _ => some (.flt b)
  | .ref a => some (.ref a)
  | .type n => some (.ty n)
  | _ => none
theorem RelV.abs {x : V} {u : Value} (r : RelV x u) : zDC u = some x := by
  cases x with
  | non => cases r; rfl
  | bl _ => cases r; rfl
  | int _ => obtain ⟨t, rfl⟩ := r; rfl
  | str _ => obtain ⟨t, rfl⟩ := r; rfl
  | byt _ => obtain ⟨t, rfl⟩ := r; rfl
  | flt _ => obtain ⟨t, rfl⟩ := r; rfl
  | ref _ => cases r; rfl
  | ty _ => cases r; rfl
theorem RelV.inj {x y : V} {u : Value} (r : RelV x u) (q : RelV y u) : x = y := Option.some.inj (r.abs.symm.trans q.abs)
theorem Vals.inj : ∀ {xs ys : List V} {us : List Value}, Vals xs us -> Vals ys us -> xs = ys
  | _, _, _, .nil, .nil => rfl
  | _, _, _, .cons r t, .cons r' t' => by rw [r.inj r', Vals.inj t t']
section
variable {X : Cx} {pins : List (Addr × Obj)} {σ : St} {H : Hp} {s : Shared} {a : Addr} {xs ys : List V}
theorem SqL.of {K : PySem.W.Frag} (h : H a = some (.lst xs)) : SqL K H a xs := .inl (.inl h)
theorem SqT.of {K : PySem.W.Frag} (h : H a = some (.tup xs)) : SqT K H a xs := .inl (.inl h)
theorem Inv.list (I : Inv X pins σ H s) (h : SqL X.K H a xs) : ∃ its : List Value, Vals xs its /\ PlainL s.heap a its.toArray /\ xs.length <= sizeLine := by
  rcases h with h | ⟨o, its, n, hk, hc, hd, hs, hz, r⟩
  . obtain ⟨z, its, n, r, e⟩ := h.ok I.hok
    exact ⟨its, r, ⟨_, n, e, rfl, rfl, rfl⟩, z⟩
  . refine ⟨its.toList, r, ⟨o, n, I.kIn a o hk, hc, hd, by simpa using hs⟩, ?_⟩
    have e := r.length
    simp only [Array.length_toList] at e
    omega
theorem Inv.tuple (I : Inv X pins σ H s) (h : SqT X.K H a xs) : ∃ its : List Value, Vals xs its /\ IsTup s.heap a its.toArray /\ xs.length <= sizeLine := by
  rcases h with h | ⟨o, its, n, hk, hc, hs, hz, r⟩
  . obtain ⟨z, its, r, p⟩ := h.ok I.hok
    exact ⟨its, r, p, z⟩
  . refine ⟨its.toList, r, ⟨o, I.kIn a o hk, hc, n, by simpa using hs⟩, ?_⟩
    have e := r.length
    simp only [Array.length_toList] at e
    omega
theorem Inv.list_inj (I : Inv X pins σ H s) (h : SqL X.K H a xs) (h' : SqL X.K H a ys) : xs = ys := by
  obtain ⟨its, r, ⟨o, n, e, _, _, d⟩, _⟩ := I.list h
  obtain ⟨its', r', ⟨o', n', e', _, _, d'⟩, _⟩ := I.list h'
  rw [e] at e'; cases e'
  rw [d] at d'
  injection d' with d1 _
  have : its = its' := by simpa using congrArg Array.toList d1
  subst this
  exact r.inj r'
end
abbrev Cx.wish (X : Cx) (E : Value -> Shared -> Prop) : Cx := { X with xe := E }
abbrev Cx.nox (X : Cx) : Cx := X.wish fun _ _ => False
theorem Cx.Ok.wish {X : Cx} (ok : X.Ok) (E : Value -> Shared -> Prop) : (X.wish E).Ok :=
  ⟨ok.mod, ok.kind, ok.glob, ok.blt, ok.above, ok.inj, ok.has, ok.cab, ok.hd, ok.frames, ok.stk, ok.exf, ok.bs, ok.bsz, ok.noex, ok.exfs, ok.funs, ok.frf⟩
theorem Cx.Ok.unwish {X : Cx} {E : Value -> Shared -> Prop} (ok : (X.wish E).Ok) : X.Ok :=
  ⟨ok.mod, ok.kind, ok.glob, ok.blt, ok.above, ok.inj, ok.has, ok.cab, ok.hd, ok.frames, ok.stk, ok.exf, ok.bs, ok.bsz, ok.noex, ok.exfs, ok.funs, ok.frf⟩
section
variable {X : Cx} {pins : List (Addr × Obj)} {σ : St} {H : Hp} {s : Shared} {E : Value -> Shared -> Prop}
theorem Inv.wish (I : Inv X pins σ H s) (E : Value -> Shared -> Prop) : Inv (X.wish E) pins σ H s := ⟨I.ok.wish E, I.os, I.bare, I.base, I.loc, I.cell, I.free, I.freeC, I.pin, I.hok, I.len⟩
theorem Inv.unwish (I : Inv (X.wish E) pins σ H s) : Inv X pins σ H s := ⟨I.ok.unwish, I.os, I.bare, I.base, I.loc, I.cell, I.free, I.freeC, I.pin, I.hok, I.len⟩
theorem SP.unwish {D : Ends} {f : Flow} {s' : Shared} (h : SP (X.wish E) pins D f s') : SP X pins D f s' := by
  cases f with
  | next => obtain ⟨σ', H', I, q⟩ := h; exact ⟨σ', H', I.unwish, q⟩
  | brk => obtain ⟨σ', H', I, q⟩ := h; exact ⟨σ', H', I.unwish, q⟩
  | cont => obtain ⟨σ', H', I, q⟩ := h; exact ⟨σ', H', I.unwish, q⟩
  | ret u => obtain ⟨v, σ', H', I, r, q⟩ := h; exact ⟨v, σ', H', I.unwish, r, q⟩
theorem PE.nox {e : Expr} {t : TE} (h : PE X.nox e t) : PE X e t := fun pins s σ H Q I hw =>
  wpAny_mono (h pins s σ H Q (I.wish _) hw) (fun _ _ ⟨v, H', I', r, q⟩ => ⟨v, H', I'.unwish, r, q⟩) fun _ _ z => False.elim z
theorem PT.nox {e : Expr} {t : TT} (h : PT X.nox e t) : PT X e t := fun pins s σ H Q I hw =>
  wpAny_mono (h pins s σ H Q (I.wish _) hw) (fun _ _ ⟨H', I', q⟩ => ⟨H', I'.unwish, q⟩) fun _ _ z => False.elim z
theorem PSs.nox {st : List Stmt} {t : TS} (h : PSs X.nox st t) : PSs X st t := fun pins s σ H D I hw =>
  wpAny_mono (h pins s σ H D (I.wish _) hw) (fun _ _ q => q.unwish) fun _ _ z => False.elim z
end
section
variable {X : Cx} {st : Stmt} {rest : List Stmt} {t u : TS} {e : Expr} {te : TE} {pos : Pos}
def zBE : TS := fun D σ H => D.nx σ H
def zDD (t u : TS) : TS := fun D σ H => t { D with nx := u D } σ H
theorem z0G : PSs X [] zBE := fun _ _ σ H _ I h => wpAny_execs_nil ⟨σ, H, I, h⟩
theorem z02 (h1 : PS X st t) (h2 : PSs X rest u) : PSs X (st :: rest) (zDD t u) := by
  intro pins s σ H D I h
  refine wpAny_execs_cons (thn (h1 pins s σ H { D with nx := u D } I h) fun f s1 q => ?_)
  cases f with
  | next =>
    obtain ⟨σ', H', I', q⟩ := q
    exact h2 pins s1 σ' H' D I' q
  | ret v => exact q
  | brk => exact q
  | cont => exact q
theorem z07 (h1 : PS X st t) : PSs X [st] t := by
  intro pins s σ H D I h
  refine wpAny_execs_cons (thn (h1 pins s σ H D I h) fun f s1 q => ?_)
  cases f with
  | next => exact wpAny_execs_nil q
  | ret v => exact q
  | brk => exact q
  | cont => exact q
def zCI : TS := fun D σ H => D.bk σ H
def zDE : TS := fun D σ H => D.ct σ H
theorem Inv.quiet {pins : List (Addr × Obj)} {σ : St} {H : Hp} {s : Shared} (I : Inv X pins σ H s) : interactive X.env = false := by simp [interactive, I.ok.kind]
def zBF (te : TE) : TS := fun D σ H => te σ H fun _ H1 => D.nx σ H1
theorem z1L (he : PE X e te) (hs : swapsWith e none pos.line X.env = pure false := by rfl) : PS X (.Expr e pos) (zBF te) := by
  intro pins s σ H D I h
  exact wpAny_Expr_any (thn (he pins s σ H _ I h) fun v s1 ⟨x, H1, I1, r1, q1⟩ => ⟨σ, H1, I1, q1⟩) I.quiet hs
def zDF (te : TE) : TS := fun D σ H => te σ H D.rt
theorem z0H (he : PE X e te) : PS X (.Return (some e) pos) (zDF te) := by
  intro pins s σ H D I h
  exact wpAny_Return_some (thn (he pins s σ H _ I h) fun v s1 ⟨x, H1, I1, r1, q1⟩ => ⟨x, σ, H1, I1, r1, q1⟩)
def zDG : TS := fun D _ H => D.rt .non H
def zDH (c : TT) (t u : TS) : TS := fun D σ H => c σ H fun b H1 => if b = true then t D σ H1 else u D σ H1
theorem z0W {c : Expr} {a b : List Stmt} {tc : TT} (hc : PT X c tc) (ha : PSs X a t) (hb : PSs X b u) : PS X (.If c a b pos) (zDH tc t u) := by
  intro pins s σ H D I h
  refine wpAny_If (thn (hc pins s σ H _ I h) fun d s1 ⟨H1, I1, q1⟩ => ?_)
  cases d with
  | true => exact ha pins s1 σ H1 D I1 q1
  | false => exact hb pins s1 σ H1 D I1 q1
def zCJ : TS := fun _ _ _ => False
end
abbrev TG := V -> St -> Hp -> (St -> Hp -> Prop) -> Prop
abbrev TGs := List V -> St -> Hp -> (St -> Hp -> Prop) -> Prop
def PG (X : Cx) (target : Expr) (t : TG) : Prop :=
  ∀ (pins : List (Addr × Obj)) (s : Shared) (σ : St) (H : Hp) (v : V) (u : Value) (Q : St -> Hp -> Prop), Inv X pins σ H s -> RelV v u -> t v σ H Q ->
    wpAny (model X.prog X.w) X.A (assign target X.env u) (fun _ s' => ∃ σ' H', Inv X pins σ' H' s' /\ Q σ' H') X.xe s
def PGs (X : Cx) (ts : List Expr) (t : TGs) : Prop :=
  ∀ (pins : List (Addr × Obj)) (s : Shared) (σ : St) (H : Hp) (vs : List V) (us : List Value) (Q : St -> Hp -> Prop), Inv X pins σ H s -> Vals vs us -> t vs σ H Q ->
    wpAny (model X.prog X.w) X.A (assignInOrder ((assignEach ts X.env).map (·.2)) us) (fun _ s' => ∃ σ' H', Inv X pins σ' H' s' /\ Q σ' H') X.xe s
abbrev zAp := V -> V -> V -> Hp -> (Hp -> Prop) -> Prop
def zCK (X : Cx) (t : zAp) : Prop :=
  ∀ (pins : List (Addr × Obj)) (s : Shared) (σ : St) (H : Hp) (o i v : V) (ov iv u : Value) (Q : Hp -> Prop), Inv X pins σ H s -> RelV o ov -> RelV i iv -> RelV v u -> t o i v H Q ->
    wpAny (model X.prog X.w) X.A (setItem ov iv u) (fun _ s' => ∃ H', Inv X pins σ H' s' /\ Q H') X.xe s
abbrev TIp := V -> V -> Hp -> VK -> Prop
def PIp (X : Cx) (op : Operator) (t : TIp) : Prop :=
  ∀ (pins : List (Addr × Obj)) (s : Shared) (σ : St) (H : Hp) (x y : V) (v u : Value) (Q : VK), Inv X pins σ H s -> RelV x v -> RelV y u -> t x y H Q ->
    wpAny (model X.prog X.w) X.A (inplaceOp op v u) (EP X pins σ Q) X.xe s
section
variable {X : Cx} {pos : Pos}
def zA3 (i : Nat) : TG := fun v σ H Q => Q (σ.set i (some v)) H
theorem z0N {i : Nat} {x : Str} (hN : X.N.Nodup) (hi : X.N[i]? = some x) (hx : Loc X.env.scope x) (hf : X.fn x = true \/ X.env.scope.names.lookup x = some .local := by first | exact .inl rfl | exact .inr rfl | assumption) : PG X (.Name x pos) (zA3 i) := by
  intro pins s σ H v u Q I r h
  exact wpAny_assign_Name (z2I I hN hi hx r (fun s' I' => ⟨_, H, I', h⟩) hf)
def zDI : TGs := fun vs σ H Q => vs = [] /\ Q σ H
def zBG (t : TG) (u : TGs) : TGs := fun vs σ H Q => ∃ v r, vs = v :: r /\ t v σ H fun σ' H' => u r σ' H' Q
theorem z4H : PGs X [] zDI := by
  intro pins s σ H vs us Q I r h
  obtain ⟨e, h⟩ := h
  subst e
  cases r
  exact assignInOrder_nil ⟨σ, H, I, h⟩
theorem z1h {e : Expr} {es : List Expr} {t : TG} {u : TGs} (h1 : PG X e t) (h2 : PGs X es u)
    (hs : (assignEach (e :: es) X.env).map (·.2) = assign e X.env :: (assignEach es X.env).map (·.2) := by rfl) : PGs X (e :: es) (zBG t u) := by
  intro pins s σ H vs us Q I r h
  obtain ⟨v, vr, e1, h⟩ := h
  subst e1
  cases r with
  | cons r rr =>
    rw [hs]
    refine assignInOrder_cons (thn (h1 pins s σ H _ _ _ I r h) fun _ s1 ⟨σ1, H1, I1, q1⟩ => ?_)
    exact h2 pins s1 σ1 H1 _ _ Q I1 rr q1
def zCL (K : PySem.W.Frag) (n : Nat) (t : TGs) : TG := fun v σ H Q => ∃ a xs, v = .ref a /\ SqT K H a xs /\ xs.length = n /\ t xs σ H Q
theorem z68 {es : List Expr} {k : Nat} {t : TGs} {n : Nat} (hc : X.calm = true) (h : PGs X es t)
    (hn : (assignEach es X.env).length = n := by rfl) (hst : (assignEach es X.env).findIdx? (·.1) = none := by rfl) : PG X (.Tuple es k pos) (zCL X.K n t) := by
  intro pins s σ H v u Q I r hw
  obtain ⟨a, xs, e1, hq, hl, hw⟩ := hw
  subst e1
  cases r
  obtain ⟨its, rv, ht, hz⟩ := I.tuple hq
  refine assign_Tuple_tuple (I.ok.hd hc) ht (by simp [hn, <- hl, rv.length]) hst fun h' hx => ?_
  have I1 : Inv X pins σ H { s with heap := h' } := I.kept (t' := s.toks) fun b o e => hx b o (Nat.ne_of_lt (Heap.lt_size e)) e
  exact h pins _ σ H xs _ Q I1 (by simpa using rv) hw
def zDJ (to ti : TE) (t : zAp) : TG := fun v σ H Q => to σ H fun o H1 => ti σ H1 fun i H2 => t o i v H2 fun H3 => Q σ H3
theorem z8a {o i : Expr} {to ti : TE} {t : zAp} (ho : PE X o to) (hi : PE X i ti) (hs : zCK X t)
    (ha : ∀ v, assign (.Subscript o i pos) X.env v = (do
      let ov <- holding [v] (eval o X.env)
      let iv <- holding [v, ov] (eval i X.env)
      standAt pos
      holding [v, ov, iv] (setItem ov iv v)
      release [v, ov, iv] []) := by intro _; rfl) : PG X (.Subscript o i pos) (zDJ to ti t) := by
  intro pins s σ H v u Q I r h
  rw [ha]
  refine wpAny_bind (wpAny_holding (thn (ho pins s σ H _ I h) fun ov s1 ⟨x, H1, I1, r1, q1⟩ => ?_))
  refine wpAny_bind (wpAny_holding (thn (hi pins s1 σ H1 _ I1 q1) fun iv s2 ⟨y, H2, I2, r2, q2⟩ => ?_))
  refine wpAny_bind (wpAny_standAt (wpAny_bind (wpAny_holding (thn (hs pins s2 σ H2 x y v ov iv u _ I2 r1 r2 r q2) fun _ s3 ⟨H3, I3, q3⟩ => ?_))))
  exact wpAny_release ⟨σ, H3, I3, q3⟩
def zCM (te : TE) (g : TG) : TS := fun D σ H => te σ H fun x H1 => g x σ H1 D.nx
theorem z8b {tg e : Expr} {te : TE} {g : TG} (he : PE X e te) (hg : PG X tg g) (hs : swapsWithSole [tg] e pos.line X.env = pure false := by rfl) (hw : swappedStores [tg] e X.env = pure none := by rfl)
    (h1 : (assignEach [tg] X.env).map (·.2) = [assign tg X.env] := by rfl) : PS X (.Assign [tg] e pos) (zCM te g) := by
  intro pins s σ H D I h
  refine wpAny_Assign_stores (thn (he pins s σ H _ I h) fun v s1 ⟨x, H1, I1, r1, q1⟩ => ?_) hs hw
  rw [h1]
  exact thn (hg pins s1 σ H1 x v _ I1 r1 q1) fun _ s2 q => q
theorem z0B {i : Nat} {x : Str} {e : Expr} {te : TE} {pos' : Pos} (hN : X.N.Nodup) (hi : X.N[i]? = some x) (hx : Loc X.env.scope x) (he : PE X e te) (hs : swapsWith e (some (.Name x pos')) pos.line X.env = pure false := by rfl) (hf : X.fn x = true \/ X.env.scope.names.lookup x = some .local := by first | exact .inl rfl | exact .inr rfl | assumption) :
    PS X (.Assign [.Name x pos'] e pos) (zCM te (zA3 i)) := by
  intro pins s σ H D I h
  refine wpAny_Assign_Name (thn (he pins s σ H _ I h) fun v s1 ⟨y, H1, I1, r1, q1⟩ => ?_) hs
  exact z2I I1 hN hi hx r1 (fun s2 I2 => ⟨_, H1, I2, q1⟩) hf
def zE2 (i j : Nat) (ta : TA) : TS := fun D σ H => ta σ H fun vs H1 => ∃ v w, vs = [v, w] /\ D.nx ((σ.set i (some v)).set j (some w)) H1
def zE3 (i : Nat) (te : TE) (ti : TIp) : TS := fun D σ H => ∃ x, σ[i]? = some (some x) /\ te σ H fun y H1 => ti x y H1 fun z H2 => D.nx (σ.set i (some z)) H2
def zDK (to ti te : TE) (tget : V -> V -> Hp -> VK -> Prop) (tip : TIp) (tset : zAp) : TS := fun D σ H => to σ H fun o H1 => ti σ H1 fun i H2 => tget o i H2 fun x H3 => te σ H3 fun y H4 => tip x y H4 fun z H5 => tset o i z H5 fun H6 => D.nx σ H6
def zE4 (X : Cx) (t : V -> V -> Hp -> VK -> Prop) : Prop :=
  ∀ (pins : List (Addr × Obj)) (s : Shared) (σ : St) (H : Hp) (o i : V) (ov iv : Value) (Q : VK), Inv X pins σ H s -> RelV o ov -> RelV i iv -> t o i H Q ->
    wpAny (model X.prog X.w) X.A (getItem ov iv) (EP X pins σ Q) X.xe s
def ipI (f : Int -> Int -> Int) : TIp := fun x y H Q => ∃ i j, x = .int i /\ y = .int j /\ Q (.int (f i j)) H
end
section
variable {X : Cx} {pos : Pos}
def zCN (c : TT) (tb : TS) : TS := fun D σ H => ∃ W : Nat -> St -> Hp -> Prop, (∃ m, W m σ H) /\ ∀ m σ H, W m σ H ->
  c σ H fun b H1 => if b = true then ∃ N : St -> Hp -> Prop, (∀ σ' H', N σ' H' -> ∃ m', m' < m /\ W m' σ' H') /\ tb { D with nx := N, ct := N, bk := D.nx } σ H1 else D.nx σ H1
end
structure It where
  go : Nat -> Hp -> Prop
  yld : Nat -> Hp -> V -> Hp -> Prop
  stop : Nat -> Hp -> Prop
def z63 (X : Cx) (pins : List (Addr × Obj)) (H : Hp) (b : Addr) : Prop :=
  H b = none /\ b ≠ X.env.locals /\ b ∉ X.fs /\ (b ∈ X.ex \/ X.s₀.heap.objs.size <= b) /\ (∀ x c, X.env.cells.lookup x = some c -> c ≠ b) /\ ∀ p ∈ X.pn ++ pins, p.1 ≠ b
theorem Inv.fpOk {X : Cx} {pins : List (Addr × Obj)} {σ : St} {H H' : Hp} {s : Shared} {b : Addr} (I : Inv X pins σ H s) (hb : s.heap.objs.size <= b) (hn : H' b = none) : z63 X pins H' b := by
  refine ⟨hn, Nat.ne_of_gt (Nat.lt_of_lt_of_le I.lt hb), I.nofs hb, .inr (Nat.le_trans I.sz hb), fun x c e z => ?_, fun p hp z => ?_⟩
  . obtain ⟨v, q⟩ := I.cell x c e
    exact absurd (Nat.lt_of_lt_of_le q.lt (by rw [z]; exact hb)) (Nat.lt_irrefl _)
  . exact absurd (Nat.lt_of_lt_of_le (Heap.lt_size (I.pin p hp).1) (by rw [z]; exact hb)) (Nat.lt_irrefl _)
structure Turn (P : Program) (w : World) (K : PySem.W.Frag) (tg : Expr) (J : It) (fp : List Addr) (it : Addr) (tn : Nat -> Heap -> Prop) : Prop where
  mem : it ∈ fp
  obj : ∀ i h, tn i h -> ∀ b ∈ fp, ∃ o, h.get? b = some o /\ ∀ v, o.data ≠ .cell v
  keep : ∀ i h h', tn i h -> (∀ b ∈ fp, ∀ o, h.get? b = some o -> h'.get? b = some o) -> tn i h'
  item : ∀ (X : Cx), X.prog = P -> X.w = w -> X.K = K -> X.calm = true -> ∀ (i : Nat) (pins : List (Addr × Obj)) (s : Shared) (σ : St) (H : Hp) (E : Value -> Shared -> Prop), Inv X pins σ H s -> (∀ b ∈ fp, z63 X pins H b) -> tn i s.heap -> J.go i H ->
    wpAny (model P w) X.A (pyNext (.ref it)) (fun r s1 => ∃ u, r = some u /\
      wpAny (model P w) X.A (letOwnedTupleGo tg (.ref it) u) (fun _ s2 => ∃ x H', Inv X pins σ H' s2 /\ RelV x u /\ J.yld i H x H' /\ tn (i + 1) s2.heap /\ ∀ b ∈ fp, H' b = none) E s1) E s
  done : ∀ (X : Cx), X.prog = P -> X.w = w -> X.K = K -> X.calm = true -> ∀ (i : Nat) (pins : List (Addr × Obj)) (s : Shared) (σ : St) (H : Hp) (E : Value -> Shared -> Prop), Inv X pins σ H s -> (∀ b ∈ fp, z63 X pins H b) -> tn i s.heap -> J.stop i H ->
    wpAny (model P w) X.A (pyNext (.ref it)) (fun r s1 => r = none /\ Inv X pins σ H s1) E s
  self : ∀ (A : Around) (i : Nat) (s : Shared) (Q : Value -> Shared -> Prop) (E : Value -> Shared -> Prop), tn i s.heap -> Q (.ref it) s -> wpAny (model P w) A (pyIter (.ref it)) Q E s
abbrev TI := St -> Hp -> (It -> Hp -> Prop) -> Prop
def PIE (X : Cx) (pins : List (Addr × Obj)) (σ : St) (tg : Expr) (R : It -> Hp -> Prop) (itv : Value) (s2 : Shared) : Prop :=
  ∃ (it : Addr) (fp : List Addr) (tn : Nat -> Heap -> Prop) (J : It) (H' : Hp), itv = .ref it /\ Inv X pins σ H' s2 /\ Turn X.prog X.w X.K tg J fp it tn /\ tn 0 s2.heap /\ (∀ b ∈ fp, z63 X pins H' b) /\ R J H'
def PI (X : Cx) (tg iter : Expr) (wi : TI) : Prop :=
  ∀ (pins : List (Addr × Obj)) (s : Shared) (σ : St) (H : Hp) (R : It -> Hp -> Prop), Inv X pins σ H s -> wi σ H R ->
    wpAny (model X.prog X.w) X.A (eval iter X.env) (fun v s1 => wpAny (model X.prog X.w) X.A (pyIter v) (PIE X pins σ tg R) X.xe s1) X.xe s
theorem z5I {M : Model} {A : Around} {E : Value -> Shared -> Prop} {s : Shared} {tg : Expr} {it : Addr} {u : Value} {o : Obj} {n : String} {vs : Array Value} {Q : Unit -> Shared -> Prop} (ho : s.heap.get? it = some o) (hc : o.cls = .type n) (hd : o.data = .fields vs)
    (hn : ["enumerate", "zip", "dict_itemiterator", "dict_reverseitemiterator", "odict_iterator", "itertools.zip_longest", "itertools.pairwise"].contains n = false) (hQ : Q () s) : wpAny M A (letOwnedTupleGo tg (.ref it) u) Q E s := by
  unfold letOwnedTupleGo
  cases tg <;> first
    | exact wpAny_pure hQ
    | (cases u <;> first
        | exact wpAny_pure hQ
        | (refine wpAny_bind (wpAny_load ho ?_)
           rw [hc, hd]
           show wpAny M A (if (["enumerate", "zip", "dict_itemiterator", "dict_reverseitemiterator", "odict_iterator", "itertools.zip_longest", "itertools.pairwise"].contains n && vs[0]? == some (rawInt _)) = true then _ else _) Q E s
           rw [if_neg (by intro h; rw [hn, Bool.false_and] at h; cases h)]
           exact wpAny_pure hQ))
def Itl (K : PySem.W.Frag) (a : Addr) : It :=
  ⟨fun i H => ∃ xs x, SqL K H a xs /\ xs[i]? = some x, fun i H x H' => H' = H /\ ∀ xs, SqL K H a xs -> xs[i]? = some x, fun i H => ∃ xs, SqL K H a xs /\ xs.length <= i⟩
def Itt (K : PySem.W.Frag) (a : Addr) : It :=
  ⟨fun i H => ∃ xs x, SqT K H a xs /\ xs[i]? = some x, fun i H x H' => H' = H /\ ∀ xs, SqT K H a xs -> xs[i]? = some x, fun i H => ∃ xs, SqT K H a xs /\ xs.length <= i⟩
def Itr (lo : Int) (n : Nat) : It := ⟨fun i _ => i < n, fun i H x H' => H' = H /\ x = .int (lo + i), fun i _ => n <= i⟩
theorem z69 {P : Program} {w : World} {K : PySem.W.Frag} {tg : Expr} (a it : Addr) : Turn P w K tg (Itl K a) [it] it (fun i h => h.IsListIter it a i) where
  mem := by simp
  obj := fun i h st b hb => by
    have e : b = it := by simpa using hb
    subst e
    obtain ⟨o, e, c, d⟩ := st
    exact ⟨o, e, fun v z => by rw [d] at z; cases z⟩
  keep := fun i h h' st k => st.at fun o e => k it (by simp) o e
  item := by
    intro X hP hw hK hc i pins s σ H E I hf st hg
    subst hP hw hK
    obtain ⟨xs, x, hq, hx⟩ := hg
    obtain ⟨its, rv, p, hz⟩ := I.list hq
    obtain ⟨u, hu, ru⟩ := rv.get hx
    obtain ⟨f0, f1, f2, f3, f4, f5⟩ := hf it (by simp)
    refine wpAny_pyNext_list_item st p.isList (x := u) (by simpa using hu) fun h' st' sb => ?_
    have I1 : Inv X pins σ H { s with heap := h' } := I.turned (t' := s.toks) (fun b o hb e => (sb.2 b hb).trans e) f0 f1 f3 f4 f5
    obtain ⟨o, e, c, d⟩ := id st'
    exact ⟨u, rfl, z5I (s := { s with heap := h' }) e c d (by decide) ⟨x, H, I1, ru, ⟨rfl, fun ys hy => by rw [I.list_inj hy hq]; exact hx⟩, st', fun b hb => (hf b hb).1⟩⟩
  done := by
    intro X hP hw hK hc i pins s σ H E I hf st hg
    subst hP hw hK
    obtain ⟨xs, hq, hx⟩ := hg
    obtain ⟨its, rv, p, hz⟩ := I.list hq
    obtain ⟨f0, f1, f2, f3, f4, f5⟩ := hf it (by simp)
    have hl := rv.length
    exact wpAny_pyNext_list_end (I.ok.hd hc) st p.isList (by simp; omega) fun h' eb => ⟨rfl, I.turned (t' := s.toks) (fun b o hb e => eb b o hb e) f0 f1 f3 f4 f5⟩
  self := fun _ _ _ _ _ st h => wpAny_pyIter_listiter st h
theorem z5J {P : Program} {w : World} {K : PySem.W.Frag} {tg : Expr} (it : Addr) (lo : Int) (n : Nat) : Turn P w K tg (Itr lo n) [it] it (fun i h => IsRangeIter h it (lo + (i : Nat) * 1) ((n : Int) - (i : Nat)) 1) where
  mem := by simp
  obj := fun i h st b hb => by
    have e : b = it := by simpa using hb
    subst e
    exact ⟨_, st, fun v z => by
      have z' : Data.fields _ = Data.cell v := z
      cases z'⟩
  keep := fun i h h' st k => k it (by simp) _ st
  item := by
    intro X hP hw hK hc i pins s σ H E I hf st hg
    subst hP hw hK
    obtain ⟨f0, f1, f2, f3, f4, f5⟩ := hf it (by simp)
    have W := Walks.range (prog := X.prog) (w := X.w) (I.ok.hd hc) it lo 1 n
    refine W.item i s _ _ hg st fun v h' tk hv st' kk => ?_
    obtain ⟨t, rfl⟩ := hv
    have I1 : Inv X pins σ H { s with heap := h', toks := tk } := I.turned (fun b o hb e => kk b o (by simpa using hb) e) f0 f1 f3 f4 f5
    refine ⟨_, rfl, z5I (s := { s with heap := h', toks := tk }) (n := "range_iterator") st' rfl rfl (by decide) ⟨.int (lo + i), H, I1, ⟨t, ?_⟩, ⟨rfl, rfl⟩, st', fun b hb => (hf b hb).1⟩⟩
    rw [Int.mul_one]
  done := by
    intro X hP hw hK hc i pins s σ H E I hf st hg
    subst hP hw hK
    obtain ⟨f0, f1, f2, f3, f4, f5⟩ := hf it (by simp)
    exact wpAny_pyNext_range_end (I.ok.hd hc) st (by have : n <= i := hg; omega) fun h' eb => ⟨rfl, I.turned (t' := s.toks) (fun b o hb e => eb b o hb e) f0 f1 f3 f4 f5⟩
  self := fun _ _ _ _ _ st h => wpAny_pyIter_rangeiter st h
section
variable {X : Cx} {tg : Expr}
def zBH (K : PySem.W.Frag) (tl : TE) : TI := fun σ H R => tl σ H fun x H1 => ∃ a, x = .ref a /\ (∃ xs, SqL K H1 a xs) /\ R (Itl K a) H1
def zE5 (K : PySem.W.Frag) (tl : TE) : TI := fun σ H R => tl σ H fun x H1 => ∃ a, x = .ref a /\ (∃ xs, SqT K H1 a xs) /\ R (Itt K a) H1
theorem z24 {l : Expr} {tl : TE} (hl : PE X l tl) : PI X tg l (zBH X.K tl) := by
  intro pins s σ H R I h
  refine thn (hl pins s σ H _ I h) fun v s1 ⟨x, H1, I1, r1, q1⟩ => ?_
  obtain ⟨a, e, ⟨xs, hq⟩, q⟩ := q1
  subst e
  cases r1
  obtain ⟨its, rv, p, hz⟩ := I1.list hq
  refine wpAny_pyIter_list p.isList ?_
  refine ⟨s1.heap.objs.size, [s1.heap.objs.size], _, _, H1, rfl, I1.kept (t' := s1.toks) fun b o e => Heap.get?_push_of_some _ e, z69 a _, ⟨_, Heap.get?_push_size _ rfl, rfl, rfl⟩, fun b hb => ?_, q⟩
  have e : b = s1.heap.objs.size := by simpa using hb
  subst e
  exact I1.fpOk (Nat.le_refl _) (I1.hok.fresh (Nat.le_refl _))
theorem z7j {pins : List (Addr × Obj)} {σ : St} {H : Hp} {s : Shared} {R : It -> Hp -> Prop} {E : Value -> Shared -> Prop} {lo hi : Int} {t u v : Tok} {tk : Nat} (I : Inv X pins σ H s) (h1 : -(2 ^ 62) <= lo) (h2 : lo < 2 ^ 62) (h3 : -(2 ^ 62) <= hi) (h4 : hi < 2 ^ 62)
    (q : R (Itr lo (hi - lo).toNat) H) : wpAny (model X.prog X.w) X.A (pyIter (.ref s.heap.objs.size)) (PIE X pins σ tg R) E { s with heap := s.heap.push { cls := .type "range", data := .fields #[.int lo t, .int hi u, .int 1 v] }, toks := tk } := by
  refine wpAny_pyIter_range (IsRange.new ..) (small_one h1 h2 h3 h4) ?_
  have I1 : Inv X pins σ H { s with heap := s.heap.push { cls := .type "range", data := .fields #[.int lo t, .int hi u, .int 1 v] }, toks := tk } := I.kept fun b o e => Heap.get?_push_of_some _ e
  refine ⟨(s.heap.push { cls := .type "range", data := .fields #[.int lo t, .int hi u, .int 1 v] }).objs.size, [(s.heap.push { cls := .type "range", data := .fields #[.int lo t, .int hi u, .int 1 v] }).objs.size], _, _, H, rfl,
    I1.kept (t' := tk) fun b o e => Heap.get?_push_of_some _ e, z5J _ lo (hi - lo).toNat, ?_, fun b hb => ?_, q⟩
  . have e1 : lo + ((0 : Nat) : Int) * 1 = lo := by simp
    have e2 : (((hi - lo).toNat : Nat) : Int) - ((0 : Nat) : Int) = Builtin.Range.rangeSize lo hi 1 := by rw [rangeSize_one]; split <;> omega
    show IsRangeIter _ _ (lo + ((0 : Nat) : Int) * 1) ((((hi - lo).toNat : Nat) : Int) - ((0 : Nat) : Int)) 1
    rw [e1, e2]
    exact Heap.get?_push_size _ rfl
  . have e : b = (s.heap.push { cls := .type "range", data := .fields #[.int lo t, .int hi u, .int 1 v] }).objs.size := by simpa using hb
    subst e
    exact I1.fpOk (Nat.le_refl _) (I1.hok.fresh (Nat.le_refl _))
def zBI (ta : TA) : TI := fun σ H R => ta σ H fun vs H1 => ∃ j : Int, vs = [.int j] /\ -(2 ^ 62) <= j /\ j < 2 ^ 62 /\ R (Itr 0 j.toNat) H1
def zDL (ta : TA) : TI := fun σ H R => ta σ H fun vs H1 => ∃ i j : Int, vs = [.int i, .int j] /\ (-(2 ^ 62) <= i /\ i < 2 ^ 62 /\ -(2 ^ 62) <= j /\ j < 2 ^ 62) /\ R (Itr i (j - i).toNat) H1
theorem z0h {a : Expr} {ta : TA} {p pos : Pos} (hg : Gl X "range") (hm : X.mg "range" = none) (ha : PA X [a] ta) (hs : starEach [a] X.env = [(false, eval a X.env)] := by rfl) : PI X tg (.Call (.Name "range" p) [a] [] pos) (zBI ta) := by
  intro pins s σ H R I h
  refine Call_ (z1u I hg hm boot_range (PyProof.Rows.callWith_type1 (thn (ha pos pins s σ H _ I h) fun us s1 ⟨vs, H1, I1, r1, q1⟩ => ?_) hs rfl))
  obtain ⟨j, e, q1, q2, q⟩ := q1
  subst e
  cases r1 with
  | cons r rr =>
    cases rr
    obtain ⟨t, rfl⟩ := r
    exact call_range_1 (z7j I1 (by omega) (by omega) q1 q2 (by simpa using q))
def zDM (wi : TI) (g : TG) (tb : TS) : TS := fun D σ H => wi σ H fun J H1 => ∃ W : Nat -> Nat -> St -> Hp -> Prop, (∃ m, W 0 m σ H1) /\ ∀ i m σ H, W i m σ H ->
  (J.stop i H /\ D.nx σ H) \/ (J.go i H /\ ∃ N : St -> Hp -> Prop, (∀ σ' H', N σ' H' -> ∃ m', m' < m /\ W (i + 1) m' σ' H') /\ ∀ x H', J.yld i H x H' -> g x σ H' fun σ2 H2 => tb { D with nx := N, ct := N, bk := D.nx } σ2 H2)
def z3Y (fp : List Addr) (h : Heap) : List (Addr × Obj) := fp.filterMap fun b => (h.get? b).map fun o => (b, o)
theorem z1i {fp : List Addr} {h : Heap} {b : Addr} {o : Obj} (hb : b ∈ fp) (e : h.get? b = some o) : (b, o) ∈ z3Y fp h := List.mem_filterMap.mpr ⟨b, hb, by rw [e]; rfl⟩
theorem z6A {fp : List Addr} {h : Heap} {p : Addr × Obj} (hp : p ∈ z3Y fp h) : p.1 ∈ fp /\ h.get? p.1 = some p.2 := by
  obtain ⟨b, hb, e⟩ := List.mem_filterMap.mp hp
  cases q : h.get? b with
  | none => rw [q] at e; cases e
  | some o =>
    rw [q] at e
    have e' : (b, o) = p := Option.some.inj e
    subst e'
    exact ⟨hb, q⟩
theorem Inv.pinned {pins : List (Addr × Obj)} {σ : St} {H : Hp} {s : Shared} {fp : List Addr} (I : Inv X pins σ H s) (hf : ∀ b ∈ fp, z63 X pins H b) (ho : ∀ b ∈ fp, ∃ o, s.heap.get? b = some o /\ ∀ v, o.data ≠ .cell v) : Inv X (pins ++ z3Y fp s.heap) σ H s :=
  I.pins_of fun p hp => (List.mem_append.mp hp).elim (fun z => I.pin p (List.mem_append_right _ z)) fun z => by
    obtain ⟨hb, e⟩ := z6A z
    obtain ⟨f0, f1, f2, _⟩ := hf p.1 hb
    obtain ⟨o, e', d⟩ := ho p.1 hb
    rw [e] at e'; cases e'
    exact ⟨e, f0, f1, f2, d⟩
theorem Inv.unpinned {pins pl : List (Addr × Obj)} {σ : St} {H : Hp} {s : Shared} (I : Inv X (pins ++ pl) σ H s) : Inv X pins σ H s := I.pins_of fun p hp => I.pin p (List.mem_append_right _ (List.mem_append_left _ hp))
theorem z1I {iter : Expr} {body : List Stmt} {wi : TI} {g : TG} {tb : TS} {pos : Pos} (hp : PassesOwn (model X.prog X.w) X.A X.env X.xe) (hc : X.calm = true) (hi : PI X tg iter wi) (hg : PG X tg g) (hb : PSs X body tb)
    (hs : ∀ x, foldedSetIterable iter X.env x = pure x := by intro _; rfl) : PS X (.For tg iter body [] pos) (zDM wi g tb) := by
  intro pins s σ H D I h
  refine wpAny_For (thn (hi pins s σ H _ I h) fun v s1 h1 => thn h1 fun itv s2 h2 => ?_) hs
  obtain ⟨it, fp, tn, J, H2, e, I2, T, st2, f2, W, ⟨m0, w0⟩, turn⟩ := h2
  subst e
  have stat : ∀ {H' : Hp}, (∀ b ∈ fp, H' b = none) -> ∀ b ∈ fp, z63 X pins H' b := fun hn b hb => ⟨hn b hb, (f2 b hb).2⟩
  refine codeAny_forLoop_any (fun n s' => ∃ i σ' H', Inv X pins σ' H' s' /\ tn i s'.heap /\ (∀ b ∈ fp, H' b = none) /\ W i n σ' H') ?_ m0 ⟨0, σ, H2, I2, st2, fun b hb => (f2 b hb).1, w0⟩
  rintro n s3 ⟨i, σ3, H3, I3, st3, fr3, w3⟩
  rcases turn i n σ3 H3 w3 with ⟨stop, qn⟩ | ⟨go, N, hN, step⟩
  . refine wpAny_passesOwn hp (thn (T.done X rfl rfl rfl hc i pins s3 σ3 H3 X.xe I3 (stat fr3) st3 stop) fun r s4 ⟨hr, I4⟩ => ?_)
    subst hr
    exact wpAny_execs_nil ⟨σ3, H3, I4, qn⟩
  . refine wpAny_passesOwn hp (thn (T.item X rfl rfl rfl hc i pins s3 σ3 H3 X.xe I3 (stat fr3) st3 go) fun r s4 ⟨u, hr, h4⟩ => ?_)
    subst hr
    refine wpAny_passesOwn hp (thn h4 fun _ s5 ⟨x, H5, I5, r5, y5, st5, fr5⟩ => ?_)
    have I5' := I5.pinned (stat fr5) (T.obj _ _ st5)
    refine wpAny_passesOwn hp (thn (hg _ s5 σ3 H5 x u _ I5' r5 (step x H5 y5)) fun _ s6 ⟨σ6, H6, I6, q6⟩ => ?_)
    refine wpAny_passesOwn hp (thn (hb _ s6 σ6 H6 _ I6 q6) fun f s7 q7 => ?_)
    have again : ∀ {σ7 : St} {H7 : Hp}, Inv X (pins ++ z3Y fp s5.heap) σ7 H7 s7 -> N σ7 H7 -> ∃ m, m < n /\ ∃ i σ' H', Inv X pins σ' H' s7 /\ tn i s7.heap /\ (∀ b ∈ fp, H' b = none) /\ W i m σ' H' := fun {σ7 H7} I7 n7 => by
      obtain ⟨m', hm, w7⟩ := hN σ7 H7 n7
      refine ⟨m', hm, i + 1, σ7, H7, I7.unpinned, T.keep _ _ _ st5 fun b hb o e => (I7.pin (b, o) (List.mem_append_right _ (List.mem_append_right _ (z1i hb e)))).1, fun b hb => ?_, w7⟩
      obtain ⟨o, e, d⟩ := T.obj _ _ st5 b hb
      exact (I7.pin (b, o) (List.mem_append_right _ (List.mem_append_right _ (z1i hb e)))).2.1
    cases f with
    | next => obtain ⟨σ7, H7, I7, n7⟩ := q7; exact again I7 n7
    | cont => obtain ⟨σ7, H7, I7, n7⟩ := q7; exact again I7 n7
    | brk => obtain ⟨σ7, H7, I7, q7⟩ := q7; exact ⟨σ7, H7, I7.unpinned, q7⟩
    | ret v => obtain ⟨x7, σ7, H7, I7, r7, q7⟩ := q7; exact ⟨x7, σ7, H7, I7.unpinned, r7, q7⟩
end
theorem z4m {K : PySem.W.Frag} {a : Addr} {xs : List V} {g : TG} {tb : TS} {D : Ends} {σ : St} {H : Hp} (Pv : Nat -> St -> Hp -> Prop) (h0 : Pv 0 σ H) (hl : ∀ i σ H, i <= xs.length -> Pv i σ H -> SqL K H a xs)
    (hs : ∀ i x σ H, xs[i]? = some x -> Pv i σ H -> g x σ H fun σ2 H2 => tb { D with nx := Pv (i + 1), ct := Pv (i + 1), bk := D.nx } σ2 H2) (hd : ∀ σ H, Pv xs.length σ H -> D.nx σ H) :
    ∃ W : Nat -> Nat -> St -> Hp -> Prop, (∃ m, W 0 m σ H) /\ ∀ i m σ H, W i m σ H ->
      ((Itl K a).stop i H /\ D.nx σ H) \/ ((Itl K a).go i H /\ ∃ N : St -> Hp -> Prop, (∀ σ' H', N σ' H' -> ∃ m', m' < m /\ W (i + 1) m' σ' H') /\ ∀ x H', (Itl K a).yld i H x H' -> g x σ H' fun σ2 H2 => tb { D with nx := N, ct := N, bk := D.nx } σ2 H2) := by
  refine ⟨fun i m σ H => m = xs.length - i /\ i <= xs.length /\ Pv i σ H, ⟨xs.length, by simp, Nat.zero_le _, h0⟩, ?_⟩
  rintro i m σ H ⟨rfl, hi, p⟩
  have q := hl i σ H hi p
  by_cases hlt : i < xs.length
  . refine .inr ⟨⟨xs, xs[i], q, by simp [hlt]⟩, Pv (i + 1), fun σ' H' p' => ⟨xs.length - (i + 1), by omega, rfl, hlt, p'⟩, fun x H' y => ?_⟩
    obtain ⟨e, y⟩ := y
    subst e
    exact hs i x σ _ (y xs q) p
  . have e : i = xs.length := by omega
    subst e
    exact .inl ⟨⟨xs, q, Nat.le_refl _⟩, hd σ H p⟩
theorem z0o {lo : Int} {n : Nat} {g : TG} {tb : TS} {D : Ends} {σ : St} {H : Hp} (Pv : Nat -> St -> Hp -> Prop) (h0 : Pv 0 σ H)
    (hs : ∀ i σ H, i < n -> Pv i σ H -> g (.int (lo + i)) σ H fun σ2 H2 => tb { D with nx := Pv (i + 1), ct := Pv (i + 1), bk := D.nx } σ2 H2) (hd : ∀ σ H, Pv n σ H -> D.nx σ H) :
    ∃ W : Nat -> Nat -> St -> Hp -> Prop, (∃ m, W 0 m σ H) /\ ∀ i m σ H, W i m σ H ->
      ((Itr lo n).stop i H /\ D.nx σ H) \/ ((Itr lo n).go i H /\ ∃ N : St -> Hp -> Prop, (∀ σ' H', N σ' H' -> ∃ m', m' < m /\ W (i + 1) m' σ' H') /\ ∀ x H', (Itr lo n).yld i H x H' -> g x σ H' fun σ2 H2 => tb { D with nx := N, ct := N, bk := D.nx } σ2 H2) := by
  refine ⟨fun i m σ H => m = n - i /\ i <= n /\ Pv i σ H, ⟨n, by simp, Nat.zero_le _, h0⟩, ?_⟩
  rintro i m σ H ⟨rfl, hi, p⟩
  by_cases hlt : i < n
  . refine .inr ⟨hlt, Pv (i + 1), fun σ' H' p' => ⟨n - (i + 1), by omega, rfl, hlt, p'⟩, fun x H' y => ?_⟩
    obtain ⟨e, y⟩ := y
    subst e y
    exact hs i σ _ hlt p
  . have e : i = n := by omega
    subst e
    exact .inl ⟨Nat.le_refl _, hd σ H p⟩
abbrev R2 := V -> V -> Hp -> VK -> Prop
def OpR (X : Cx) (f : Value -> Value -> Sem Value) (r : R2) : Prop :=
  ∀ (pins : List (Addr × Obj)) (s : Shared) (σ : St) (H : Hp) (x y : V) (v u : Value) (Q : VK), Inv X pins σ H s -> RelV x v -> RelV y u -> r x y H Q ->
    wpAny (model X.prog X.w) X.A (f v u) (EP X pins σ Q) X.xe s
def UnR (X : Cx) (f : Value -> Sem Value) (r : V -> Hp -> VK -> Prop) : Prop :=
  ∀ (pins : List (Addr × Obj)) (s : Shared) (σ : St) (H : Hp) (x : V) (v : Value) (Q : VK), Inv X pins σ H s -> RelV x v -> r x H Q ->
    wpAny (model X.prog X.w) X.A (f v) (EP X pins σ Q) X.xe s
def CallR (X : Cx) (f : Value) (r : List V -> Hp -> VK -> Prop) : Prop :=
  ∀ (pins : List (Addr × Obj)) (s : Shared) (σ : St) (H : Hp) (xs : List V) (us : List Value) (Q : VK), Inv X pins σ H s -> Vals xs us -> r xs H Q ->
    wpAny (model X.prog X.w) X.A (call f us) (EP X pins σ Q) X.xe s
def zE6 (X : Cx) (r : V -> Hp -> (Bool -> Hp -> Prop) -> Prop) : Prop :=
  ∀ (pins : List (Addr × Obj)) (s : Shared) (σ : St) (H : Hp) (x : V) (v : Value) (Q : Bool -> Hp -> Prop), Inv X pins σ H s -> RelV x v -> r x H Q ->
    wpAny (model X.prog X.w) X.A (truthy v) (TP X pins σ Q) X.xe s
def tOp (r : R2) (ta tb : TE) : TE := fun σ H Q => ta σ H fun x H1 => tb σ H1 fun y H2 => r x y H2 Q
def tUn (r : V -> Hp -> VK -> Prop) (ta : TE) : TE := fun σ H Q => ta σ H fun x H1 => r x H1 Q
def rI (C : Int -> Int -> Prop) (g : Int -> Int -> V) : R2 := fun x y H Q => ∃ i j, x = .int i /\ y = .int j /\ C i j /\ Q (g i j) H
def rI0 (g : Int -> Int -> V) : R2 := fun x y H Q => ∃ i j, x = .int i /\ y = .int j /\ Q (g i j) H
def rU (g : Int -> V) : V -> Hp -> VK -> Prop := fun x H Q => ∃ i, x = .int i /\ Q (g i) H
section
variable {X : Cx} {a b c : Expr} {ta tb tc : TE} {pos : Pos}
theorem zBJ (ha : PE X a ta) (hb : PE X b tb) {pins : List (Addr × Obj)} {s : Shared} {σ : St} {H : Hp} {R : V -> V -> Hp -> Prop} (I : Inv X pins σ H s)
    (h : ta σ H fun x H1 => tb σ H1 fun y H2 => R x y H2) {Q : Value -> Shared -> Prop} {f : Value -> Value -> Sem Value}
    (hf : ∀ v u s2 x y H2, Inv X pins σ H2 s2 -> RelV x v -> RelV y u -> R x y H2 -> wpAny (model X.prog X.w) X.A (f v u) Q X.xe s2) :
    wpAny (model X.prog X.w) X.A (eval a X.env) (fun v s₁ => wpAny (model X.prog X.w) X.A (eval b X.env) (fun u s₂ => wpAny (model X.prog X.w) X.A (f v u) Q X.xe s₂) X.xe s₁) X.xe s := by
  refine thn (ha pins s σ H _ I h) fun v s1 ⟨x, H1, I1, r1, q1⟩ => ?_
  refine thn (hb pins s1 σ H1 _ I1 q1) fun u s2 ⟨y, H2, I2, r2, q2⟩ => ?_
  exact hf v u s2 x y H2 I2 r1 r2 q2
theorem z0I {op : Operator} {r : R2} (ho : OpR X (binaryOp op) r) (ha : PE X a ta) (hb : PE X b tb) : PE X (.BinOp a op b pos) (tOp r ta tb) := by
  intro pins s σ H Q I h
  exact wpAny_BinOp (zBJ ha hb I h fun v u s2 x y H2 I2 rx ry q => ho pins s2 σ H2 x y v u Q I2 rx ry q)
theorem z7k {op : UnaryOp} {r : V -> Hp -> VK -> Prop} (ho : UnR X (unaryOp op) r) (ha : PE X a ta) : PE X (.UnaryOp op a pos) (tUn r ta) := by
  intro pins s σ H Q I h
  exact UnaryOp_ (thn (ha pins s σ H _ I h) fun v s1 ⟨x, H1, I1, r1, q1⟩ => ho pins s1 σ H1 x v Q I1 r1 q1)
theorem opI {f : Value -> Value -> Sem Value} {C : Int -> Int -> Prop} {g : Int -> Int -> Int}
    (rule : ∀ (i j : Int) (t u : Tok) (s : Shared) (Q : Value -> Shared -> Prop) (E : Value -> Shared -> Prop), C i j -> Q (.int (g i j) s.toks) { s with toks := s.toks + 1 } -> wpAny (model X.prog X.w) X.A (f (.int i t) (.int j u)) Q E s) :
    OpR X f (rI C fun i j => .int (g i j)) := by
  intro pins s σ H x y v u Q I rx ry h
  obtain ⟨i, j, rfl, rfl, hc, q⟩ := h
  obtain ⟨t, rfl⟩ := rx
  obtain ⟨t', rfl⟩ := ry
  exact rule i j t t' s _ _ hc ⟨.int (g i j), H, I.tok _, ⟨_, rfl⟩, q⟩
theorem zAq {f : Value -> Value -> Sem Value} {g : Int -> Int -> Int}
    (rule : ∀ (i j : Int) (t u : Tok) (s : Shared) (Q : Value -> Shared -> Prop) (E : Value -> Shared -> Prop), Q (.int (g i j) s.toks) { s with toks := s.toks + 1 } -> wpAny (model X.prog X.w) X.A (f (.int i t) (.int j u)) Q E s) :
    OpR X f (rI0 fun i j => .int (g i j)) := by
  intro pins s σ H x y v u Q I rx ry h
  obtain ⟨i, j, rfl, rfl, q⟩ := h
  obtain ⟨t, rfl⟩ := rx
  obtain ⟨t', rfl⟩ := ry
  exact rule i j t t' s _ _ ⟨.int (g i j), H, I.tok _, ⟨_, rfl⟩, q⟩
theorem zAr {f : Value -> Value -> Sem Value} {g : Int -> Int -> Bool}
    (rule : ∀ (i j : Int) (t u : Tok) (s : Shared) (Q : Value -> Shared -> Prop) (E : Value -> Shared -> Prop), Q (.bool (g i j)) s -> wpAny (model X.prog X.w) X.A (f (.int i t) (.int j u)) Q E s) :
    OpR X f (rI0 fun i j => .bl (g i j)) := by
  intro pins s σ H x y v u Q I rx ry h
  obtain ⟨i, j, rfl, rfl, q⟩ := h
  obtain ⟨t, rfl⟩ := rx
  obtain ⟨t', rfl⟩ := ry
  exact rule i j t t' s _ _ ⟨.bl (g i j), H, I, rfl, q⟩
def zE7 (i j : Int) : Prop := 0 < j /\ j < 1073741824
def zDN (i j : Int) : Prop := j ≠ 0 /\ j.natAbs < 1073741824
def zBK (i j : Int) : Prop := 0 <= j /\ j <= 1000000 /\ i.natAbs < 2 ^ 64
def CMul (i j : Int) : Prop := (-(2 ^ 64) < i /\ i < 2 ^ 64) \/ (-(2 ^ 64) < j /\ j < 2 ^ 64)
theorem CMul.ok {i j : Int} (h : CMul i j) : IntMulOk i j := by
  rcases h with ⟨h1, h2⟩ | ⟨h1, h2⟩
  . exact .of_left (intBits_le_64 h1 h2)
  . exact .of_right (intBits_le_64 h1 h2)
theorem z5K (k : Nat) : (0 : Int) <= 2 ^ k := by
  rw [two_pow_cast]
  exact Int.natCast_nonneg _
theorem z0T : OpR X (binaryOp .Add) (rI0 fun i j => .int (i + j)) := zAq fun _ _ _ _ _ _ _ q => add_int q
theorem z4n : OpR X (binaryOp .Sub) (rI0 fun i j => .int (i - j)) := zAq fun _ _ _ _ _ _ _ q => sub_int q
theorem z1a : OpR X (binaryOp .Mult) (rI CMul fun i j => .int (i * j)) := opI fun _ _ _ _ _ _ _ hc q => mul_int q hc.ok
theorem z2u : OpR X (binaryOp .Mod) (rI (fun _ j => 0 < j) fun i j => .int (i % j)) := opI fun i j _ _ _ _ _ hc q => by
  have h1 : (0 : Int) < j := hc
  exact mod_int' (by omega) (by rw [Int.fmod_eq_emod_of_nonneg i (by omega)]; exact q)
theorem zA4 : OpR X (binaryOp .Pow) (rI zBK fun i j => .int (i ^ j.toNat)) := opI fun _ _ _ _ _ _ _ hc q => pow_int_small hc.1 hc.2.1 hc.2.2 q
theorem zA5 : OpR X (binaryOp .LShift) (rI zBK fun i j => .int (i * 2 ^ j.toNat)) := opI fun _ _ _ _ _ _ _ hc q => lshift_int_small hc.1 hc.2.1 hc.2.2 q
theorem z8c : OpR X (binaryOp .RShift) (rI (fun _ j => 0 <= j) fun i j => .int (i / 2 ^ j.toNat)) := opI fun i j _ _ _ _ _ hc q =>
  rshift_int hc (by rw [Int.fdiv_eq_ediv_of_nonneg i (z5K _)]; exact q)
theorem z8d : OpR X (binaryOp .BitAnd) (rI0 fun i j => .int (Builtin.bitAnd i j)) := zAq fun _ _ _ _ _ _ _ q => and_int q
theorem zBL : OpR X (binaryOp .BitOr) (rI0 fun i j => .int (Builtin.bitOr i j)) := zAq fun _ _ _ _ _ _ _ q => or_int q
theorem unI {f : Value -> Sem Value} {g : Int -> Int}
    (rule : ∀ (i : Int) (t : Tok) (s : Shared) (Q : Value -> Shared -> Prop) (E : Value -> Shared -> Prop), Q (.int (g i) s.toks) { s with toks := s.toks + 1 } -> wpAny (model X.prog X.w) X.A (f (.int i t)) Q E s) :
    UnR X f (rU fun i => .int (g i)) := by
  intro pins s σ H x v Q I rx h
  obtain ⟨i, rfl, q⟩ := h
  obtain ⟨t, rfl⟩ := rx
  exact rule i t s _ _ ⟨.int (g i), H, I.tok _, ⟨_, rfl⟩, q⟩
theorem z6B : UnR X (unaryOp .USub) (rU fun i => .int (-i)) := unI fun _ _ _ _ _ q => neg_int q
theorem zA6 : UnR X (unaryOp .Invert) (rU fun i => .int (Builtin.bitNot i)) := unI fun _ _ _ _ _ q => invert_int q
end
def zA7 : V -> V -> Bool
  | .non, .non => true | .non, .int _ => true | .int _, .non => true | .non, .bl _ => true | .bl _, .non => true | .non, .str _ => true | .str _, .non => true
  | .int _, .int _ => true | .bl _, .bl _ => true | .str _, .str _ => true | .byt _, .byt _ => true
  | .int _, .str _ => true | .str _, .int _ => true | .bl _, .str _ => true | .str _, .bl _ => true
  | _, _ => false
def rEq : R2 := fun x y H Q => zA7 x y = true /\ Q (.bl (decide (x = y))) H
def rNe : R2 := fun x y H Q => zA7 x y = true /\ Q (.bl (!decide (x = y))) H
theorem z6C {i j : Int} : decide (V.int i = V.int j) = (i == j) := by
  rw [Bool.eq_iff_iff]
  simp
theorem z8e {i j : Bool} : decide (V.bl i = V.bl j) = (i == j) := by
  rw [Bool.eq_iff_iff]
  simp
theorem z6D {i j : Str} : decide (V.str i = V.str j) = (i == j) := by
  rw [Bool.eq_iff_iff]
  simp
theorem z6E {i j : Array UInt8} : decide (V.byt i = V.byt j) = (i.toList == j.toList) := by
  rw [Bool.eq_iff_iff]
  cases i
  cases j
  simp
section
variable {X : Cx} {a b c : Expr} {ta tb tc : TE} {pos : Pos}
theorem z0P {pins : List (Addr × Obj)} {σ : St} {H : Hp} {s : Shared} {Q : VK} {k k' : Bool} (I : Inv X pins σ H s) (q : Q (.bl k) H) (e : k = k') : EP X pins σ Q (.bool k') s := by
  subst e
  exact ⟨.bl k, H, I, rfl, q⟩
theorem z1b : OpR X (compareOp .Eq) rEq := by
  intro pins s σ H x y v u Q I rx ry h
  obtain ⟨hs, q⟩ := h
  cases x with
  | non =>
    cases rx
    cases y with
    | non => cases ry; exact PySem.EqNone.eq_none_none (z0P I q (by simp))
    | bl j => cases ry; exact PySem.EqNone.eq_none_bool (z0P I q (by simp))
    | int j => obtain ⟨t', rfl⟩ := ry; exact PySem.EqNone.eq_none_int (z0P I q (by simp))
    | str j => obtain ⟨t', rfl⟩ := ry; exact PySem.EqNone.eq_none_str (z0P I q (by simp))
    | _ => exact absurd (show false = true from hs) Bool.false_ne_true
  | bl i =>
    cases rx
    cases y with
    | non => cases ry; exact PySem.EqNone.eq_bool_none (z0P I q (by simp))
    | bl j => cases ry; exact eq_bool (z0P I q z8e)
    | str j => obtain ⟨t', rfl⟩ := ry; exact PySem.EqMixed.eq_bool_str (z0P I q (by simp))
    | _ => exact absurd (show false = true from hs) Bool.false_ne_true
  | int i =>
    obtain ⟨t, rfl⟩ := rx
    cases y with
    | non => cases ry; exact PySem.EqNone.eq_int_none (z0P I q (by simp))
    | int j => obtain ⟨t', rfl⟩ := ry; exact eq_int (z0P I q z6C)
    | str j => obtain ⟨t', rfl⟩ := ry; exact PySem.EqMixed.eq_int_str (z0P I q (by simp))
    | _ => exact absurd (show false = true from hs) Bool.false_ne_true
  | str i =>
    obtain ⟨t, rfl⟩ := rx
    cases y with
    | non => cases ry; exact PySem.EqNone.eq_str_none (z0P I q (by simp))
    | bl j => cases ry; exact PySem.EqMixed.eq_str_bool (z0P I q (by simp))
    | int j => obtain ⟨t', rfl⟩ := ry; exact PySem.EqMixed.eq_str_int (z0P I q (by simp))
    | str j => obtain ⟨t', rfl⟩ := ry; exact eq_str (z0P I q z6D)
    | _ => exact absurd (show false = true from hs) Bool.false_ne_true
  | byt i =>
    obtain ⟨t, rfl⟩ := rx
    cases y with
    | byt j => obtain ⟨t', rfl⟩ := ry; exact PySem.W.eq_bytes (z0P I q z6E)
    | _ => exact absurd (show false = true from hs) Bool.false_ne_true
  | _ => cases y <;> exact absurd (show false = true from hs) Bool.false_ne_true
theorem z3D : OpR X (compareOp .NotEq) rNe := by
  intro pins s σ H x y v u Q I rx ry h
  obtain ⟨hs, q⟩ := h
  cases x with
  | non =>
    cases rx
    cases y with
    | non => cases ry; exact PySem.EqNone.ne_none_none (z0P I q (by simp))
    | bl j => cases ry; exact PySem.EqNone.ne_none_bool (z0P I q (by simp))
    | int j => obtain ⟨t', rfl⟩ := ry; exact PySem.EqNone.ne_none_int (z0P I q (by simp))
    | str j => obtain ⟨t', rfl⟩ := ry; exact PySem.EqNone.ne_none_str (z0P I q (by simp))
    | _ => exact absurd (show false = true from hs) Bool.false_ne_true
  | bl i =>
    cases rx
    cases y with
    | non => cases ry; exact PySem.EqNone.ne_bool_none (z0P I q (by simp))
    | bl j => cases ry; exact ne_bool (z0P I q (congrArg not z8e))
    | str j => obtain ⟨t', rfl⟩ := ry; exact PySem.EqMixed.ne_bool_str (z0P I q (by simp))
    | _ => exact absurd (show false = true from hs) Bool.false_ne_true
  | int i =>
    obtain ⟨t, rfl⟩ := rx
    cases y with
    | non => cases ry; exact PySem.EqNone.ne_int_none (z0P I q (by simp))
    | int j => obtain ⟨t', rfl⟩ := ry; exact ne_int (z0P I q (congrArg not z6C))
    | str j => obtain ⟨t', rfl⟩ := ry; exact PySem.EqMixed.ne_int_str (z0P I q (by simp))
    | _ => exact absurd (show false = true from hs) Bool.false_ne_true
  | str i =>
    obtain ⟨t, rfl⟩ := rx
    cases y with
    | non => cases ry; exact PySem.EqNone.ne_str_none (z0P I q (by simp))
    | bl j => cases ry; exact PySem.EqMixed.ne_str_bool (z0P I q (by simp))
    | int j => obtain ⟨t', rfl⟩ := ry; exact PySem.EqMixed.ne_str_int (z0P I q (by simp))
    | str j => obtain ⟨t', rfl⟩ := ry; exact ne_str (z0P I q (congrArg not z6D))
    | _ => exact absurd (show false = true from hs) Bool.false_ne_true
  | byt i =>
    obtain ⟨t, rfl⟩ := rx
    cases y with
    | byt j => obtain ⟨t', rfl⟩ := ry; exact PySem.W.ne_bytes (z0P I q (congrArg not z6E))
    | _ => exact absurd (show false = true from hs) Bool.false_ne_true
  | _ => cases y <;> exact absurd (show false = true from hs) Bool.false_ne_true
theorem zBM : OpR X (compareOp .Lt) (rI0 fun i j => .bl (decide (i < j))) := zAr fun _ _ _ _ _ _ _ q => lt_int q
theorem z5L : OpR X (compareOp .LtE) (rI0 fun i j => .bl (decide (i <= j))) := zAr fun _ _ _ _ _ _ _ q => le_int q
theorem z3Z : OpR X (compareOp .Gt) (rI0 fun i j => .bl (decide (j < i))) := zAr fun _ _ _ _ _ _ _ q => gt_int q
theorem zBN : OpR X (compareOp .GtE) (rI0 fun i j => .bl (decide (j <= i))) := zAr fun _ _ _ _ _ _ _ q => ge_int q
theorem zA8 : OpR X (compareOp .Is) (fun x y H Q => y = .non /\ Q (.bl (decide (x = .non))) H) := by
  intro pins s σ H x y v u Q I rx ry h
  obtain ⟨rfl, q⟩ := h
  cases ry
  refine is_none_gen (z0P I q ?_)
  cases x <;> first
    | (cases rx; rfl)
    | (obtain ⟨t, rfl⟩ := rx; rfl)
theorem z6F : OpR X (compareOp .IsNot) (fun x y H Q => y = .non /\ Q (.bl (!decide (x = .non))) H) := by
  intro pins s σ H x y v u Q I rx ry h
  obtain ⟨rfl, q⟩ := h
  cases ry
  refine isnot_none_gen (z0P I q ?_)
  cases x <;> first
    | (cases rx; rfl)
    | (obtain ⟨t, rfl⟩ := rx; rfl)
def isObj : HO -> Bool
  | .lst _ => true
  | .ins _ _ _ => true
  | _ => false
theorem OpR.or {f : Value -> Value -> Sem Value} {r r' : R2} (h : OpR X f r) (h' : OpR X f r') : OpR X f (fun x y H Q => r x y H Q \/ r' x y H Q) := by
  intro pins s σ H x y v u Q I rx ry q
  rcases q with q | q
  . exact h pins s σ H x y v u Q I rx ry q
  . exact h' pins s σ H x y v u Q I rx ry q
theorem z0K (b : Expr) {op : CmpOp} (h : op ≠ .In := by decide) (h2 : op ≠ .NotIn := by decide) : behindInMarks op b = false := by
  have e1 : (op == CmpOp.In) = false := by cases op <;> first | rfl | exact absurd rfl h
  have e2 : (op == CmpOp.NotIn) = false := by cases op <;> first | rfl | exact absurd rfl h2
  cases b <;> simp [behindInMarks, e1, e2]
theorem z1c {op : CmpOp} {r : R2} (ho : OpR X (compareOp op) r) (ha : PE X a ta) (hb : PE X b tb) (hm : behindInMarks op b = false) : PE X (.Compare a [op] [b] pos) (tOp r ta tb) := by
  intro pins s σ H Q I h
  exact wpAny_Compare1 (zBJ ha hb I h fun v u s2 x y H2 I2 rx ry q => ho pins s2 σ H2 x y v u Q I2 rx ry q) hm
def zBO (t : TE) : TT := fun σ H Q => t σ H fun x H' => ∃ k, x = .bl k /\ Q k H'
theorem z0J {op : CmpOp} {r : R2} (ho : OpR X (compareOp op) r) (ha : PE X a ta) (hb : PE X b tb) (hm : behindInMarks op b = false) : PT X (.Compare a [op] [b] pos) (zBO (tOp r ta tb)) := by
  intro pins s σ H Q I h
  refine wpAny_isTrue_Compare1 (thn (ha pins s σ H _ I h) fun v s1 ⟨x, H1, I1, r1, q1⟩ => thn (hb pins s1 σ H1 _ I1 q1) fun u s2 ⟨y, H2, I2, r2, q2⟩ =>
    thn (ho pins s2 σ H2 x y v u _ I2 r1 r2 q2) fun c s3 ⟨z, H3, I3, r3, k, e, q3⟩ => ?_) hm
  subst e
  cases r3
  exact wpAny_truthy_bool ⟨H3, I3, q3⟩
def zA9 (r r' : R2) (ta tb tc : TE) : TE := fun σ H Q => ta σ H fun x H1 => tb σ H1 fun y H2 => r x y H2 fun z H3 => ∃ k, z = .bl k /\
  (if k = true then tc σ H3 fun w' H4 => r' y w' H4 Q else Q (.bl false) H3)
theorem z4o {op op' : CmpOp} {r r' : R2} (ho : OpR X (compareOp op) r) (ho' : OpR X (compareOp op') r') (ha : PE X a ta) (hb : PE X b tb) (hc : PE X c tc)
    (hm : lastMarks [op, op'] [b, c] = false := by with_unfolding_all rfl) : PE X (.Compare a [op, op'] [b, c] pos) (zA9 r r' ta tb tc) := by
  intro pins s σ H Q I h
  refine Compare_chain (thn (ha pins s σ H _ I h) fun v s1 ⟨x, H1, I1, r1, q1⟩ => chain_link (thn (hb pins s1 σ H1 _ I1 q1) fun u s2 ⟨y, H2, I2, r2, q2⟩ =>
    thn (ho pins s2 σ H2 x y v u _ I2 r1 r2 q2) fun d s3 ⟨z, H3, I3, r3, k, e, q3⟩ => ?_)) hm
  subst e
  cases r3
  refine wpAny_truthy_bool ?_
  cases k with
  | false => exact ite_ff ⟨.bl false, H3, I3, rfl, q3⟩
  | true => exact ite_tt (chain_last (thn (hc pins s3 σ H3 _ I3 q3) fun w' s4 ⟨z', H4, I4, r4, q4⟩ => ho' pins s4 σ H4 y z' u w' Q I4 r2 r4 q4))
def zE8 (K : PySem.W.Frag) (x : V) (H : Hp) (k : Bool) : Prop :=
  match x with
  | .non => k = false
  | .bl b => k = b
  | .int i => k = (i != 0)
  | .str y => y.length <= sizeLine /\ k = ((y.length : Int) != 0)
  | .byt y => y.size <= sizeLine /\ k = ((y.size : Int) != 0)
  | .ref p => (∃ xs, SqL K H p xs /\ k = !xs.isEmpty) \/ (∃ xs, SqT K H p xs /\ k = !xs.isEmpty) \/ ∃ kvs, H p = some (.dK kvs) /\ k = !kvs.isEmpty
  | _ => False
theorem z2v : (sizeLine : Nat) < 2 ^ 63 := by rw [sizeLine_eq]; decide
theorem z0X : OpR X (binaryOp .Add) (fun x y H Q => ∃ i j, x = .str i /\ y = .str j /\ i.length + j.length <= sizeLine /\ Q (.str (i ++ j)) H) := by
  intro pins s σ H x y v u Q I rx ry h
  obtain ⟨i, j, rfl, rfl, hz, q⟩ := h
  obtain ⟨t, rfl⟩ := rx
  obtain ⟨t', rfl⟩ := ry
  exact add_str (fun t' tk => ⟨.str (i ++ j), H, I.tok _, ⟨_, rfl⟩, q⟩) hz
def zAs (b : Expr) : Prop := ∀ o i, subscripted b false o i = operate [o, i] (getItem o i)
theorem vals1 {x : V} {us : List Value} (r : Vals [x] us) : ∃ u, us = [u] /\ RelV x u := by
  cases r with
  | cons r1 r2 => cases r2; exact ⟨_, rfl, r1⟩
theorem vals2 {x y : V} {us : List Value} (r : Vals [x, y] us) : ∃ u w', us = [u, w'] /\ RelV x u /\ RelV y w' := by
  cases r with
  | cons r1 r2 =>
    cases r2 with
    | cons r3 r4 => cases r4; exact ⟨_, _, rfl, r1, r3⟩
theorem z6G (hc : X.calm = true) : CallR X (.builtin "max") (fun xs H Q => ∃ i j, xs = [.int i, .int j] /\ Q (.int (if j > i then j else i)) H) := by
  intro pins s σ H xs us Q I r h
  obtain ⟨i, j, rfl, q⟩ := h
  obtain ⟨u, w', rfl, ⟨t, rfl⟩, ⟨t', rfl⟩⟩ := vals2 r
  refine max_two_ints (I.ok.hd hc) fun h' tk k => ⟨_, H, I.kept k, ?_, q⟩
  by_cases hj : j > i
  . rw [if_pos hj, if_pos hj]; exact ⟨_, rfl⟩
  . rw [if_neg hj, if_neg hj]; exact ⟨_, rfl⟩
theorem z4p : CallR X (.builtin "ord") (fun xs H Q => ∃ x, xs = [.str x] /\ x.length = 1 /\ Q (.int (x.cps.getD 0 0 : Nat)) H) := by
  intro pins s σ H xs us Q I r h
  obtain ⟨x, rfl, hz, q⟩ := h
  obtain ⟨u, rfl, t, rfl⟩ := vals1 r
  exact ord_of_one hz ⟨.int _, H, I.tok _, ⟨_, rfl⟩, q⟩
def zE9 (K : PySem.W.Frag) (x : V) (H : Hp) (n : Nat) : Prop :=
  match x with
  | .str y => y.length <= sizeLine /\ n = y.length
  | .byt y => y.size <= sizeLine /\ n = y.size
  | .ref p => (∃ xs, SqL K H p xs /\ n = xs.length) \/ ∃ xs, SqT K H p xs /\ n = xs.length
  | _ => False
end
structure ObjM (h : Heap) (x dx C : Addr) (mA : Str -> Option Value) : Prop where
  obj : h.get? x = some (PySem.W.instObj C dx)
  ns : h.Ns1 dx mA
  ne : dx ≠ x
theorem z6H {h : Heap} {dx : Addr} {mA : Str -> Option Value} (n : h.Ns1 dx mA) : ∃ od, h.get? dx = some od /\ ∀ name, PySem.W.lookIn name od = some (mA name) := by
  obtain ⟨o, es, ep, ho, hd, hk, _, hm⟩ := n
  refine ⟨o, ho, fun name => ?_⟩
  have e := hm name
  unfold nsFind findBy at e
  rw [<- Array.find?_toList] at e
  unfold PySem.W.lookIn
  rw [hd]
  dsimp only
  split
  . rename_i y q
    rw [q] at e
    exact congrArg some e
  . rename_i q
    rw [q] at e
    have a : es.toList.any (·.refKey) = false := by
      rw [List.any_eq_false]
      intro y hy
      obtain ⟨z, t, hkey⟩ := hk y (Array.mem_toList_iff.mp hy)
      simp [DictEntry.refKey, hkey]
    have a' : ¬ es.toList.any (·.refKey) = true := by rw [a]; exact Bool.false_ne_true
    rw [if_neg a']
    exact congrArg some e
theorem ObjM.look {h : Heap} {x dx C : Addr} {mA : Str -> Option Value} (I : ObjM h x dx C mA) : ∃ od, PySem.W.InstAt h x (PySem.W.instObj C dx) C (some od) /\ ∀ name, PySem.W.lookIn name od = some (mA name) :=
  let ⟨od, ho, hl⟩ := z6H I.ns
  ⟨od, ⟨I.obj, rfl, rfl, ho⟩, hl⟩
section
variable {prog : Program} {w : World} {A : Around} {E : Value -> Shared -> Prop} {s : Shared} {K : PySem.W.Frag} {x dx C f : Addr} {mA : Str -> Option Value} {name : Str} {v : Value}
theorem z94 {expr : Bool} {Q : Value -> Shared -> Prop} (X : K.In s.heap) (I : ObjM s.heap x dx C mA) (hg : PySem.W.plainGet K C name = true) (hh : PySem.W.hasDictIn K C = true)
    (ha : PySem.W.findIn K (.ref C) name = some none) (hv : mA name = some v) (hv' : PySem.W.handedIn v = true) (h : Q v { s with toks := s.toks + 1 }) :
    wpAny (model prog w) A (getAttr (.ref x) name expr) Q E s := by
  obtain ⟨od, J, hl⟩ := I.look
  exact PySem.W.get_value X J (PySem.W.plainGet_of hg).1 (PySem.W.findObj_own hh ha rfl (by rw [hl, hv])) hv' h
theorem z7l {pl : Sem Bool} {Q : Value × List Value -> Shared -> Prop} (X : K.In s.heap) (I : ObjM s.heap x dx C mA) (hg : PySem.W.plainGet K C name = true)
    (hf : PySem.W.findIn K (.ref C) name = some (some (.ref f))) (ht : PySem.W.isFn K (.ref f) = true) (hv : mA name = none) (h : Q (.ref f, [.ref x]) s) :
    wpAny (model prog w) A (getMethod (.ref x) name pl) Q E s := by
  obtain ⟨od, J, hl⟩ := I.look
  exact PySem.W.method_fn X J (PySem.W.plainGet_of hg).1 (PySem.W.plainGet_of hg).2 hf (beq_iff_eq.mp ht) (by show (PySem.W.lookIn name od).map (·.isSome) = some false; rw [hl, hv]; rfl) h
theorem z95 {ns : List Str} {Q : Unit -> Shared -> Prop} (X : K.In s.heap) (I : ObjM s.heap x dx C mA)
    (hs : PySem.W.findIn K (.ref C) "__setattr__" = some (some (.builtin "object.__setattr__"))) (hp : PySem.W.plainOver K C = true) (ht : PySem.W.takerIn K C name = some none) (hh : PySem.W.hasDictIn K C = true)
    (hw : PySem.Within mA ns) (hsz : ns.length <= sizeLine)
    (h : ∀ h', ObjM h' x dx C (fun y => if y = name then some v else mA y) -> Heap.SameBut dx s.heap h' -> Q () { s with heap := h', toks := s.toks + 2 }) :
    wpAny (model prog w) A (setAttr (.ref x) name v) Q E s := by
  obtain ⟨od, J, hl⟩ := I.look
  refine PySem.W.set_plain X J hs (PySem.W.osa_open (s := { s with toks := s.toks + 1 }) (r := none) X J hp ht fun b => ?_)
  obtain ⟨cd, hc, hd'⟩ := PySem.W.any_some hh
  have hx : s.heap.get? x = some ⟨.ref C, some dx, .plain, #[]⟩ := I.obj
  refine wpAny_bind (wpAny_pure (wpAny_bind (wpAny_bind (wpAny_loadPart hx (wpAny_bind (PySem.W.Looks.here (s := { s with toks := s.toks + 1 }) (PySem.W.looks_clsIn X hc) ?_))))))
  rw [hd']
  refine wpAny_pure (a := some dx) (wpAny_bind (wpAny_pure (wpAny_bind ?_)))
  refine wpAny_nsSet1 (s := { s with toks := s.toks + 1 }) I.ns fun h' hn2 hs2 => ?_
  obtain ⟨oD, esD, epD, hoD, hdD, hcD⟩ := hn2.count (PySem.Within.cons name v hw)
  refine wpAny_bind (wpAny_lookBehind hoD (by rw [hdD]; exact pastItsLine_dict (Nat.le_trans hcD (by rw [List.length_cons]; omega))) ?_)
  exact wpAny_pure (h _ ⟨(hs2.2 _ (Ne.symm I.ne)).trans I.obj, hn2, I.ne⟩ hs2)
theorem z7m {R : Result -> Shared -> Prop} {vs : List Value} {kw : List (Str × Value)} (X : K.In s.heap) (hm : PySem.W.makesIn K C = true)
    (hi : PySem.W.findIn K (.ref C) "__init__" = some (some (.ref f))) (hf : PySem.W.typeIn K (.ref f) = some (.type "function"))
    (h : codeAny (model prog w) (A.under (.builtin "type.__call__" ⟨.ref C :: vs, kw⟩)) (.call (.ref f) ⟨.ref (s.heap.objs.size + 1) :: vs, kw⟩) (PySem.W.InitBack (s.heap.objs.size + 1) R)
      { s with heap := (s.heap.push PySem.W.emptyDict).push (PySem.W.instObj C s.heap.objs.size) }) :
    codeAny (model prog w) A (.call (.ref C) ⟨vs, kw⟩) R s := by
  obtain ⟨hh, g, d, t, os⟩ := s
  exact PySem.W.make_core (PySem.W.makes_of X hm) (PySem.W.looks_findIn X hi) (fun self => PySem.W.bind_fn X self hf) (.inl rfl) h
end
def z2n (f : Str) (v : V) : List (Str × V) -> List (Str × V)
  | [] => [(f, v)]
  | (g, x) :: r => if g = f then (g, v) :: r else (g, x) :: z2n f v r
theorem z2V (f g : Str) (v : V) : ∀ fs : List (Str × V), (z2n f v fs).lookup g = if g = f then some v else fs.lookup g
  | [] => by
    show List.lookup g [(f, v)] = _
    by_cases h : g = f
    . have hb : (g == f) = true := beq_iff_eq.mpr h
      simp only [List.lookup, hb, if_pos h]
    . have hb : (g == f) = false := beq_eq_false_iff_ne.mpr h
      simp only [List.lookup, hb, if_neg h]
  | (k, x) :: r => by
    have ih := z2V f g v r
    rw [show z2n f v ((k, x) :: r) = (if k = f then (k, v) :: r else (k, x) :: z2n f v r) from rfl]
    by_cases hk : k = f
    . rw [if_pos hk]
      by_cases h : g = k
      . have hb : (g == k) = true := beq_iff_eq.mpr h
        simp only [List.lookup, hb, if_pos (h.trans hk)]
      . have hb : (g == k) = false := beq_eq_false_iff_ne.mpr h
        simp only [List.lookup, hb, if_neg (fun e : g = f => h (e.trans hk.symm))]
    . rw [if_neg hk]
      by_cases h : g = k
      . have hb : (g == k) = true := beq_iff_eq.mpr h
        simp only [List.lookup, hb, if_neg (fun e : g = f => hk (h.symm.trans e))]
      . have hb : (g == k) = false := beq_eq_false_iff_ne.mpr h
        simp only [List.lookup, hb]
        exact ih
theorem z2W (f : Str) (v : V) : ∀ fs : List (Str × V), f ∈ (z2n f v fs).map (·.1) /\ ∀ g, g ∈ fs.map (·.1) -> g ∈ (z2n f v fs).map (·.1)
  | [] => ⟨by simp [z2n], fun g h => by simp at h⟩
  | (k, x) :: r => by
    obtain ⟨i1, i2⟩ := z2W f v r
    rw [show z2n f v ((k, x) :: r) = (if k = f then (k, v) :: r else (k, x) :: z2n f v r) from rfl]
    by_cases hk : k = f
    . rw [if_pos hk]
      subst hk
      exact ⟨by simp, fun g h => by simpa using h⟩
    . rw [if_neg hk]
      refine ⟨?_, fun g h => ?_⟩
      . rw [List.map_cons]
        exact List.mem_cons_of_mem _ i1
      . rw [List.map_cons] at h ⊢
        rcases List.mem_cons.mp h with e | e
        . exact List.mem_cons.mpr (.inl e)
        . exact List.mem_cons_of_mem _ (i2 g e)
theorem z2X (f : Str) (v : V) : ∀ fs : List (Str × V), (z2n f v fs).length <= fs.length + 1
  | [] => by simp [z2n]
  | (k, x) :: r => by
    have ih := z2X f v r
    rw [show z2n f v ((k, x) :: r) = (if k = f then (k, v) :: r else (k, x) :: z2n f v r) from rfl]
    by_cases hk : k = f
    . rw [if_pos hk, List.length_cons, List.length_cons]; omega
    . rw [if_neg hk, List.length_cons, List.length_cons]; omega
theorem RelO.some_of {v : V} {o : Option Value} (r : RelO (some v) o) : ∃ u, o = some u /\ RelV v u := by
  cases o with
  | none => exact (show False from r).elim
  | some u => exact ⟨u, rfl, r⟩
theorem RelO.none_of {o : Option Value} (r : RelO none o) : o = none := by
  cases o with
  | none => rfl
  | some u => exact (show False from r).elim
theorem z3a {v : V} {u : Value} (r : RelV v u) : PySem.W.handedIn u = true := by
  cases v with
  | non => cases (show u = Value.none from r); rfl
  | bl b => cases (show u = Value.bool b from r); rfl
  | int i => obtain ⟨t, e⟩ := (show ∃ t, u = Value.int i t from r); cases e; rfl
  | str x => obtain ⟨t, e⟩ := (show ∃ t, u = Value.str x t from r); cases e; rfl
  | byt b => obtain ⟨t, e⟩ := (show ∃ t, u = Value.bytes b t from r); cases e; rfl
  | flt b => obtain ⟨t, e⟩ := (show ∃ t, u = Value.float b t from r); cases e; rfl
  | ref a => cases (show u = Value.ref a from r); rfl
  | ty n => cases (show u = Value.type n from r); rfl
section
variable {P : Program} {w : World} {H H' : Hp} {h h' : Heap} {a C dx : Addr} {fs fs' : List (Str × V)}
theorem z3E (hok : HOk P w H h) (e : H a = some (.ins C dx fs)) : ∃ mA, ObjM h a dx C mA /\ (∀ f, RelO (fs.lookup f) (mA f)) /\ PySem.Within mA (fs.map (·.1)) /\ fs.length <= 1000 /\ H dx = some (.own a) := by
  obtain ⟨d, z, ne, ob, mA, n, r, q⟩ := (show ObjOk P w H h a (.ins C dx fs) from hok a _ e)
  exact ⟨mA, ⟨ob, n, ne⟩, r, q, z, d⟩
end
structure Cls (K : PySem.W.Frag) (C : Addr) : Prop where
  pg : PySem.W.plainGet K C Str.empty = true
  hd : PySem.W.hasDictIn K C = true
  po : PySem.W.plainOver K C = true
  sa : PySem.W.findIn K (.ref C) "__setattr__" = some (some (.builtin "object.__setattr__"))
theorem Cls.get {K : PySem.W.Frag} {C : Addr} (c : Cls K C) (f : Str) : PySem.W.plainGet K C f = true := c.pg
def NoAttr (K : PySem.W.Frag) (C : Addr) (f : Str) : Prop := PySem.W.findIn K (.ref C) f = some none
theorem NoAttr.taker {K : PySem.W.Frag} {C : Addr} {f : Str} (n : NoAttr K C f) : PySem.W.takerIn K C f = some none := by
  unfold PySem.W.takerIn
  rw [show PySem.W.findIn K (.ref C) f = some none from n]
  rfl
structure Con (K : PySem.W.Frag) (C : Addr) (f : Str) (v : V) (u : Value) : Prop where
  at_ : PySem.W.findIn K (.ref C) f = some (some u)
  rel : RelV v u
  get : PySem.W.specialIn K u "__get__" = some none
  cp : PySem.W.copiedNames.contains f = false
structure Meth (K : PySem.W.Frag) (C : Addr) (m : Str) (f : Addr) : Prop where
  at_ : PySem.W.findIn K (.ref C) m = some (some (.ref f))
  fn : PySem.W.isFn K (.ref f) = true
  kp : PySem.W.keepIn K (.ref f) = true
section
variable {X : Cx} {pins : List (Addr × Obj)} {σ : St} {H : Hp} {s : Shared} {a C dx : Addr} {fs : List (Str × V)} {f : Str} {v : V} {A : Around} {E : Value -> Shared -> Prop}
theorem z5M {b : Bool} {Q : Value -> Shared -> Prop} (I : Inv X pins σ H s) (e : H a = some (.ins C dx fs)) (c : Cls X.K C) (n : NoAttr X.K C f) (l : fs.lookup f = some v)
    (h : ∀ u s', Inv X pins σ H s' -> RelV v u -> Q u s') : wpAny (model X.prog X.w) A (getAttr (.ref a) f b) Q E s := by
  obtain ⟨mA, O, r, _, _, _⟩ := z3E I.hok e
  obtain ⟨u, hu, ru⟩ := RelO.some_of (v := v) (o := mA f) (by rw [<- l]; exact r f)
  exact z94 I.kIn O (c.get f) c.hd n hu (z3a ru) (h u _ (I.tok _) ru)
theorem z5N {m : Str} {g : Addr} {pl : Sem Bool} {Q : Value × List Value -> Shared -> Prop} (I : Inv X pins σ H s) (e : H a = some (.ins C dx fs)) (c : Cls X.K C) (k : Meth X.K C m g) (l : fs.lookup m = none)
    (h : Q (.ref g, [.ref a]) s) : wpAny (model X.prog X.w) A (getMethod (.ref a) m pl) Q E s := by
  obtain ⟨mA, O, r, _, _, _⟩ := z3E I.hok e
  have hn : mA m = none := RelO.none_of (by rw [<- l]; exact r m)
  exact z7l I.kIn O (c.get m) k.at_ k.fn hn h
theorem z5O {y : V} {u : Value} {Q : Unit -> Shared -> Prop} (I : Inv X pins σ H s) (e : H a = some (.ins C dx fs)) (c : Cls X.K C) (n : NoAttr X.K C f) (hl : fs.length < 1000) (ry : RelV y u)
    (h : ∀ s', Inv X pins σ (upd H a (.ins C dx (z2n f y fs))) s' -> Q () s') : wpAny (model X.prog X.w) A (setAttr (.ref a) f u) Q E s := by
  obtain ⟨mA, O, r, wi, _, ho⟩ := z3E I.hok e
  have hz : (fs.map (·.1)).length <= sizeLine := by rw [List.length_map, sizeLine_eq]; omega
  refine z95 I.kIn O c.sa c.po n.taker c.hd wi hz fun h' O' sb => h _ ?_
  have hd : ∃ o, h'.get? dx = some o := let ⟨o, _, _, e', _⟩ := O'.ns; ⟨o, e'⟩
  refine I.write (x := a) (e := dx) (by rw [e]; exact True.intro) (.inr ho) (fun b q hb z => (sb.2 b hb).trans z) hd ?_
  refine ⟨by rw [z06 O.ne]; exact ho, ?_, O.ne, O'.obj, _, O'.ns, fun g => ?_, fun g hg => ?_⟩
  . have := z2X f y fs; omega
  . show RelO ((z2n f y fs).lookup g) (if g = f then some u else mA g)
    rw [z2V]
    by_cases q : g = f
    . rw [if_pos q, if_pos q]; exact ry
    . rw [if_neg q, if_neg q]; exact r g
  . by_cases q : g = f
    . rw [q]; exact (z2W f y fs).1
    . refine (z2W f y fs).2 g (wi g fun z => hg ?_)
      show (if g = f then some u else mA g) = none
      rw [if_neg q]; exact z
theorem Inv.made (I : Inv X pins σ H s) : Inv X pins σ (upd (upd H s.heap.objs.size (.own (s.heap.objs.size + 1))) (s.heap.objs.size + 1) (.ins C s.heap.objs.size []))
    { s with heap := (s.heap.push PySem.W.emptyDict).push (PySem.W.instObj C s.heap.objs.size) } := by
  have e1 : (s.heap.push PySem.W.emptyDict).get? s.heap.objs.size = some PySem.W.emptyDict := Heap.get?_push_size s.heap rfl
  have e2 : ((s.heap.push PySem.W.emptyDict).push (PySem.W.instObj C s.heap.objs.size)).get? (s.heap.objs.size + 1) = some (PySem.W.instObj C s.heap.objs.size) := by
    have := Heap.get?_push_size (s.heap.push PySem.W.emptyDict) (o := PySem.W.instObj C s.heap.objs.size) rfl
    rwa [Heap.size_push] at this
  have e3 : (s.heap.push PySem.W.emptyDict).Ns s.heap.objs.size (fun _ => none) := ⟨PySem.W.emptyDict, #[], _, e1, rfl, (fun e he => absurd he (by simp)), fun _ => rfl⟩
  have I1 := I.laid (a := s.heap.objs.size) (o := .own (s.heap.objs.size + 1)) (h' := s.heap.push PySem.W.emptyDict) (t' := s.toks) (fun b u q => Heap.get?_push_of_some _ q) (Nat.le_refl _) ⟨_, e1⟩
  refine I1.laid (a := s.heap.objs.size + 1) (o := .ins C s.heap.objs.size []) (t' := s.toks) (fun b u q => Heap.get?_push_of_some _ q) (Nat.le_of_eq (Heap.size_push _ _)) ?_
  have ne : s.heap.objs.size ≠ s.heap.objs.size + 1 := Nat.ne_of_lt (Nat.lt_succ_self _)
  refine ⟨by rw [z06 ne, z05], Nat.zero_le _, ne, e2, fun _ => none, (Heap.Ns1.of_empty e3).at fun o q => Heap.get?_push_of_some _ q, fun _ => True.intro, fun y hy => absurd rfl hy⟩
theorem z6I {prog : Program} {w : World} {env : Env} {e : Expr} {f : Str} {pos : Pos} {s : Shared} {Q : Value -> Shared -> Prop} (hb : attributeBase e f env (eval e env) = eval e env)
    (h : wpAny (model prog w) A (eval e env) (fun o s₁ => wpAny (model prog w) A (getAttr o f true) Q E s₁) E s) : wpAny (model prog w) A (eval (.Attribute e f pos) env) Q E s :=
  Attribute_any_ h (by rw [arm_eval_Attribute, hb])
end
def zCO (K : PySem.W.Frag) (ta : TE) (f : Str) : TE := fun σ H Q => ta σ H fun x H1 => ∃ a C dx fs v, x = .ref a /\ H1 a = some (.ins C dx fs) /\ Cls K C /\ NoAttr K C f /\ fs.lookup f = some v /\ Q v H1
def zEA (K : PySem.W.Frag) (ta : TE) (f : Str) : TE := fun σ H Q => ta σ H fun x H1 => ∃ a C dx fs v u, x = .ref a /\ H1 a = some (.ins C dx fs) /\ Cls K C /\ Con K C f v u /\ fs.lookup f = none /\ Q v H1
def zDO (K : PySem.W.Frag) (ta tv : TE) (f : Str) : TS := fun D σ H => tv σ H fun y H1 => ta σ H1 fun x H2 => ∃ a C dx fs, x = .ref a /\ H2 a = some (.ins C dx fs) /\ Cls K C /\ NoAttr K C f /\ fs.length < 1000 /\
  D.nx σ (upd H2 a (.ins C dx (z2n f y fs)))
def zEB (X : Cx) (op : Operator) (rd : V -> V -> Hp -> VK -> Prop) : Prop :=
  ∀ (pins : List (Addr × Obj)) (s : Shared) (σ : St) (H : Hp) (x y : V) (u v : Value) (Q : VK), Inv X pins σ H s -> RelV x u -> RelV y v -> rd x y H Q -> wpAny (model X.prog X.w) X.A (inplaceOp op u v) (EP X pins σ Q) X.xe s
def zBP (K : PySem.W.Frag) (ta tv : TE) (rd : V -> V -> Hp -> VK -> Prop) (f : Str) : TS := fun D σ H => ta σ H fun x H1 => ∃ a C dx fs v, x = .ref a /\ H1 a = some (.ins C dx fs) /\ Cls K C /\ NoAttr K C f /\ fs.lookup f = some v /\
  tv σ H1 fun y H2 => rd v y H2 fun z H3 => ∃ dx' fs', H3 a = some (.ins C dx' fs') /\ fs'.length < 1000 /\ D.nx σ (upd H3 a (.ins C dx' (z2n f z fs')))
section
variable {X : Cx} {o e value : Expr} {f : Str} {pos pos' tpos : Pos} {ta tv : TE}
theorem z6J (he : PE X e ta) (hb : attributeBase e f X.env (eval e X.env) = eval e X.env) : PE X (.Attribute e f pos) (zCO X.K ta f) := by
  intro pins s σ H Q I h
  refine z6I hb (thn (he pins s σ H _ I h) fun u s1 ⟨x, H1, I1, rx, a, C, dx, fs, v, ex, ea, c, n, l, q⟩ => ?_)
  subst ex
  obtain rfl : u = Value.ref a := rx
  exact z5M I1 ea c n l fun u' s2 I2 ru => ⟨v, H1, I2, ru, q⟩
theorem z6K (ha : PE X o ta) (hv : PE X value tv) (hs : swapsWith value (some (.Attribute o f pos')) pos.line X.env = pure false) : PS X (.Assign [.Attribute o f pos'] value pos) (zDO X.K ta tv f) := by
  intro pins s σ H D I h
  refine plainObj_wpAny_Assign_Attribute (thn (hv pins s σ H _ I h) fun u s1 ⟨y, H1, I1, ry, q⟩ => thn (ha pins s1 σ H1 _ I1 q) fun ov s2 ⟨x, H2, I2, rx, a, C, dx, fs, ex, ea, c, n, l, q2⟩ => ?_) hs
  subst ex
  obtain rfl : ov = Value.ref a := rx
  exact z5O I2 ea c n l ry fun s3 I3 => ⟨σ, _, I3, q2⟩
def zEC : V -> V -> Hp -> VK -> Prop := fun x y H Q => ∃ i j, x = .int i /\ y = .int j /\ Q (.int (i + j)) H
def zED : V -> V -> Hp -> VK -> Prop := fun x y H Q => ∃ i j, x = .int i /\ y = .int j /\ Q (.int (i - j)) H
end
section
variable {X : Cx} {pins : List (Addr × Obj)} {σ : St} {H : Hp} {s : Shared} {A : Around} {E : Value -> Shared -> Prop} {Q : Value -> Shared -> Prop} {c : Value} {b : Bool}
inductive TyOf (K : PySem.W.Frag) (H : Hp) : V -> Value -> Prop where
  | non : TyOf K H .non (.type "NoneType")
  | bl (x : Bool) : TyOf K H (.bl x) (.type "bool")
  | int (i : Int) : TyOf K H (.int i) (.type "int")
  | str (x : Str) : TyOf K H (.str x) (.type "str")
  | flt (x : UInt64) : TyOf K H (.flt x) (.type "float")
  | lst {a : Addr} {xs : List V} (e : H a = some (.lst xs)) : TyOf K H (.ref a) (.type "list")
  | frz {a : Addr} {o : Obj} {xs : List V} (e : H a = some (.frz o (.lst xs))) : TyOf K H (.ref a) (.type "list")
  | tup {a : Addr} {xs : List V} (e : H a = some (.tup xs)) : TyOf K H (.ref a) (.type "tuple")
  | dK {a : Addr} {kvs : List (Key × V)} (e : H a = some (.dK kvs)) : TyOf K H (.ref a) (.type "dict")
  | dT {a : Addr} {kvs : List (List Key × V)} (e : H a = some (.dT kvs)) : TyOf K H (.ref a) (.type "dict")
  | ins {a C dx : Addr} {fs : List (Str × V)} (e : H a = some (.ins C dx fs)) (cl : Cls K C) (ha : PySem.W.findIn K (.ref C) "__class__" = some (some (.builtin "object.__class__")))
      (hn : PySem.W.specialIn K (.builtin "object.__class__") "__get__" = some (some (.builtin "getset_descriptor.__get__"))) (htk : PySem.W.takesIn K (.builtin "object.__class__") = some true)
      (hm : PySem.W.mroIn K C (.type "object") = some true) : TyOf K H (.ref a) (.ref C)
theorem z6L {x : V} {u t : Value} (I : Inv X pins σ H s) (rx : RelV x u) (ty : TyOf X.K H x t) (e : PySem.W.kitOne X.K t c = some b) (h : ∀ tk, Q (.bool b) { s with toks := tk }) :
    wpAny (model X.prog X.w) A (call (.builtin "isinstance") [u, c]) Q E s := by
  cases ty with
  | non => cases (show u = Value.none from rx); exact PySem.W.kia_one PySem.W.kitx_none I.kIn True.intro e (fun z => nomatch z) h
  | bl y => cases (show u = Value.bool y from rx); exact PySem.W.kia_one PySem.W.kitx_bool I.kIn True.intro e (fun z => nomatch z) h
  | int i => obtain ⟨t, q⟩ := (show ∃ t, u = Value.int i t from rx); cases q; exact PySem.W.kia_one PySem.W.kitx_int I.kIn True.intro e (fun z => nomatch z) h
  | str y => obtain ⟨t, q⟩ := (show ∃ t, u = Value.str y t from rx); cases q; exact PySem.W.kia_one PySem.W.kitx_str I.kIn True.intro e (fun z => nomatch z) h
  | flt y => obtain ⟨t, q⟩ := (show ∃ t, u = Value.float y t from rx); cases q; exact PySem.W.kia_one PySem.W.kitx_float I.kIn True.intro e (fun z => nomatch z) h
  | @lst a xs ea =>
    cases (show u = Value.ref a from rx)
    obtain ⟨_, _, n, _, h1⟩ := (show ObjOk X.prog X.w H s.heap a (.lst xs) from I.hok a _ ea)
    exact PySem.W.kia_one PySem.W.kitx_list I.kIn ⟨_, h1, rfl⟩ e (fun z => nomatch z) h
  | @frz a ob xs ea =>
    cases (show u = Value.ref a from rx)
    obtain ⟨_, _, _, n, _, h1⟩ := (show ObjOk X.prog X.w H s.heap a (.frz ob (.lst xs)) from I.hok a _ ea)
    exact PySem.W.kia_one PySem.W.kitx_list I.kIn ⟨_, h1, rfl⟩ e (fun z => nomatch z) h
  | @tup a xs ea =>
    cases (show u = Value.ref a from rx)
    obtain ⟨_, _, _, p⟩ := (show ObjOk X.prog X.w H s.heap a (.tup xs) from I.hok a _ ea)
    obtain ⟨o, h1, h2, _⟩ := p
    exact PySem.W.kia_one PySem.W.kitx_tuple I.kIn ⟨o, h1, h2⟩ e (fun z => nomatch z) h
  | @dK a kvs ea =>
    cases (show u = Value.ref a from rx)
    obtain ⟨_, _, vs, _, p⟩ := (show ObjOk X.prog X.w H s.heap a (.dK kvs) from I.hok a _ ea)
    obtain ⟨o, es, ep, h1, h2, _⟩ := p
    exact PySem.W.kia_one PySem.W.kitx_dict I.kIn ⟨o, h1, h2.1⟩ e (fun z => nomatch z) h
  | @dT a kvs ea =>
    cases (show u = Value.ref a from rx)
    obtain ⟨_, _, xs, _, o, es, ep, h1, h2, _⟩ := (show ObjOk X.prog X.w H s.heap a (.dT kvs) from I.hok a _ ea)
    exact PySem.W.kia_one PySem.W.kitx_dict I.kIn ⟨o, h1, h2.1⟩ e (fun z => nomatch z) h
  | @ins a C dx fs ea cl ha hn htk hm =>
    cases (show u = Value.ref a from rx)
    obtain ⟨mA, O, _⟩ := z3E I.hok ea
    obtain ⟨od, J, _⟩ := O.look
    exact PySem.W.kia_one (PySem.W.kitx_own (cl.get _) cl.hd ha hn htk hm) I.kIn J e (fun z => nomatch z) h
end
structure Room (k : Nat) (A : Around) : Prop where
  hd : A.handled = none
  dp : A.depth + 3 * k + 5 < recursionLimit
  un : A.units + 16 * k + 200 < cLine
theorem Room.mono {j k : Nat} {A : Around} (r : Room k A) (h : j <= k) : Room j A := ⟨r.hd, by have := r.dp; omega, by have := r.un; omega⟩
theorem Room.deeper {k : Nat} {A : Around} (r : Room (k + 1) A) (env : Env) : Room k (A.deeper env) :=
  ⟨r.hd, by have := r.dp; show A.depth + 1 + 3 * k + 5 < _; omega, by have := r.un; show A.units + 3 + 16 * k + 200 < _; omega⟩
theorem Room.in1 {k : Nat} {A : Around} (r : Room (k + 1) A) : Room k A.in1 :=
  ⟨r.hd, by have := r.dp; show A.depth + 3 * k + 5 < _; omega, by have := r.un; show A.units + 1 + 16 * k + 200 < _; omega⟩
theorem z5P {A : Around} {C : Addr} {us : List Value} {kw : List (Str × Value)} : (A.under (.builtin "type.__call__" ⟨.ref C :: us, kw⟩)).depth = A.depth + 1 := by
  first | rfl | simp [Around.under, Code.weight, Code.isCreation, Code.isGuard, Code.isCaller, Code.frames, Code.isFrame, guardIds]
theorem z5Q {A : Around} {C : Addr} {us : List Value} {kw : List (Str × Value)} : (A.under (.builtin "type.__call__" ⟨.ref C :: us, kw⟩)).units = A.units + 1 := by
  first | rfl | simp [Around.under, Code.cUnits, Code.frames, Code.isFrame]
theorem Room.make {k : Nat} {A : Around} (r : Room (k + 1) A) (C : Addr) (us : List Value) (kw : List (Str × Value)) : Room k (A.under (.builtin "type.__call__" ⟨.ref C :: us, kw⟩)) :=
  ⟨r.hd, by have := r.dp; rw [z5P]; omega, by have := r.un; rw [z5Q]; omega⟩
theorem Room.depth {k : Nat} {A : Around} (r : Room k A) : A.depth < recursionLimit := by have := r.dp; omega
theorem Room.units {k : Nat} {A : Around} (r : Room k A) : A.units + 64 < cLine := by have := r.un; omega
def zCP : TA := fun _ H Q => Q [] H
def zAA (ta : TE) (tr : TA) : TA := fun σ H Q => ta σ H fun x H1 => tr σ H1 fun xs H2 => Q (x :: xs) H2
section
variable {X : Cx} {e : Expr} {es : List Expr} {te : TE} {t : TA} {pos : Pos}
theorem z01 : PA X [] zCP := fun _ _ _ _ H Q I h => Calls.spliced_nil ⟨[], H, I, .nil, h⟩
theorem z00 (ha : PE X e te) (hr : PA X es t) (hs : starEach (e :: es) X.env = (false, eval e X.env) :: starEach es X.env := by rfl) : PA X (e :: es) (zAA te t) := by
  intro pos pins s σ H Q I h
  rw [hs]
  show wpAny _ _ (spliced ((false, eval e X.env) :: backTo pos (starEach es X.env))) _ _ s
  refine Calls.spliced_cons (thn (ha pins s σ H _ I h) fun u s1 ⟨x, H1, I1, r1, q1⟩ => ?_)
  exact thn (hr pos pins s1 σ H1 _ I1 q1) fun us s2 ⟨xs, H2, I2, r2, q2⟩ => ⟨x :: xs, H2, I2, .cons r1 r2, q2⟩
def zDP (t : TA) : TE := fun σ H Q => t σ H fun xs H1 => xs.length <= sizeLine /\ ∀ p, H1 p = none -> Q (.ref p) (upd H1 p (.tup xs))
def zDQ (t : TA) : TE := fun σ H Q => t σ H fun xs H1 => xs.length <= sizeLine /\ ∀ p, H1 p = none -> Q (.ref p) (upd H1 p (.lst xs))
theorem z2w {x1} (h : PA X es t) : PE X (.Tuple es x1 pos) (zDP t) := by
  intro pins s σ H Q I hq
  refine wpAny_Tuple_spliced (thn (h pos pins s σ H _ I hq) fun us s1 ⟨xs, H1, I1, r, z, q⟩ => ⟨by rw [<- r.length]; exact z, ?_⟩)
  have hf : H1 s1.heap.objs.size = none := I1.hok.fresh (Nat.le_refl _)
  refine ⟨.ref s1.heap.objs.size, upd H1 s1.heap.objs.size (.tup xs), I1.laid (t' := s1.toks) (fun b u e => Heap.get?_push_of_some _ e) (Nat.le_refl _) ?_, rfl, q _ hf⟩
  exact ⟨z, us, r, ⟨_, Heap.get?_push_size _ rfl, rfl, _, rfl⟩⟩
theorem z2D (h : PA X es t) : PE X (.List es pos) (zDQ t) := by
  intro pins s σ H Q I hq
  refine wpAny_List_spliced (thn (h pos pins s σ H _ I hq) fun us s1 ⟨xs, H1, I1, r, z, q⟩ => ⟨by rw [<- r.length]; exact z, ?_⟩)
  have hf : H1 s1.heap.objs.size = none := I1.hok.fresh (Nat.le_refl _)
  refine ⟨.ref s1.heap.objs.size, upd H1 s1.heap.objs.size (.lst xs), I1.laid (t' := s1.toks) (fun b u e => Heap.get?_push_of_some _ e) (Nat.le_refl _) ?_, rfl, q _ hf⟩
  exact ⟨z, us, 0, r, Heap.get?_push_size _ rfl⟩
end
abbrev Sp := List V -> Hp -> VK -> XK -> Prop
abbrev CXT := List Env -> Hp -> Shared -> XK -> Value -> Shared -> Prop
structure Env0 (P : Program) (w : World) (K : PySem.W.Frag) (mg : Str -> Option Value) (base : Heap) (A : Around) (outer : List Env) (s : Shared) (H : Hp) : Prop where
  frames : A.frames = some outer
  mod : Mod K mg base
  bs : ∀ b o, base.get? b = some o -> s.heap.get? b = some o /\ H b = none
  bsz : base.objs.size <= s.heap.objs.size
  funs : s.heap.FunFrames base outer
  frf : ∀ b ∈ frs outer, H b = none
  hok : HOk P w H s.heap
  bare : AllBare s.gens
def CE (outer : List Env) (P : Program) (w : World) (H : Hp) (s : Shared) (Q : VK) (u : Value) (s' : Shared) : Prop :=
  ∃ v H', s'.os = s.os /\ AllBare s'.gens /\ Un (frs outer) [] H H' s.heap s'.heap /\ HOk P w H' s'.heap /\ RelV v u /\ Q v H'
def CR (CX : CXT) (outer : List Env) (P : Program) (w : World) (H : Hp) (s : Shared) (Q : VK) (E : XK) (r : Result) (s' : Shared) : Prop :=
  match r with
  | .ok (.ret u) => CE outer P w H s Q u s'
  | .ok _ => False
  | .error e => CX outer H s E e s'
structure FnOk (P : Program) (w : World) (K : PySem.W.Frag) (mg : Str -> Option Value) (base : Heap) (CX : CXT) (k : Nat) (f : Addr) (fd : FuncData) (ps : List Str) (sp : Sp) : Prop where
  len : ∀ vs H Q E, sp vs H Q E -> vs.length = ps.length
  run : ∀ (A : Around) (outer : List Env) (s : Shared) (H : Hp) (args : Args) (us : List Value) (vs : List V) (Q : VK) (E : XK), Room k A -> Env0 P w K mg base A outer s H -> BindsTo s fd args (ps.zip us) -> Vals vs us -> sp vs H Q E ->
    codeAny (model P w) A (.call (.ref f) args) (CR CX outer P w H s Q E) s
theorem FnOk.mono {P : Program} {w : World} {K : PySem.W.Frag} {mg : Str -> Option Value} {base : Heap} {CX : CXT} {j k : Nat} {f : Addr} {fd : FuncData} {ps : List Str} {sp : Sp} (F : FnOk P w K mg base CX j f fd ps sp) (h : j <= k) :
    FnOk P w K mg base CX k f fd ps sp := ⟨F.len, fun A outer s H args us vs Q E hr => F.run A outer s H args us vs Q E (hr.mono h)⟩
theorem FnOk.imp {P : Program} {w : World} {K : PySem.W.Frag} {mg : Str -> Option Value} {base : Heap} {CX : CXT} {k : Nat} {f : Addr} {fd : FuncData} {ps : List Str} {sp sp' : Sp} (F : FnOk P w K mg base CX k f fd ps sp)
    (h : ∀ vs H Q E, sp' vs H Q E -> sp vs H Q E) : FnOk P w K mg base CX k f fd ps sp' :=
  ⟨fun vs H Q E q => F.len vs H Q E (h _ _ _ _ q), fun A outer s H args us vs Q E hr he hb hv hs => F.run A outer s H args us vs Q E hr he hb hv (h _ _ _ _ hs)⟩
theorem Env0.make {P : Program} {w : World} {K : PySem.W.Frag} {mg : Str -> Option Value} {base : Heap} {A : Around} {outer : List Env} {s : Shared} {H : Hp} (e : Env0 P w K mg base A outer s H) (C : Addr) (us : List Value) (kw : List (Str × Value)) :
    Env0 P w K mg base (A.under (.builtin "type.__call__" ⟨.ref C :: us, kw⟩)) outer s H := ⟨by first | exact e.frames | (simpa [Around.under, Code.envs, Code.isFrame, pushEnvs] using e.frames), e.mod, e.bs, e.bsz, e.funs, e.frf, e.hok, e.bare⟩
theorem Env0.in1 {P : Program} {w : World} {K : PySem.W.Frag} {mg : Str -> Option Value} {base : Heap} {A : Around} {outer : List Env} {s : Shared} {H : Hp} (e : Env0 P w K mg base A outer s H) :
    Env0 P w K mg base A.in1 outer s H := ⟨e.frames, e.mod, e.bs, e.bsz, e.funs, e.frf, e.hok, e.bare⟩
section
variable {X : Cx} {pins : List (Addr × Obj)} {σ : St} {H : Hp} {s s' : Shared}
theorem Inv.env0 (I : Inv X pins σ H s) : Env0 X.prog X.w X.K X.mg X.base X.A X.stack s H :=
  ⟨I.ok.frames, I.ok.mod, I.bs, Nat.le_trans I.ok.bsz I.sz, I.stack, I.stkFree, I.hok, I.bare⟩
theorem Inv.after {Q : VK} {u : Value} (I : Inv X pins σ H s) (h : CE X.stack X.prog X.w H s Q u s') : EP X pins σ Q u s' := by
  obtain ⟨v, H', os, bare, un, hok, r, q⟩ := h
  obtain ⟨hh, g, d, t, os'⟩ := s'
  obtain rfl : os' = s.os := os
  exact ⟨v, H', I.call (h' := hh) (g' := g) (d' := d) (t' := t) (ch := []) un hok bare (fun b z => absurd z (by simp)), r, q⟩
end
def z7n (sp : Sp) (dvs : List V) (E : XK) (t : TA) : TE := fun σ H Q => t σ H fun vs H1 => sp (vs ++ dvs) H1 Q E
def zAB (C : Addr) (m : Str) (sp : Sp) (dvs : List V) (E : XK) (ta : TE) (t : TA) : TE := fun σ H Q => ta σ H fun x H1 => ∃ a dx fs, x = .ref a /\ H1 a = some (.ins C dx fs) /\ fs.lookup m = none /\
  t σ H1 fun vs H2 => sp (x :: (vs ++ dvs)) H2 Q E
def zAC (C : Addr) (sp : Sp) (dvs : List V) (E : XK) (t : TA) : TE := fun σ H Q => t σ H fun vs H1 => ∀ x dx, H1 x = none -> H1 dx = none -> dx ≠ x ->
  sp (.ref x :: (vs ++ dvs)) (upd (upd H1 dx (.own x)) x (.ins C dx [])) (fun v H2 => v = .non /\ Q (.ref x) H2) E
def Binds (K : PySem.W.Frag) (fd : FuncData) (ps : List Str) (ds : List Value) : Prop :=
  ∀ (s : Shared) (us : List Value), K.In s.heap -> (us ++ ds).length = ps.length -> BindsTo s fd ⟨us, []⟩ (ps.zip (us ++ ds))
theorem Binds.all {K : PySem.W.Frag} {fd : FuncData} {ps : List Str} (h : ∀ us : List Value, us.length = ps.length -> bindArgs fd ⟨us, []⟩ = pure (ps.zip us)) : Binds K fd ps [] := fun s us _ hl => by
  rw [List.append_nil] at hl ⊢
  exact .of_eq (h us hl)
def z1d (CX : CXT) (X : Cx) (E : XK) : Prop := ∀ (pins : List (Addr × Obj)) (σ : St) (H : Hp) (s : Shared) (e : Value) (s' : Shared), Inv X pins σ H s -> CX X.stack H s E e s' -> X.xe e s'
section
variable {X : Cx} {CX : CXT} {k : Nat} {f C : Addr} {fd : FuncData} {ps : List Str} {sp : Sp} {dvs : List V} {ds : List Value} {E : XK} {x m : Str} {p pos apos : Pos} {e o : Expr} {es : List Expr} {ta : TE} {t : TA}
theorem z8f {pins : List (Addr × Obj)} {σ : St} {H : Hp} {s : Shared} {Q : VK} {us : List Value} {vs : List V} (F : FnOk X.prog X.w X.K X.mg X.base CX k f fd ps sp) (hr : Room k X.A) (hb : Binds X.K fd ps ds) (hd : Vals dvs ds) (hx : z1d CX X E)
    (I : Inv X pins σ H s) (r : Vals vs us) (h : sp (vs ++ dvs) H Q E) : wpAny (model X.prog X.w) X.A (call (.ref f) us) (EP X pins σ Q) X.xe s := by
  have r2 : Vals (vs ++ dvs) (us ++ ds) := r.append hd
  have hl : (us ++ ds).length = ps.length := by rw [<- r2.length]; exact F.len _ _ _ _ h
  refine wpAny_call (codeAny_mono (F.run X.A X.stack s H ⟨us, []⟩ (us ++ ds) (vs ++ dvs) Q E hr I.env0 (hb s us I.kIn hl) r2 h) fun r s' hq => ?_)
  cases r with
  | error e => exact hx pins σ H s e s' I hq
  | ok fl =>
    cases fl with
    | ret u => exact I.after hq
    | next => exact False.elim hq
    | brk => exact False.elim hq
    | cont => exact False.elim hq
theorem z4I (F : FnOk X.prog X.w X.K X.mg X.base CX k f fd ps sp) (hr : Room k X.A) (hg : Gl X x) (hm : X.mg x = some (.ref f)) (hk : PySem.W.keepIn X.K (.ref f) = true) (hb : Binds X.K fd ps ds) (hd : Vals dvs ds) (hx : z1d CX X E)
    (ha : PA X (e :: es) t) (hdb : (x == ("__debug__" : Str)) = false := by decide) (he : starEach (e :: es) X.env = (false, eval e X.env) :: starEach es X.env := by rfl) (hpl : (backTo pos (starEach es X.env)).any (·.1) = false := by rfl) :
    PE X (.Call (.Name x p) (e :: es) [] pos) (z7n sp dvs E t) := by
  intro pins s σ H Q I h
  refine wpAny_Call_Name_kw (z1P I hg hm ?_ hdb)
  refine PySem.W.callWith_K (h₀ := X.base) I.ok.mod.kin hk (thn (ha pos pins s σ H _ I h) fun us s1 ⟨vs, H1, I1, r, q⟩ => ⟨I1.kIn, ?_⟩) he hpl
  exact z8f F hr hb hd hx I1 r q
theorem z96 {pl : Sem Bool} (he : PE X o ta) (c : Cls X.K C) (hm : Meth X.K C m f) (F : FnOk X.prog X.w X.K X.mg X.base CX k f fd ps sp) (hr : Room k X.A) (hb : Binds X.K fd ps ds) (hd : Vals dvs ds) (hx : z1d CX X E) (ha : PA X (e :: es) t)
    (hst : starEach (e :: es) X.env = (false, eval e X.env) :: starEach es X.env := by rfl) (hpl : (backTo pos (starEach es X.env)).any (·.1) = false := by rfl)
    (ht : eval (.Call (.Attribute o m apos) (e :: es) [] pos) X.env = (do
      let ov <- eval o X.env
      standAt apos.atName
      let (f, first) <- holding [ov] (getMethod ov m pl)
      callWith pos f first (backTo pos (starEach (e :: es) X.env)) (backToKw pos (keywordEach [] X.env))) := by rfl) :
    PE X (.Call (.Attribute o m apos) (e :: es) [] pos) (zAB C m sp dvs E ta t) := by
  intro pins s σ H Q I h
  refine PySem.W.methodCall_KW (pl := pl) (thn (he pins s σ H _ I h) fun u s1 ⟨x, H1, I1, rx, a, dx, fs, ex, ea, l, q⟩ => ?_) ht
  subst ex
  obtain rfl : u = Value.ref a := rx
  refine z5N I1 ea c hm l ?_
  refine PySem.W.callWith_K (first := [.ref a]) (h₀ := X.base) I.ok.mod.kin hm.kp (thn (ha pos pins s1 σ H1 _ I1 q) fun us s2 ⟨vs, H2, I2, r, q2⟩ => ⟨I2.kIn, ?_⟩) hst hpl
  exact z8f (us := .ref a :: us) (vs := .ref a :: vs) F hr hb hd hx I2 (.cons rfl r) q2
structure Mk (K : PySem.W.Frag) (C f : Addr) : Prop where
  makes : PySem.W.makesIn K C = true
  init : PySem.W.findIn K (.ref C) "__init__" = some (some (.ref f))
  fn : PySem.W.isFn K (.ref f) = true
  kp : PySem.W.keepIn K (.ref C) = true
theorem z7o {pins : List (Addr × Obj)} {σ : St} {H : Hp} {s : Shared} {Q : VK} {us : List Value} {vs : List V} (M : Mk X.K C f) (F : FnOk X.prog X.w X.K X.mg X.base CX k f fd ps sp) (hr : Room (k + 1) X.A) (hb : Binds X.K fd ps ds) (hd : Vals dvs ds)
    (hx : z1d CX X E) (I : Inv X pins σ H s) (r : Vals vs us)
    (h : ∀ x dx, H x = none -> H dx = none -> dx ≠ x -> sp (.ref x :: (vs ++ dvs)) (upd (upd H dx (.own x)) x (.ins C dx [])) (fun v H2 => v = .non /\ Q (.ref x) H2) E) :
    wpAny (model X.prog X.w) X.A (call (.ref C) us) (EP X pins σ Q) X.xe s := by
  have hq := h (s.heap.objs.size + 1) s.heap.objs.size (I.hok.fresh (Nat.le_succ _)) (I.hok.fresh (Nat.le_refl _)) (Nat.ne_of_lt (Nat.lt_succ_self _))
  have I2 := Inv.made (C := C) I
  have r2 : Vals (V.ref (s.heap.objs.size + 1) :: (vs ++ dvs)) (Value.ref (s.heap.objs.size + 1) :: (us ++ ds)) := .cons rfl (r.append hd)
  have hl : (Value.ref (s.heap.objs.size + 1) :: us ++ ds).length = ps.length := by
    have e := r2.length
    rw [F.len _ _ _ _ hq] at e
    exact e.symm
  refine wpAny_call (z7m (f := f) I.kIn M.makes M.init (beq_iff_eq.mp M.fn) (codeAny_mono (F.run _ X.stack _ _ ⟨Value.ref (s.heap.objs.size + 1) :: us, []⟩ (Value.ref (s.heap.objs.size + 1) :: (us ++ ds)) _ _ E (hr.make C us [])
    (I2.env0.make C us []) (hb _ (Value.ref (s.heap.objs.size + 1) :: us) I2.kIn hl) r2 hq) fun r s' hq' => ?_))
  cases r with
  | error e => exact hx pins σ _ _ e s' I2 hq'
  | ok fl =>
    cases fl with
    | ret u =>
      obtain ⟨v, H', I3, rv, ev, q3⟩ := I2.after hq'
      subst ev
      exact ⟨rv, ⟨V.ref (s.heap.objs.size + 1), H', I3, rfl, q3⟩⟩
    | next => exact False.elim hq'
    | brk => exact False.elim hq'
    | cont => exact False.elim hq'
theorem z97 (M : Mk X.K C f) (F : FnOk X.prog X.w X.K X.mg X.base CX k f fd ps sp) (hr : Room (k + 1) X.A) (hg : Gl X x) (hm : X.mg x = some (.ref C)) (hb : Binds X.K fd ps ds) (hd : Vals dvs ds) (hx : z1d CX X E)
    (ha : PA X (e :: es) t) (hdb : (x == ("__debug__" : Str)) = false := by decide) (he : starEach (e :: es) X.env = (false, eval e X.env) :: starEach es X.env := by rfl) (hpl : (backTo pos (starEach es X.env)).any (·.1) = false := by rfl) :
    PE X (.Call (.Name x p) (e :: es) [] pos) (zAC C sp dvs E t) := by
  intro pins s σ H Q I h
  refine wpAny_Call_Name_kw (z1P I hg hm ?_ hdb)
  refine PySem.W.callWith_K (h₀ := X.base) I.ok.mod.kin M.kp (thn (ha pos pins s σ H _ I h) fun us s1 ⟨vs, H1, I1, r, q⟩ => ⟨I1.kIn, ?_⟩) he hpl
  exact z7o M F hr hb hd hx I1 r q
end
def PK (X : Cx) (kws : List Keyword) (t : TA) : Prop :=
  ∀ (pos : Pos) (pins : List (Addr × Obj)) (s : Shared) (σ : St) (H : Hp) (Q : List V -> Hp -> Prop), Inv X pins σ H s -> t σ H Q -> wpAny (model X.prog X.w) X.A (evalAll ((backToKw pos (keywordEach kws X.env)).map (·.2))) (AP X pins σ Q) X.xe s
section
variable {X : Cx} {CX : CXT} {k : Nat} {f C : Addr} {fd : FuncData} {ps ks : List Str} {sp : Sp} {E : XK} {x m : Str} {p pos apos kpos : Pos} {e o : Expr} {es : List Expr} {kws : List Keyword} {te ta : TE} {t tk : TA} {nm : Option Str}
theorem zAD : PK X [] zCP := fun _ _ _ _ H Q I h => wpAny_evalAll_nil ⟨[], H, I, .nil, h⟩
theorem z98 (ha : PE X e te) (hr : PK X kws t) : PK X (⟨nm, e, kpos⟩ :: kws) (zAA te t) := by
  intro pos pins s σ H Q I h
  show wpAny _ _ (evalAll ((do let v <- eval e X.env; standAt pos; pure v) :: (backToKw pos (keywordEach kws X.env)).map (·.2))) _ _ s
  refine wpAny_evalAll_cons (wpAny_bind (thn (ha pins s σ H _ I h) fun u s1 ⟨x, H1, I1, r1, q1⟩ => wpAny_bind (wpAny_standAt (wpAny_pure ?_))))
  exact thn (hr pos pins s1 σ H1 _ I1 q1) fun us s2 ⟨xs, H2, I2, r2, q2⟩ => ⟨x :: xs, H2, I2, .cons r1 r2, q2⟩
structure KBinds (K : PySem.W.Frag) (fd : FuncData) (ps ks : List Str) (g : List Value -> List Value -> List Value) (gV : List V -> List V -> List V) : Prop where
  to : ∀ (s : Shared) (us ws : List Value), K.In s.heap -> (g us ws).length = ps.length -> BindsTo s fd ⟨us, ks.zip ws⟩ (ps.zip (g us ws))
  rel : ∀ {vs : List V} {us : List Value} {zs : List V} {ws : List Value}, Vals vs us -> Vals zs ws -> Vals (gV vs zs) (g us ws)
def zCQ (sp : Sp) (gV : List V -> List V -> List V) (E : XK) (t tk : TA) : TE := fun σ H Q => t σ H fun vs H1 => tk σ H1 fun zs H2 => sp (gV vs zs) H2 Q E
variable {g : List Value -> List Value -> List Value} {gV : List V -> List V -> List V}
end
structure FnScope (N P : List Str) (sc : Scope) : Prop where
  kind : sc.kind = .function
  co : sc.isCoroutine = false
  gen : sc.isGenerator = false
  nd : N.Nodup
  pre : N.take P.length = P
  par : ∀ x ∈ P, sc.names.lookup x = some .local \/ sc.names.lookup x = some .cell
  nofree : ∀ y ∈ sc.names, y.2 ≠ .free
theorem z3b {kindOf : Str -> Option NameKind} {x : Str} : ∀ {binds : List (Str × Value)} {m : Str -> Option Value}, (∀ v, (x, v) ∉ binds) -> bindL kindOf binds m x = m x
  | [], _, _ => rfl
  | (n, v) :: r, m, h => by
    unfold bindL
    rw [z3b fun w hw => h w (List.mem_cons_of_mem _ hw)]
    split
    . have : x ≠ n := by rintro rfl; exact h v List.mem_cons_self
      simp [this]
    . rfl
theorem z3c {kindOf : Str -> Option NameKind} {x : Str} : ∀ {binds : List (Str × Value)} {m : Str -> Option Value}, (∀ v, (x, v) ∉ binds) -> bindC kindOf binds m x = m x
  | [], _, _ => rfl
  | (n, v) :: r, m, h => by
    unfold bindC
    rw [z3c fun w hw => h w (List.mem_cons_of_mem _ hw)]
    split
    . rfl
    . have : x ≠ n := by rintro rfl; exact h v List.mem_cons_self
      simp [this]
theorem z3d {kindOf : Str -> Option NameKind} {x : Str} {v : Value} : ∀ {P : List Str} {vs : List Value} {i : Nat} {m : Str -> Option Value}, P.Nodup -> P[i]? = some x -> vs[i]? = some v -> kindOf x = some .local ->
    bindL kindOf (P.zip vs) m x = some v
  | [], _, _, _, _, h, _, _ => by simp at h
  | _ :: _, [], _, _, _, _, h, _ => by simp at h
  | p :: P, w :: vs, 0, m, nd, h1, h2, hk => by
    simp at h1 h2; subst h1; subst h2
    show bindL kindOf ((p, w) :: P.zip vs) m p = _
    unfold bindL
    rw [z3b fun v hv => (List.nodup_cons.mp nd).1 (List.of_mem_zip hv).1, if_pos hk]
    simp
  | p :: P, w :: vs, i + 1, m, nd, h1, h2, hk => by
    show bindL kindOf ((p, w) :: P.zip vs) m x = _
    unfold bindL
    exact z3d (i := i) (List.nodup_cons.mp nd).2 (by simpa using h1) (by simpa using h2) hk
theorem z3e {kindOf : Str -> Option NameKind} {x : Str} {v : Value} : ∀ {P : List Str} {vs : List Value} {i : Nat} {m : Str -> Option Value}, P.Nodup -> P[i]? = some x -> vs[i]? = some v -> kindOf x ≠ some .local ->
    bindC kindOf (P.zip vs) m x = some v
  | [], _, _, _, _, h, _, _ => by simp at h
  | _ :: _, [], _, _, _, _, h, _ => by simp at h
  | p :: P, w :: vs, 0, m, nd, h1, h2, hk => by
    simp at h1 h2; subst h1; subst h2
    show bindC kindOf ((p, w) :: P.zip vs) m p = _
    unfold bindC
    rw [z3c fun v hv => (List.nodup_cons.mp nd).1 (List.of_mem_zip hv).1, if_neg hk]
    simp
  | p :: P, w :: vs, i + 1, m, nd, h1, h2, hk => by
    show bindC kindOf ((p, w) :: P.zip vs) m x = _
    unfold bindC
    exact z3e (i := i) (List.nodup_cons.mp nd).2 (by simpa using h1) (by simpa using h2) hk
def start (N : List Str) (vs : List V) : St := vs.map some ++ List.replicate (N.length - vs.length) none
def z6M (CX : CXT) (P : Program) (w : World) (K : PySem.W.Frag) (mg : Str -> Option Value) (base : Heap) (N : List Str) (qual : Str) (scope : Scope) (f : Addr) (cd : Value) (A : Around) (outer : List Env) (s : Shared) (H : Hp) (E : XK) : Cx where
  prog := P
  w := w
  K := K
  mg := mg
  base := base
  A := A.deeper (envOfC qual scope s.heap.objs.size f cd)
  N := N
  s₀ := s
  H₀ := H
  env := envOfC qual scope s.heap.objs.size f cd
  outer := outer
  stack := envOfC qual scope s.heap.objs.size f cd :: outer
  ex := []
  calm := true
  fn := fun _ => true
  pn := []
  xe := fun e s' => wpAny (model P w) (A.deeper (envOfC qual scope s.heap.objs.size f cd)) (leaving (envOfC qual scope s.heap.objs.size f cd) e) (fun _ s'' => CX outer H s E e s'') (fun e' s'' => CX outer H s E e' s'') s'
theorem z4q {sc : Scope} {n : Nat} {x : Str} (h : sc.names.lookup x = some .cell) : ∃ c, (cellsFrom n sc.names []).lookup x = some c := by
  have q := PySem.W.cellsFrom_some sc.names n [] (.inl h)
  exact Option.isSome_iff_exists.mp q
theorem z6N {CX : CXT} {P : Program} {w : World} {K : PySem.W.Frag} {mg : Str -> Option Value} {base : Heap} {N ps : List Str} {qual : Str} {scope : Scope} {f : Addr} {cd : Value} {A : Around} {outer : List Env} {s s1 : Shared} {H : Hp} {E : XK} {us : List Value} {vs : List V}
    (S : FnScope N ps scope) (hd : A.handled = none) (e0 : Env0 P w K mg base A outer s H) (hl : vs.length = ps.length) (r : Vals vs us)
    (x : InCallC s s.heap.objs.size (bindL (envOfC qual scope s.heap.objs.size f cd).kindOf (ps.zip us) fun _ => none) (cellsFrom (s.heap.objs.size + 1) scope.names []) (bindC (envOfC qual scope s.heap.objs.size f cd).kindOf (ps.zip us) fun _ => none) s1) :
    Inv (z6M CX P w K mg base N qual scope f cd A outer s H E) [] (start N vs) H s1 := by
  have hpl : ps.length <= N.length := by have := congrArg List.length S.pre; rw [List.length_take] at this; omega
  obtain ⟨h1, tk, rfl, hk⟩ := x.done
  have noA : ∀ b : Addr, b ∉ (z6M CX P w K mg base N qual scope f cd A outer s H E).ex := fun b z => absurd (show b ∈ ([] : List Addr) from z) (by simp)
  refine ⟨⟨e0.mod, S.kind, rfl, rfl, Nat.le_refl _, fun y z c h1 h2 => ?_, fun y hy => ?_, fun y c _ h => ?_, fun _ => hd, Around.frames_deeper e0.frames, .inr ⟨rfl, rfl⟩, fun b z => absurd z (noA b), e0.bs, e0.bsz, fun b _ _ => noA b, fun b z => absurd z (noA b), e0.funs, e0.frf⟩,
    rfl, e0.bare, Un.kept hk, ⟨_, x.toInCall.ns, fun i y v h1 h2 h3 => ?_⟩, fun y c h => ⟨_, x.cell y c h⟩, e0.hok.fresh (Nat.le_refl _), fun y c h => ?_, fun p hp => absurd (show p ∈ ([] : List (Addr × Obj)) from hp) (by simp), e0.hok.kept hk, ?_⟩
  . exact name_of_addr x.apart (PySem.mem_of_lookup h1) (PySem.mem_of_lookup h2)
  . have hy : scope.names.lookup y = some .cell \/ scope.names.lookup y = some .free := hy
    rcases hy with hy | hy
    . exact z4q hy
    . exact absurd rfl (S.nofree _ (PySem.mem_of_lookup hy))
  . exact Nat.le_of_lt (x.above y c (PySem.mem_of_lookup h))
  . have hi : i < vs.length := by
      unfold start at h2
      by_cases hi : i < vs.length
      . exact hi
      . rw [List.getElem?_append_right (by simpa using hi)] at h2
        rw [List.getElem?_replicate] at h2
        split at h2 <;> cases h2
    have ha : vs[i]? = some v := by
      unfold start at h2
      rw [List.getElem?_append_left (by simpa using hi), List.getElem?_map] at h2
      cases e : vs[i]? with
      | none => rw [e] at h2; cases h2
      | some a => rw [e] at h2; cases h2; rfl
    obtain ⟨u, hu, rv⟩ := r.get ha
    have hp : ps[i]? = some y := by
      rw [<- S.pre, List.getElem?_take_of_lt (by omega)]; exact h1
    have ndP : ps.Nodup := by rw [<- S.pre]; exact S.nd.sublist (List.take_sublist _ _)
    refine ⟨u, rv, ?_⟩
    rcases S.par y (List.mem_of_getElem? hp) with k | k
    . exact .inl ⟨k, z3d ndP hp hu k⟩
    . obtain ⟨c, e⟩ := z4q (n := s.heap.objs.size + 1) k
      refine .inr ⟨.inl k, c, e, ?_⟩
      have q := x.cell y c e
      rw [z3e ndP hp hu (by show scope.names.lookup y ≠ _; rw [k]; decide)] at q
      exact q
  . exact e0.hok.fresh (Nat.le_of_lt (x.above y c (PySem.mem_of_lookup h)))
  . unfold start
    show _ = N.length
    rw [List.length_append, List.length_map, List.length_replicate]
    omega
theorem z7p {CX : CXT} {P : Program} {w : World} {K : PySem.W.Frag} {mg : Str -> Option Value} {base : Heap} {k : Nat} {f : Addr} {name qual : Str} {params : Arguments} {body : List Stmt} {scope : Scope} {dV kV doc pm cdv ct oc : Value} {an od : Option Addr}
    {osl : Array (Option Value)} {N ps : List Str} {sp : Sp} (lk : K.lookup f = some ⟨oc, od, .func (PySem.W.fnOf name qual params body scope dV kV doc pm an cdv ct), osl⟩) (hcd : PySem.W.codeIn K cdv qual = true) (S : FnScope N ps scope)
    (len : ∀ vs H Q E, sp vs H Q E -> vs.length = ps.length)
    (hbody : ∀ (A : Around) (outer : List Env) (s : Shared) (H : Hp) (vs : List V) (Q : VK) (E : XK), Room k (A.deeper (envOfC qual scope s.heap.objs.size f cdv)) -> sp vs H Q E ->
      ∃ t, PSs (z6M CX P w K mg base N qual scope f cdv A outer s H E) body t /\ t { nx := fun _ H' => Q .non H', rt := Q } (start N vs) H) :
    FnOk P w K mg base CX (k + 1) f (PySem.W.fnOf name qual params body scope dV kV doc pm an cdv ct) ps sp := by
  refine ⟨len, fun A outer s H args us vs Q E hr e0 hb r hsp => ?_⟩
  have hl := len _ _ _ _ hsp
  have KX : K.In s.heap := e0.mod.kin.keeps fun b o e => (e0.bs b o e).1
  have lim : s.heap.NoLimit := e0.mod.nolimit.keeps fun b o e => (e0.bs b o e).1
  have hkind : ∀ y ∈ ps.zip us, scope.names.lookup y.1 = some .local \/ (scope.names.lookup y.1 = some .cell /\ ((cellsFrom (s.heap.objs.size + 1) scope.names []).lookup y.1).isSome = true) := fun ⟨n, v⟩ hy => by
    rcases S.par n (List.of_mem_zip hy).1 with q | q
    . exact .inl q
    . exact .inr ⟨q, PySem.W.cellsFrom_some _ _ _ (.inl q)⟩
  refine codeAny_call_function hr.depth (KX _ _ lk) rfl S.co S.gen rfl (PySem.W.codeRec_of KX hcd) (hb _ _ _ _ ?_)
  refine wpAny_newFunctionEnv_cells S.kind hkind fun env he s1 x => ?_
  subst he
  refine ⟨lim.keeps x.toInCall.keep, codeAny_func ?_⟩
  obtain ⟨t, ht, hq⟩ := hbody A outer s H vs Q E (hr.deeper _) hsp
  have I : Inv (z6M CX P w K mg base N qual scope f cdv A outer s H E) [] (start N vs) H s1 := z6N S hr.hd e0 hl r x
  refine wpAny_mono (ht [] s1 (start N vs) H _ I hq) (fun fl s' hs => ?_) fun e s' hs => hs
  have fin : ∀ {σ' : St} {H' : Hp} {v : V} {u : Value}, Inv (z6M CX P w K mg base N qual scope f cdv A outer s H E) [] σ' H' s' -> RelV v u -> Q v H' -> CE outer P w H s Q u s' :=
    fun {σ' H' v u} J rv q => ⟨v, H', J.os, J.bare, J.base, J.hok, rv, q⟩
  cases fl with
  | ret u =>
    obtain ⟨v, σ', H', J, rv, q⟩ := hs
    exact fin J rv q
  | next =>
    obtain ⟨σ', H', J, q⟩ := hs
    exact fin (v := V.non) (u := Value.none) J rfl q
  | brk =>
    obtain ⟨_, _, _, q⟩ := hs
    exact False.elim q
  | cont =>
    obtain ⟨_, _, _, q⟩ := hs
    exact False.elim q
section
variable {X : Cx} {x : Str} {p pos : Pos} {e : Expr} {es : List Expr} {t : TA} {id T : String} {r : List V -> Hp -> VK -> Prop}
def tCB (r : List V -> Hp -> VK -> Prop) (t : TA) : TE := fun σ H Q => t σ H fun vs H1 => r vs H1 Q
theorem z09 (hc : CallR X (.builtin id) r) (hg : Gl X x) (hm : X.mg x = none) (hv : bootBuiltins x = some (.builtin id)) (ha : PA X (e :: es) t) (hn : x ≠ "__name__" := by decide) (hdb : (x == ("__debug__" : Str)) = false := by decide)
    (he : starEach (e :: es) X.env = (false, eval e X.env) :: starEach es X.env := by rfl) (hpl : (backTo pos (starEach es X.env)).any (·.1) = false := by rfl) : PE X (.Call (.Name x p) (e :: es) [] pos) (tCB r t) := by
  intro pins s σ H Q I h
  refine wpAny_Call_Name_kw (z1u I hg hm hv ?_ hn hdb)
  exact PyProof.Rows.callWith_builtin1 (thn (ha pos pins s σ H _ I h) fun us s1 ⟨vs, H1, I1, r1, q1⟩ => hc pins s1 σ H1 vs us Q I1 r1 q1) he hpl
theorem z1v (hc : CallR X (.type T) r) (hg : Gl X x) (hm : X.mg x = none) (hv : bootBuiltins x = some (.type T)) (ha : PA X (e :: es) t) (hn : x ≠ "__name__" := by decide) (hdb : (x == ("__debug__" : Str)) = false := by decide)
    (he : starEach (e :: es) X.env = (false, eval e X.env) :: starEach es X.env := by rfl) (hpl : (backTo pos (starEach es X.env)).any (·.1) = false := by rfl) : PE X (.Call (.Name x p) (e :: es) [] pos) (tCB r t) := by
  intro pins s σ H Q I h
  refine wpAny_Call_Name_kw (z1u I hg hm hv ?_ hn hdb)
  exact PyProof.Rows.callWith_type1 (thn (ha pos pins s σ H _ I h) fun us s1 ⟨vs, H1, I1, r1, q1⟩ => hc pins s1 σ H1 vs us Q I1 r1 q1) he hpl
end
end L2
namespace HT
open PySem PyProof.Rows
def lexLt : List Int -> List Int -> Bool
  | [], [] => false
  | [], _ :: _ => true
  | _ :: _, [] => false
  | x :: xs, y :: ys => if x = y then lexLt xs ys else decide (x < y)
section
open PySem.SeqAt
open PySem.AutoSeq1 (wpAny_loadPart')
open PySem.MeetsSeq PySem.MeetsSeq2 PySem.MeetsSeq3
end
section
variable {prog : Program} {w : World} {A : Around} {E : Value -> Shared -> Prop} {s : Shared}
def sIx (n d : Nat) : Option Int -> Nat
  | none => d
  | some v => if v < 0 then (v + (n : Int)).toNat else min v.toNat n
theorem sIx_nat (n d k : Nat) : sIx n d (some (k : Int)) = min k n := by
  show (if (k : Int) < 0 then ((k : Int) + (n : Int)).toNat else min (k : Int).toNat n) = min k n
  rw [if_neg (by omega), Int.toNat_natCast]
theorem sIx_le (n d : Nat) (hd : d <= n) (o : Option Int) : sIx n d o <= n := by
  cases o with
  | none => exact hd
  | some v =>
    show (if v < 0 then (v + (n : Int)).toNat else min v.toNat n) <= n
    by_cases hv : v < 0
    . rw [if_pos hv]; omega
    . rw [if_neg hv]; exact Nat.min_le_right _ _
end
end HT
namespace L2
open PySem PySem.Spec PyProof.Rows
abbrev TO := St -> Hp -> (Option Int -> Hp -> Prop) -> Prop
def PO (X : Cx) (e : Option Expr) (t : TO) : Prop :=
  ∀ (pins : List (Addr × Obj)) (s : Shared) (σ : St) (H : Hp) (Q : Option Int -> Hp -> Prop), Inv X pins σ H s -> t σ H Q ->
    wpAny (model X.prog X.w) X.A (evalPart e X.env) (fun u s' => ∃ o H', Inv X pins σ H' s' /\ IsPart u o /\ Q o H') X.xe s
def z99 : TO := fun _ H Q => Q none H
def zBQ (t : TE) : TO := fun σ H Q => t σ H fun x H1 => ∃ i, x = .int i /\ Q (some i) H1
section
variable {X : Cx} {e : Expr} {te : TE} {lo hi : Option Expr} {tl th : TO} {pos p2 : Pos}
theorem z3F : PO X none z99 := by
  intro pins s σ H Q I h
  rw [evalPart_none]
  exact wpAny_pure ⟨none, H, I, .none, h⟩
theorem z3G (h : PE X e te) : PO X (some e) (zBQ te) := by
  intro pins s σ H Q I hw
  rw [evalPart_some]
  refine thn (h pins s σ H _ I hw) fun u s1 ⟨x, H1, I1, r1, q1⟩ => ?_
  obtain ⟨i, rfl, q⟩ := q1
  obtain ⟨t, rfl⟩ := r1
  exact ⟨some i, H1, I1, .int i t, q⟩
def SlR (X : Cx) (r : V -> Option Int -> Option Int -> Hp -> VK -> Prop) : Prop :=
  ∀ (pins : List (Addr × Obj)) (s : Shared) (σ : St) (H : Hp) (x : V) (v vl vu : Value) (lo hi : Option Int) (sl : Addr) (Q : VK), Inv X pins σ H s -> RelV x v -> s.heap.IsSliceOf sl vl vu .none -> IsPart vl lo -> IsPart vu hi -> r x lo hi H Q ->
    ∃ T id, typeLookup (.type T) "__getitem__" = pure (some (.builtin id)) /\ s.TypeIs v T /\ wpAny (model X.prog X.w) X.A (getItem v (.ref sl)) (EP X pins σ Q) X.xe s
theorem SlR.or {r r' : V -> Option Int -> Option Int -> Hp -> VK -> Prop} (h : SlR X r) (h' : SlR X r') : SlR X (fun x lo hi H Q => r x lo hi H Q \/ r' x lo hi H Q) := by
  intro pins s σ H x v vl vu lo hi sl Q I rx hs pl pu q
  rcases q with q | q
  . exact h pins s σ H x v vl vu lo hi sl Q I rx hs pl pu q
  . exact h' pins s σ H x v vl vu lo hi sl Q I rx hs pl pu q
def tSl (r : V -> Option Int -> Option Int -> Hp -> VK -> Prop) (te : TE) (tl th : TO) : TE := fun σ H Q => te σ H fun x H1 => tl σ H1 fun l H2 => th σ H2 fun u H3 => r x l u H3 Q
theorem z2J {r : V -> Option Int -> Option Int -> Hp -> VK -> Prop} (hr : SlR X r) (he : PE X e te) (hl : PO X lo tl) (hu : PO X hi th) : PE X (.Subscript e (.Slice lo hi none p2) pos) (tSl r te tl th) := by
  intro pins s σ H Q I h
  refine Subscript_ (thn (he pins s σ H _ I h) fun v s1 ⟨x, H1, I1, r1, q1⟩ => ?_)
  refine wpAny_Slice (thn (hl pins s1 σ H1 _ I1 q1) fun vl s2 ⟨l, H2, I2, pl, q2⟩ => thn (hu pins s2 σ H2 _ I2 q2) fun vu s3 ⟨u, H3, I3, pu, q3⟩ => ?_)
  rw [evalPart_none]
  refine wpAny_pure ?_
  have I4 : Inv X pins σ H3 { s3 with heap := s3.heap.push { cls := .type "slice", data := .fields #[vl, vu, .none] } } := I3.kept (t' := s3.toks) fun b ob q => Heap.get?_push_of_some _ q
  obtain ⟨T, id, hT, ht, hg⟩ := hr pins { s3 with heap := s3.heap.push { cls := .type "slice", data := .fields #[vl, vu, .none] } } σ H3 x v vl vu l u s3.heap.objs.size Q I4 r1 (Heap.IsSliceOf.new ..) pl pu q3
  show wpAny (model X.prog X.w) X.A (subscriptTail e (.Slice lo hi none p2) v (.ref s3.heap.objs.size)) (EP X pins σ Q) X.xe { s3 with heap := s3.heap.push { cls := .type "slice", data := .fields #[vl, vu, .none] } }
  exact tail_any (ops := [.ref s3.heap.objs.size, v]) ht hT hg (by with_unfolding_all rfl)
def z7q (xs : List V) (lo hi : Option Int) : List V := (xs.drop (HT.sIx xs.length 0 lo)).take (HT.sIx xs.length xs.length hi - HT.sIx xs.length 0 lo)
theorem z4J (xs : List V) (lo hi : Option Int) : (z7q xs lo hi).length <= xs.length := by
  unfold z7q
  rw [List.length_take, List.length_drop]
  omega
def zEE (K : PySem.W.Frag) : V -> Option Int -> Option Int -> Hp -> VK -> Prop := fun x lo hi H Q => ∃ a xs, x = .ref a /\ SqT K H a xs /\
  ¬ (HT.sIx xs.length 0 lo = 0 /\ HT.sIx xs.length xs.length hi = xs.length) /\ ∀ p, H p = none -> Q (.ref p) (upd H p (.tup (z7q xs lo hi)))
def zEF (K : PySem.W.Frag) : R2 := fun x y H Q => ∃ a b ns ms, x = .ref a /\ y = .ref b /\ SqT K H a (ns.map V.int) /\ SqT K H b (ms.map V.int) /\ Q (.bl (HT.lexLt ns ms)) H
def zDR (K : PySem.W.Frag) : R2 := fun x y H Q => ∃ a b xs ys, x = .ref a /\ y = .ref b /\ SqT K H a xs /\ SqT K H b ys /\ xs ≠ [] /\ xs.length + ys.length <= sizeLine /\
  (ys = [] -> Q (.ref a) H) /\ (ys ≠ [] -> ∀ p, H p = none -> Q (.ref p) (upd H p (.tup (xs ++ ys))))
end
def ixN (n : Nat) (i : Int) : Option Nat := if 0 <= i then (if i < n then some i.toNat else none) else if -(n : Int) <= i then some (i + n).toNat else none
def atI {α : Type} (xs : List α) (i : Int) : Option α := (ixN xs.length i).bind fun j => xs[j]?
theorem z6O {n : Nat} {i : Int} {j : Nat} (h : ixN n i = some j) : seqIndex? i n = some j /\ j < n /\ -(n : Int) <= i /\ i < n := by
  unfold ixN at h
  by_cases h0 : 0 <= i
  . rw [if_pos h0] at h
    by_cases h1 : i < n
    . rw [if_pos h1] at h
      have e : i.toNat = j := Option.some.inj h
      exact ⟨by rw [seqIndex_of h0 h1, e], by omega, by omega, h1⟩
    . rw [if_neg h1] at h; cases h
  . rw [if_neg h0] at h
    by_cases h1 : -(n : Int) <= i
    . rw [if_pos h1] at h
      have e : (i + n).toNat = j := Option.some.inj h
      exact ⟨by rw [seqIndex_neg (by omega) h1, e], by omega, h1, by omega⟩
    . rw [if_neg h1] at h; cases h
theorem z4K {α : Type} {xs : List α} {i : Int} {v : α} (h : atI xs i = some v) : ∃ j, seqIndex? i xs.length = some j /\ xs[j]? = some v /\ j < xs.length /\ -(xs.length : Int) <= i /\ i < xs.length := by
  unfold atI at h
  cases e : ixN xs.length i with
  | none => rw [e] at h; cases h
  | some j =>
    rw [e] at h
    obtain ⟨h1, h2, h3, h4⟩ := z6O e
    exact ⟨j, h1, h, h2, h3, h4⟩
theorem z0i {α : Type} {xs : List α} {j : Nat} {v : α} (h : xs[j]? = some v) : atI xs (j : Int) = some v := by
  have hj : j < xs.length := (List.getElem?_eq_some_iff.mp h).1
  have e : ixN xs.length (j : Int) = some j := by
    unfold ixN
    rw [if_pos (by omega), if_pos (by omega)]; simp
  unfold atI; rw [e]; exact h
theorem z7r {α : Type} (xs : List α) (v : α) : atI (xs ++ [v]) (-1) = some v := by
  have hl : (xs ++ [v]).length = xs.length + 1 := by simp
  have e : ixN (xs ++ [v]).length (-1) = some xs.length := by
    unfold ixN
    rw [hl, if_neg (by decide), if_pos (by omega)]
    congr 1
    omega
  unfold atI
  rw [e]
  show (xs ++ [v])[xs.length]? = some v
  simp
def z9A (b : Expr) : Prop := ∀ o i, subscripted b false o i = operate [o, i] (getItem o i)
def IxR (X : Cx) (r : R2) : Prop :=
  ∀ (value slice : Expr) (pins : List (Addr × Obj)) (s : Shared) (σ : St) (H : Hp) (x y : V) (v u : Value) (Q : VK), Inv X pins σ H s -> RelV x v -> RelV y u -> r x y H Q ->
    subscripted slice false v u = operate [v, u] (getItem v u) -> wpAny (model X.prog X.w) X.A (subscriptTail value slice v u) (EP X pins σ Q) X.xe s
def MtR (X : Cx) (id : String) (r : V -> List V -> Hp -> VK -> Prop) : Prop :=
  ∀ (pins : List (Addr × Obj)) (s : Shared) (σ : St) (H : Hp) (x : V) (xs : List V) (v : Value) (us : List Value) (Q : VK), Inv X pins σ H s -> RelV x v -> Vals xs us -> r x xs H Q ->
    wpAny (model X.prog X.w) X.A (call (.builtin id) (v :: us)) (EP X pins σ Q) X.xe s
section
variable {X : Cx} {a b : Expr} {ta tb : TE} {pos : Pos}
theorem IxR.or {r r' : R2} (h : IxR X r) (h' : IxR X r') : IxR X (fun x y H Q => r x y H Q \/ r' x y H Q) := by
  intro value slice pins s σ H x y v u Q I rx ry q hs
  rcases q with q | q
  . exact h value slice pins s σ H x y v u Q I rx ry q hs
  . exact h' value slice pins s σ H x y v u Q I rx ry q hs
theorem MtR.or {id : String} {r r' : V -> List V -> Hp -> VK -> Prop} (h : MtR X id r) (h' : MtR X id r') : MtR X id (fun x xs H Q => r x xs H Q \/ r' x xs H Q) := by
  intro pins s σ H x xs v us Q I rx rs q
  rcases q with q | q
  . exact h pins s σ H x xs v us Q I rx rs q
  . exact h' pins s σ H x xs v us Q I rx rs q
theorem z0V {r : R2} (hr : IxR X r) (ha : PE X a ta) (hb : PE X b tb) (hs : z9A b) : PE X (.Subscript a b pos) (tOp r ta tb) := by
  intro pins s σ H Q I h
  exact Subscript_ (zBJ ha hb I h fun v u s2 x y H2 I2 rx ry q => hr a b pins s2 σ H2 x y v u Q I2 rx ry q (hs _ _))
def zBR (K : PySem.W.Frag) : R2 := fun x y H Q => ∃ p xs i v, x = .ref p /\ y = .int i /\ SqL K H p xs /\ atI xs i = some v /\ Q v H
def zBS (K : PySem.W.Frag) : R2 := fun x y H Q => ∃ p xs i v, x = .ref p /\ y = .int i /\ SqT K H p xs /\ atI xs i = some v /\ Q v H
def zCR : R2 := fun x y H Q => ∃ z i c, x = .str z /\ y = .int i /\ z.length <= sizeLine /\ atI z.cps.toList i = some c /\ Q (.str ⟨#[c]⟩) H
theorem ix_list : IxR X (zBR X.K) := by
  intro value slice pins s σ H x y v u Q I rx ry h hs
  obtain ⟨p, xs, i, z, rfl, rfl, hq, he, q⟩ := h
  cases rx
  obtain ⟨t, rfl⟩ := ry
  obtain ⟨its, r, pl, hz⟩ := I.list hq
  obtain ⟨j, h1, h2, h3, h4, h5⟩ := z4K he
  obtain ⟨w, ew, rw'⟩ := r.get h2
  have hl := r.length
  have hn := z2v
  have fin : EP X pins σ Q w s := ⟨z, H, I, rw', q⟩
  by_cases h0 : 0 <= i
  . have hj : i.toNat = j := by
      rw [seqIndex_of h0 h5] at h1
      exact Option.some.inj h1
    exact item_listR pl.isList h0 (by omega) (by rw [hj]; simpa using ew) fin hs
  . have hj : (i + (its.toArray.size : Int)).toNat = j := by
      rw [seqIndex_neg (by omega) h4] at h1
      rw [List.size_toArray, <- hl]
      exact Option.some.inj h1
    exact subscriptTail_builtinR (x := w) pl.isList.typeIs slot_list_getitem.lookup
      (wpAny_getItem_list_neg (Q := fun r s' => r = w /\ EP X pins σ Q r s') pl.isList (by omega) (by rw [List.size_toArray] <;> omega) (by omega) (by rw [hj]; simpa using ew) ⟨rfl, fin⟩) hs
theorem ix_tup : IxR X (zBS X.K) := by
  intro value slice pins s σ H x y v u Q I rx ry h hs
  obtain ⟨p, xs, i, z, rfl, rfl, hq, he, q⟩ := h
  cases rx
  obtain ⟨t, rfl⟩ := ry
  obtain ⟨its, r, pl, hz⟩ := I.tuple hq
  obtain ⟨j, h1, h2, h3, h4, h5⟩ := z4K he
  obtain ⟨w, ew, rw'⟩ := r.get h2
  have hl := r.length
  have hn := z2v
  have fin : EP X pins σ Q w s := ⟨z, H, I, rw', q⟩
  exact subscriptTail_builtinR (x := w) pl.typeIs slot_tuple_getitem.lookup
    (getItem_tuple (j := j) (Q := fun r s' => r = w /\ EP X pins σ Q r s') pl (by omega) (by omega) (by rw [List.size_toArray, <- hl]; exact h1) (by simpa using ew) ⟨rfl, fin⟩) hs
theorem z3f : IxR X zCR := by
  intro value slice pins s σ H x y v u Q I rx ry h hs
  obtain ⟨z, i, c, rfl, rfl, hz, he, q⟩ := h
  obtain ⟨t, rfl⟩ := rx
  obtain ⟨t', rfl⟩ := ry
  obtain ⟨j, h1, h2, h3, h4, h5⟩ := z4K he
  have hl : z.cps.toList.length = z.length := by simp [Str.length]
  rw [hl] at h1 h4 h5
  have hn := z2v
  exact tail_any (typeIs_str s z t) slot_str_getitem.lookup (getItem_str (c := c) (by
    have e1 : decide (i < -(2 ^ 63 : Int)) = false := decide_eq_false (by omega)
    have e2 : decide (i ≥ 2 ^ 63) = false := decide_eq_false (by omega)
    rw [e1, e2, Bool.or_false]) (by rw [h1]; simpa using h2) ⟨.str ⟨#[c]⟩, H, I.tok _, ⟨_, rfl⟩, q⟩) hs
def rIx (K : PySem.W.Frag) : R2 := fun x y H Q => zBR K x y H Q \/ zBS K x y H Q \/ zCR x y H Q
theorem zAE : IxR X (rIx X.K) := ix_list.or (ix_tup.or z3f)
theorem z5R (its : List Value) (n j : Nat) (u : Value) : Obj.mapSeq (·.setIfInBounds j u) { cls := .type "list", data := .seq its.toArray n } = { cls := .type "list", data := .seq (its.set j u).toArray n } := by
  simp [Obj.mapSeq]
theorem Inv.lst {pins : List (Addr × Obj)} {σ : St} {H : Hp} {s : Shared} {p : Addr} {xs : List V} (I : Inv X pins σ H s) (h : H p = some (.lst xs)) :
    ∃ (its : List Value) (n : Nat), Vals xs its /\ s.heap.get? p = some { cls := .type "list", data := .seq its.toArray n } /\ xs.length <= sizeLine := by
  obtain ⟨z, its, n, r, e⟩ := I.hok p _ h
  exact ⟨its, n, r, e, z⟩
theorem Inv.lstUpd {pins : List (Addr × Obj)} {σ : St} {H : Hp} {s : Shared} {p : Addr} {xs ys : List V} {its its' : List Value} {n n' : Nat} {f : Obj -> Obj} (I : Inv X pins σ H s) (h : H p = some (.lst xs))
    (ho : s.heap.get? p = some { cls := .type "list", data := .seq its.toArray n }) (hf : f { cls := .type "list", data := .seq its.toArray n } = { cls := .type "list", data := .seq its'.toArray n' }) (r : Vals ys its') (hz : ys.length <= sizeLine) (t : Nat) :
    Inv X pins σ (upd H p (.lst ys)) { s with heap := s.heap.update p f, toks := t } := by
  have e : (s.heap.update p f).get? p = some { cls := .type "list", data := .seq its'.toArray n' } := by
    rw [Heap.get?_update_self f ho (by rw [hf] <;> rfl), hf]
  refine I.write (x := p) (e := p) (by rw [h]; trivial) (.inl rfl) (fun b u hb q => (Heap.get?_update_other _ _ (Ne.symm hb)).trans q) ⟨_, e⟩ ?_
  exact ⟨hz, its', n', r, e⟩
def zBT : V -> V -> V -> Hp -> (Hp -> Prop) -> Prop := fun o i v H Q => ∃ p xs k j, o = .ref p /\ i = .int k /\ H p = some (.lst xs) /\ ixN xs.length k = some j /\ Q (upd H p (.lst (xs.set j v)))
theorem set_list : zCK X zBT := by
  intro pins s σ H o i v ov iv u Q I ro ri rv h
  obtain ⟨p, xs, k, j, rfl, rfl, hp, hj, q⟩ := h
  cases ro
  obtain ⟨t, rfl⟩ := ri
  obtain ⟨its, n, r, ho, hz⟩ := I.lst hp
  obtain ⟨h1, h2, h3, h4⟩ := z6O hj
  have hl := r.length
  have hn := z2v
  have I' : Inv X pins σ (upd H p (.lst (xs.set j v))) { s with heap := s.heap.update p (Obj.mapSeq (·.setIfInBounds j u)) } :=
    I.lstUpd hp ho (z5R its n j u) (r.set rv j) (by rw [List.length_set]; exact hz) s.toks
  by_cases h0 : 0 <= k
  . have hk : k.toNat = j := by
      rw [seqIndex_of h0 h4] at h1
      exact Option.some.inj h1
    exact PySem.W.ki_setAt ho h0 (by omega) (by rw [List.size_toArray, <- hl]; exact h4) (by rw [hk]; exact ⟨_, I', q⟩)
  . have hk : (k + (its.toArray.size : Int)).toNat = j := by
      rw [seqIndex_neg (by omega) h3] at h1
      rw [List.size_toArray, <- hl]
      exact Option.some.inj h1
    exact PySem.W.ki_setBack ho (by omega) (by rw [List.size_toArray, <- hl]; exact h3) (by omega) (by rw [hk]; exact ⟨_, I', q⟩)
theorem z3g (lo hi : Option Int) (n : Nat) : (sliceBounds lo hi none n).1 = ((HT.sIx n 0 lo : Nat) : Int) /\ (sliceBounds lo hi none n).2.1 = ((HT.sIx n n hi : Nat) : Int) /\ (sliceBounds lo hi none n).2.2 = 1 := by
  refine ⟨?_, ?_, rfl⟩
  . cases lo with
    | none => simp [sliceBounds, HT.sIx]
    | some i =>
      simp only [sliceBounds, HT.sIx, Option.getD_none, show (1 : Int) > 0 by decide, if_true]
      by_cases h : i < 0
      . simp only [h, if_true] <;> omega
      . simp only [h, if_false] <;> omega
  . cases hi with
    | none => simp [sliceBounds, HT.sIx]
    | some i =>
      simp only [sliceBounds, HT.sIx, Option.getD_none, show (1 : Int) > 0 by decide, if_true]
      by_cases h : i < 0
      . simp only [h, if_true] <;> omega
      . simp only [h, if_false] <;> omega
theorem z3H (its : List Value) (lo hi : Option Int) : slicePick its.toArray lo hi none = ((its.drop (HT.sIx its.length 0 lo)).take (HT.sIx its.length its.length hi - HT.sIx its.length 0 lo)).toArray := by
  obtain ⟨h1, h2, h3⟩ := z3g lo hi its.toArray.size
  unfold slicePick
  rw [h1, h2, h3]
  simp only [sliceRange_one, pick_run, List.size_toArray] <;> rfl
def zDS (K : PySem.W.Frag) : V -> Option Int -> Option Int -> Hp -> VK -> Prop := fun x lo hi H Q => ∃ a xs, x = .ref a /\ SqL K H a xs /\ ∀ p, H p = none -> Q (.ref p) (upd H p (.lst (z7q xs lo hi)))
theorem z6P : SlR X (zDS X.K) := by
  intro pins s σ H x v vl vu lo hi sl Q I rx hs pl pu h
  obtain ⟨a, xs, rfl, hx, q⟩ := h
  cases rx
  obtain ⟨its, r, ht, hz⟩ := I.list hx
  have hlen := r.length
  refine ⟨"list", _, slot_list_getitem.lookup, ht.isList.typeIs, ?_⟩
  refine wpAny_getItem_list_slice ht.isList hs pl pu .none (by simp) ?_ (by rw [List.size_toArray] <;> omega)
  rw [z3H, <- hlen]
  refine ⟨.ref s.heap.objs.size, _, I.laid (t' := s.toks) (o := .lst (z7q xs lo hi)) (fun b ob q => Heap.get?_push_of_some _ q) (Nat.le_refl _) ?_, rfl, q _ (I.hok.fresh (Nat.le_refl _))⟩
  exact ⟨Nat.le_trans (z4J xs lo hi) hz, _, 0, (r.drop (HT.sIx xs.length 0 lo)).take (HT.sIx xs.length xs.length hi - HT.sIx xs.length 0 lo), Heap.get?_push_size _ rfl⟩
def zAF : V -> Bool
  | .non => true
  | .bl _ => true
  | .int _ => true
  | .str _ => true
  | _ => false
def eqV : V -> V -> Bool
  | .non, .non => true
  | .bl a, .bl b => a == b
  | .bl a, .int b => (if a then 1 else 0) == b
  | .int a, .bl b => a == (if b then 1 else 0)
  | .int a, .int b => a == b
  | .str a, .str b => a == b
  | _, _ => false
def eqU (x : V) (u : Value) : Bool := match u with
  | .none => eqV .non x
  | .bool b => eqV (.bl b) x
  | .int i _ => eqV (.int i) x
  | .str z _ => eqV (.str z) x
  | _ => false
def inV (x : V) (xs : List V) : Bool := xs.any fun y => eqV y x
def rIn (K : PySem.W.Frag) (neg : Bool) : R2 := fun x y H Q => ∃ p xs, y = .ref p /\ (SqL K H p xs \/ SqT K H p xs) /\ zAF x = true /\ xs.all zAF = true /\ Q (.bl (if neg then !inV x xs else inV x xs)) H
theorem z0A : CallR X (.builtin "len") (fun xs H Q => ∃ p ys, xs = [.ref p] /\ (SqL X.K H p ys \/ SqT X.K H p ys) /\ Q (.int ys.length) H) := by
  intro pins s σ H xs us Q I r h
  obtain ⟨p, ys, rfl, hq, q⟩ := h
  obtain ⟨u, rfl, rx⟩ := vals1 r
  cases rx
  have hn := z2v
  rcases hq with hq | hq
  . obtain ⟨its, r', pl, hz⟩ := I.list hq
    have hlen := r'.length
    exact Calls.call_len_list pl.isList (by simp only [List.size_toArray] <;> omega) ⟨.int ys.length, H, I.tok _, ⟨s.toks + 1, by rw [List.size_toArray, hlen]⟩, q⟩
  . obtain ⟨its, r', pl, hz⟩ := I.tuple hq
    have hlen := r'.length
    exact len_tuple pl (by simp only [List.size_toArray] <;> omega) ⟨.int ys.length, H, I.tok _, ⟨s.toks + 1, by rw [List.size_toArray, hlen]⟩, q⟩
theorem z1J : CallR X (.builtin "len") (fun xs H Q => ∃ z, xs = [.str z] /\ z.length <= sizeLine /\ Q (.int z.length) H) := by
  intro pins s σ H xs us Q I r h
  obtain ⟨z, rfl, hz, q⟩ := h
  obtain ⟨u, rfl, t, rfl⟩ := vals1 r
  have hn := z2v
  exact len_str (by omega) ⟨.int z.length, H, I.tok _, ⟨_, rfl⟩, q⟩
theorem CallR.or {f : Value} {r r' : List V -> Hp -> VK -> Prop} (h : CallR X f r) (h' : CallR X f r') : CallR X f (fun xs H Q => r xs H Q \/ r' xs H Q) := by
  intro pins s σ H xs us Q I rs q
  rcases q with q | q
  . exact h pins s σ H xs us Q I rs q
  . exact h' pins s σ H xs us Q I rs q
theorem z1w : CallR X (.type "tuple") (fun xs H Q => ∃ p ys, xs = [.ref p] /\ ((SqL X.K H p ys /\ ∀ l, H l = none -> Q (.ref l) (upd H l (.tup ys))) \/ (SqT X.K H p ys /\ Q (.ref p) H))) := by
  intro pins s σ H xs us Q I r h
  obtain ⟨p, ys, rfl, h⟩ := h
  obtain ⟨u, rfl, rx⟩ := vals1 r
  cases rx
  rcases h with ⟨hq, q⟩ | ⟨hq, q⟩
  . obtain ⟨its, r', pl, hz⟩ := I.list hq
    have hlen := r'.length
    refine call_tuple_list pl.isList (fun h' kp => ?_) (by simp only [List.size_toArray] <;> omega)
    have I1 : Inv X pins σ H { s with heap := h' } := I.kept (t' := s.toks) kp
    have I2 : Inv X pins σ (upd H h'.objs.size (.tup ys)) { s with heap := h'.push { cls := .type "tuple", data := .seq its.toArray } } :=
      I1.laid (t' := s.toks) (fun b o e => Heap.get?_push_of_some _ e) (Nat.le_refl _) (show ObjOk X.prog X.w _ _ _ (.tup ys) from ⟨hz, its, r', IsTup.new _ _⟩)
    exact ⟨.ref h'.objs.size, _, I2, rfl, q _ (I1.hok.fresh (Nat.le_refl _))⟩
  . obtain ⟨its, r', pl, hz⟩ := I.tuple hq
    exact call_tuple_same pl ⟨.ref p, H, I, rfl, q⟩
def tyV (K : PySem.W.Frag) (T : String) (x : V) (H : Hp) : Prop := match x with
  | .str _ => T = "str"
  | .int _ => T = "int"
  | .ref p => (T = "list" /\ ∃ xs, SqL K H p xs) \/ (T = "tuple" /\ ∃ o, K.lookup p = some o /\ o.cls = .type "tuple" /\ o.dict = none) \/
      (T = "dict" /\ ((∃ kvs, H p = some (.dK kvs)) \/ ∃ kvs, H p = some (.dT kvs))) \/ (T = "set" /\ ∃ S n, H p = some (.set S n))
  | _ => False
theorem z8g {pins : List (Addr × Obj)} {σ : St} {H : Hp} {s : Shared} {T : String} {x : V} {v : Value} (I : Inv X pins σ H s) (r : RelV x v) (ty : tyV X.K T x H) :
    s.TypeIs v T /\ ∀ a, v = .ref a -> ∃ ob, s.heap.get? a = some ob /\ ob.dict = none := by
  cases x with
  | str z =>
    obtain ⟨t, rfl⟩ := r
    cases (show T = "str" from ty)
    exact ⟨typeIs_str s z t, fun _ e => nomatch e⟩
  | int i =>
    obtain ⟨t, rfl⟩ := r
    cases (show T = "int" from ty)
    exact ⟨typeIs_int s i t, fun _ e => nomatch e⟩
  | ref p =>
    cases r
    rcases ty with ⟨rfl, xs, hq⟩ | ⟨rfl, o, hk, hc, hd⟩ | ⟨rfl, hk⟩ | ⟨rfl, S, n, hk⟩
    . obtain ⟨its, _, pl, _⟩ := I.list hq
      refine ⟨pl.isList.typeIs, fun a e => ?_⟩
      cases e
      obtain ⟨o, n, e, c, hd, _⟩ := pl
      exact ⟨o, e, hd⟩
    . refine ⟨⟨o, I.kIn p o hk, hc⟩, fun a e => ?_⟩
      cases e
      exact ⟨o, I.kIn _ o hk, hd⟩
    . have z : ∃ o, s.heap.get? p = some o /\ o.ExactDict := by
        rcases hk with ⟨kvs, hk⟩ | ⟨kvs, hk⟩
        . obtain ⟨_, _, _, _, o, _, _, e, ex, _⟩ := I.hok p _ hk
          exact ⟨o, e, ex⟩
        . obtain ⟨_, _, _, _, o, _, _, e, ex, _⟩ := I.hok p _ hk
          exact ⟨o, e, ex⟩
      obtain ⟨o, e, ex⟩ := z
      refine ⟨⟨o, e, ex.1⟩, fun a e2 => ?_⟩
      cases e2
      exact ⟨o, e, ex.2.1⟩
    . obtain ⟨o, _, _, _, e, ex, _⟩ := I.hok p _ hk
      refine ⟨⟨o, e, ex.1⟩, fun a e2 => ?_⟩
      cases e2
      exact ⟨o, e, ex.2.1⟩
  | _ => exact False.elim ty
def zEG (K : PySem.W.Frag) (T : String) (r : V -> List V -> Hp -> VK -> Prop) (to : TE) : TE := fun σ H Q => to σ H fun x H1 => tyV K T x H1 /\ r x [] H1 Q
def tBM (K : PySem.W.Frag) (T : String) (r : V -> List V -> Hp -> VK -> Prop) (to : TE) (t : TA) : TE := fun σ H Q => to σ H fun x H1 => tyV K T x H1 /\ t σ H1 fun xs H2 => r x xs H2 Q
variable {o e : Expr} {es : List Expr} {to : TE} {t : TA} {name : Str} {apos cpos : Pos} {T id : String} {r : V -> List V -> Hp -> VK -> Prop}
theorem z2Y (pa : PlainAttrs T) (slot : Slot T name id) (hty : typeOf (.builtin id) = pure (.type "method_descriptor")) (hm : MtR X id r) (ho : PE X o to) (ha : PA X (e :: es) t)
    (hbase : attributeBase o name X.env (eval o X.env) = eval o X.env := by rfl)
    (hfew : ((backTo cpos (starEach (e :: es) X.env)).all (fun x => !x.1) && (backToKw cpos (keywordEach [] X.env)).all (fun x => x.1.isSome)
      && decide ((e :: es).length + ([] : List Keyword).length + (if ([] : List Keyword).isEmpty then 0 else 1) < 30)) = true := by rfl)
    (hline : (apos.endLine == cpos.line) = true := by rfl) (hs : starEach (e :: es) X.env = (false, eval e X.env) :: starEach es X.env := by rfl) (hplain : (backTo cpos (starEach es X.env)).any (·.1) = false := by rfl) :
    PE X (.Call (.Attribute o name apos) (e :: es) [] cpos) (tBM X.K T r to t) := by
  intro pins s σ H Q I h
  refine wpAny_Call_method_late hbase hfew hline rfl (thn (ho pins s σ H _ I h) fun v s1 ⟨x, H1, I1, r1, ty, q1⟩ => ?_)
  obtain ⟨h1, h2⟩ := z8g I1 r1 ty
  refine ⟨T, id, pa, slot, hty, h1, h2, ?_⟩
  have hA := ha cpos pins s1 σ H1 _ I1 q1
  rw [hs] at hA ⊢
  refine Calls.callWith_builtin (by show (false || (backTo cpos (starEach es X.env)).any (·.1)) = false; rw [hplain] <;> rfl) (Calls.evalArgs_plain ?_)
  exact thn hA fun us s2 ⟨vs, H2, I2, r2, q2⟩ => hm pins s2 σ H2 x vs v us Q I2 r1 r2 q2
/- xs.append(e), list.index on a module's tuple .. are MtR facts of 06m -/
end
def MtM (X : Cx) (id : String) (r : V -> List V -> Hp -> VK -> Prop) : Prop :=
  ∀ (pins : List (Addr × Obj)) (s : Shared) (σ : St) (H : Hp) (x : V) (xs : List V) (v : Value) (us : List Value) (Q : VK), Inv X pins σ H s -> RelV x v -> Vals xs us -> r x xs H Q ->
    wpAny (model X.prog X.w) X.A (call (.builtin id) (v :: us)) (EP X pins σ Q) X.xe s
theorem Vals.one : ∀ {x : V} {us : List Value}, Vals [x] us -> ∃ u, us = [u] /\ RelV x u
  | _, _, .cons r .nil => ⟨_, rfl, r⟩
theorem Vals.two : ∀ {x y : V} {us : List Value}, Vals [x, y] us -> ∃ u v, us = [u, v] /\ RelV x u /\ RelV y v
  | _, _, _, .cons r (.cons q .nil) => ⟨_, _, rfl, r, q⟩
theorem Vals.zero : ∀ {us : List Value}, Vals [] us -> us = []
  | _, .nil => rfl
theorem Vals.dropLast {xs : List V} {us : List Value} (h : Vals xs us) : Vals xs.dropLast us.dropLast := by
  induction h with
  | nil => exact .nil
  | cons r t ih =>
    cases t with
    | nil => exact .nil
    | cons q t' => exact .cons r ih
theorem Vals.eraseIdx : ∀ {xs : List V} {us : List Value} (i : Nat), Vals xs us -> Vals (xs.eraseIdx i) (us.eraseIdx i)
  | _, _, _, .nil => .nil
  | _, _, 0, .cons _ t => t
  | _, _, i + 1, .cons r t => .cons r (Vals.eraseIdx i t)
theorem Vals.reverse {xs : List V} {us : List Value} (h : Vals xs us) : Vals xs.reverse us.reverse := by
  induction h with
  | nil => exact .nil
  | cons r t ih => rw [List.reverse_cons, List.reverse_cons]; exact Vals.append ih (.cons r .nil)
section
variable {X : Cx} {pins : List (Addr × Obj)} {σ : St} {H : Hp} {s : Shared} {l b : Addr} {xs ys zs : List V}
theorem Inv.lset {its its' : List Value} {n : Nat} {f : Array Value -> Array Value} {t' : Nat} (I : Inv X pins σ H s) (hH : H l = some (.lst xs))
    (e : s.heap.get? l = some { cls := .type "list", data := .seq its.toArray n }) (hf : f its.toArray = its'.toArray) (hv : Vals ys its') (hz : ys.length <= sizeLine) :
    Inv X pins σ (upd H l (.lst ys)) { s with heap := s.heap.update l (Obj.mapSeq f), toks := t' } := by
  have q := PySem.IsL.update e f
  rw [hf] at q
  refine I.write (x := l) (e := l) (by rw [hH]; exact trivial) (.inl rfl) (fun b' u hb hu => (Heap.get?_update_other s.heap (Obj.mapSeq f) (Ne.symm hb)).trans hu) ⟨_, q⟩ ?_
  exact ⟨hz, its', _, hv, q⟩
theorem Inv.lnew {its : List Value} {t' : Nat} (I : Inv X pins σ H s) (hv : Vals ys its) (hz : ys.length <= sizeLine) :
    Inv X pins σ (upd H s.heap.objs.size (.lst ys)) { s with heap := s.heap.push { cls := .type "list", data := .seq its.toArray }, toks := t' } :=
  I.laid (fun _ _ q => Heap.get?_push_of_some _ q) (Nat.le_refl _) ⟨hz, its, 0, hv, Heap.get?_push_size _ rfl⟩
theorem Inv.fresh (I : Inv X pins σ H s) : H s.heap.objs.size = none := I.hok.fresh (Nat.le_refl _)
theorem Inv.lstM (I : Inv X pins σ H s) (hH : H l = some (.lst xs)) : xs.length <= sizeLine /\ ∃ (its : List Value) (n : Nat), Vals xs its /\ xs.length = its.length /\ s.heap.get? l = some { cls := .type "list", data := .seq its.toArray n } := by
  obtain ⟨z, its, n, r, e⟩ := I.hok l _ hH
  exact ⟨z, its, n, r, r.length, e⟩
end
section
variable {X : Cx}
def z9B : V -> List V -> Hp -> VK -> Prop := fun x vs H Q => ∃ l xs y, x = .ref l /\ vs = [y] /\ H l = some (.lst xs) /\ xs.length < sizeLine /\ Q .non (upd H l (.lst (xs ++ [y])))
theorem z1M : MtM X "list.append" z9B := by
  intro pins s σ H x vs v us Q I rx rv h
  obtain ⟨l, xs, y, rfl, rfl, hH, hz, q⟩ := h
  cases rx
  obtain ⟨u, rfl, ru⟩ := rv.one
  obtain ⟨z, its, n, r, hl, e⟩ := I.lstM hH
  refine call_meets F.slot_list_append ⟨_, e, rfl⟩ F.entry_list_append (F.args_list_append_2 _ _) (PySem.list_append l its.toArray n u (by rw [List.size_toArray]; omega)) ⟨e, ?_⟩
  refine ⟨.non, _, I.lset (its' := its ++ [u]) hH e (by simp) (r.append (.cons ru .nil)) ?_, rfl, q⟩
  rw [List.length_append, List.length_singleton]
  omega
def zBU : V -> List V -> Hp -> VK -> Prop := fun x vs H Q => ∃ l b xs zs, x = .ref l /\ vs = [.ref b] /\ H l = some (.lst xs) /\ H b = some (.lst zs) /\ xs.length + zs.length <= sizeLine /\ Q .non (upd H l (.lst (xs ++ zs)))
def zEH : V -> List V -> Hp -> VK -> Prop := fun x vs H Q => ∃ l xs y, x = .ref l /\ vs = [] /\ H l = some (.lst xs) /\ xs[xs.length - 1]? = some y /\ Q y (upd H l (.lst xs.dropLast))
def zCS : V -> List V -> Hp -> VK -> Prop := fun x vs H Q => ∃ l xs i k y, x = .ref l /\ vs = [.int i] /\ H l = some (.lst xs) /\ -(2 ^ 63) <= i /\ i < 2 ^ 63 /\ seqIndex? i xs.length = some k /\ xs[k]? = some y /\ Q y (upd H l (.lst (xs.eraseIdx k)))
def zAu : V -> List V -> Hp -> VK -> Prop := fun x vs H Q => ∃ l xs, x = .ref l /\ vs = [] /\ H l = some (.lst xs) /\ Q .non (upd H l (.lst xs.reverse))
def zCT : V -> List V -> Hp -> VK -> Prop := fun x vs H Q => ∃ l xs, x = .ref l /\ vs = [] /\ H l = some (.lst xs) /\ Q .non (upd H l (.lst []))
def zDT : R2 := fun x y H Q => ∃ l b xs zs, x = .ref l /\ y = .ref b /\ H l = some (.lst xs) /\ H b = some (.lst zs) /\ xs.length + zs.length <= sizeLine /\ ∀ p, H p = none -> Q (.ref p) (upd H p (.lst (xs ++ zs)))
theorem z8h : OpR X (binaryOp .Add) zDT := by
  intro pins s σ H x y v u Q I rx ry h
  obtain ⟨l, b, xs, zs, rfl, rfl, hH, hB, hz, q⟩ := h
  cases rx
  cases ry
  obtain ⟨z, its, n, r, hl, e⟩ := I.lstM hH
  obtain ⟨z2, its2, n2, r2, hl2, e2⟩ := I.lstM hB
  refine PySem.P.add_list e e2 ?_ (by rw [List.size_toArray, List.size_toArray]; omega)
  have ea : its.toArray ++ its2.toArray = (its ++ its2).toArray := by simp
  rw [ea]
  exact ⟨.ref _, _, I.lnew (t' := s.toks) (r.append r2) (by rw [List.length_append]; omega), rfl, q _ I.fresh⟩
def zEI : R2 := fun x y H Q => ∃ l k xs, x = .ref l /\ y = .int k /\ H l = some (.lst xs) /\ -(2 ^ 63) <= k /\ k < 2 ^ 63 /\ xs.length * k.toNat <= sizeLine /\
  ∀ p, H p = none -> Q (.ref p) (upd H p (.lst (List.replicate k.toNat xs).flatten))
end
section
variable {prog : Program} {w : World} {A : Around} {E : Value -> Shared -> Prop} {s : Shared}
end
section
variable {X : Cx}
end
section
variable {κ : Type} [DecidableEq κ]
def z2F (kvs : List (κ × V)) (k : κ) : Option V := (kvs.find? fun kv => decide (kv.1 = k)).map (·.2)
def putK (kvs : List (κ × V)) (k : κ) (v : V) : List (κ × V) :=
  if (kvs.any fun kv => decide (kv.1 = k)) = true then kvs.map (fun kv => if kv.1 = k then (kv.1, v) else kv) else kvs ++ [(k, v)]
def z2Z (kvs : List (κ × V)) (k : κ) : List (κ × V) := kvs.filter fun kv => decide (kv.1 ≠ k)
theorem z3I {p : κ × V} {r : List (κ × V)} {k : κ} (e : p.1 = k) : z2F (p :: r) k = some p.2 := by simp [z2F, List.find?_cons, e]
theorem z3J {p : κ × V} {r : List (κ × V)} {k : κ} (e : ¬ p.1 = k) : z2F (p :: r) k = z2F r k := by simp [z2F, List.find?_cons, e]
theorem z4r (k : κ) : ∀ kvs : List (κ × V), (kvs.any fun kv => decide (kv.1 = k)) = (z2F kvs k).isSome
  | [] => rfl
  | p :: r => by
    rw [List.any_cons]
    by_cases e : p.1 = k
    . simp only [z3I e, decide_eq_true e, Bool.true_or, Option.isSome_some]
    . rw [z3J e, decide_eq_false e, Bool.false_or]; exact z4r k r
theorem RelO.isSome_eq {o : Option V} {u : Option Value} (r : RelO o u) : o.isSome = u.isSome := by
  cases o with
  | none => cases u with
    | none => rfl
    | some _ => exact (show False from r).elim
  | some _ => cases u with
    | none => exact (show False from r).elim
    | some _ => rfl
theorem RelO.getD {o : Option V} {u : Option Value} {d : V} {d' : Value} (r : RelO o u) (rd : RelV d d') : RelV (o.getD d) (u.getD d') := by
  cases o with
  | none => cases u with
    | none => exact rd
    | some _ => exact (show False from r).elim
  | some _ => cases u with
    | none => exact (show False from r).elim
    | some _ => exact r
theorem KV.val {kvs : List (κ × V)} {vs : List (κ × Value)} (r : KV kvs vs) (k : κ) : RelO (z2F kvs k) (valueAt vs k) := by
  unfold KV at r
  induction r with
  | nil => exact True.intro
  | @cons p q ps qs h t ih =>
    obtain ⟨h1, h2⟩ := h
    by_cases e : p.1 = k
    . have e' : q.1 = k := h1.symm.trans e
      have b : valueAt (q :: qs) k = some q.2 := by simp [valueAt, List.find?_cons, e']
      rw [z3I e, b]; exact h2
    . have e' : ¬ q.1 = k := fun z => e (h1.trans z)
      have b : valueAt (q :: qs) k = valueAt qs k := by simp [valueAt, List.find?_cons, e']
      rw [z3J e, b]; exact ih
theorem KV.any {kvs : List (κ × V)} {vs : List (κ × Value)} (r : KV kvs vs) (k : κ) : (kvs.any fun kv => decide (kv.1 = k)) = vs.any fun kv => decide (kv.1 = k) := by
  unfold KV at r
  induction r with
  | nil => rfl
  | cons h t ih => rw [List.any_cons, List.any_cons, ih, h.1]
theorem KV.repl {kvs : List (κ × V)} {vs : List (κ × Value)} (r : KV kvs vs) (k : κ) {y : V} {u : Value} (ry : RelV y u) :
    KV (kvs.map fun kv => if kv.1 = k then (kv.1, y) else kv) (vs.map fun kv => if kv.1 = k then (kv.1, u) else kv) := by
  unfold KV at r ⊢
  induction r with
  | nil => exact .nil
  | @cons p q ps qs h t ih =>
    rw [List.map_cons, List.map_cons]
    refine .cons ?_ ih
    obtain ⟨h1, h2⟩ := h
    by_cases e : p.1 = k
    . rw [if_pos e, if_pos (h1.symm.trans e)]; exact ⟨h1, ry⟩
    . rw [if_neg e, if_neg (fun z => e (h1.trans z))]; exact ⟨h1, h2⟩
theorem KV.put {kvs : List (κ × V)} {vs : List (κ × Value)} (r : KV kvs vs) (k : κ) {y : V} {u : Value} (ry : RelV y u) : KV (putK kvs k y) (stored vs k u) := by
  unfold putK stored
  rw [r.any k]
  by_cases e : (vs.any fun kv => decide (kv.1 = k)) = true
  . rw [if_pos e, if_pos e]; exact r.repl k ry
  . rw [if_neg e, if_neg e]; exact Paired.snoc r ⟨rfl, ry⟩
theorem KV.drop {kvs : List (κ × V)} {vs : List (κ × Value)} (r : KV kvs vs) (k : κ) : KV (z2Z kvs k) (without vs k) := by
  unfold KV at r ⊢
  unfold z2Z without
  induction r with
  | nil => exact .nil
  | @cons p q ps qs h t ih =>
    obtain ⟨h1, h2⟩ := h
    rw [List.filter_cons, List.filter_cons]
    by_cases e : p.1 = k
    . have a : ¬ decide (p.1 ≠ k) = true := by simp [e]
      have b : ¬ decide (q.1 ≠ k) = true := by simp [h1.symm.trans e]
      rw [if_neg a, if_neg b]; exact ih
    . have e' : ¬ q.1 = k := fun z => e (h1.trans z)
      have a : decide (p.1 ≠ k) = true := by simp [e]
      have b : decide (q.1 ≠ k) = true := by simp [e']
      rw [if_pos a, if_pos b]; exact .cons ⟨h1, h2⟩ ih
theorem KV.keys {kvs : List (κ × V)} {vs : List (κ × Value)} (r : KV kvs vs) : kvs.map (·.1) = vs.map (·.1) := by
  unfold KV at r
  induction r with
  | nil => rfl
  | cons h t ih => rw [List.map_cons, List.map_cons, ih, h.1]
theorem KV.length {kvs : List (κ × V)} {vs : List (κ × Value)} (r : KV kvs vs) : kvs.length = vs.length := Paired.length r
theorem z7s (kvs : List (κ × V)) (k : κ) : (z2Z kvs k).length <= kvs.length := List.length_filter_le _ _
end
theorem z6Q {P : Program} {w : World} {k : Key} {u : Value} (r : RelV (kV k) u) : (z0R P w).is k u = true := by
  cases k with
  | inl i => obtain ⟨t, e⟩ := (show ∃ t, u = Value.int i t from r); subst e; exact z4E P w i t
  | inr x => obtain ⟨t, e⟩ := (show ∃ t, u = Value.str x t from r); subst e; exact z4F P w x t
theorem z3h {P : Program} {w : World} : ∀ {ks : List Key} {us : List Value}, Vals (ks.map kV) us -> ItemsAre (z0R P w) ks us
  | [], _, r => by rw [List.map_nil] at r; cases r; exact .nil
  | k :: ks, _, r => by
    rw [List.map_cons] at r
    cases r with
    | cons h t => exact .cons (z6Q h) (z3h t)
abbrev KT (H : Hp) : List (List Key × V) -> List (List Key × Addr × Value) -> Prop := Paired fun p q => p.1 = q.1 /\ H q.2.1 = some (.tup (p.1.map kV)) /\ RelV p.2 q.2.2
theorem KT.val {H : Hp} {kvs : List (List Key × V)} {xs : List (List Key × Addr × Value)} (r : KT H kvs xs) (k : List Key) : RelO (z2F kvs k) ((atKey xs k).map (·.2)) := by
  induction r with
  | nil => exact True.intro
  | @cons p q ps qs h t ih =>
    obtain ⟨h1, _, h2⟩ := h
    by_cases e : p.1 = k
    . have e' : q.1 = k := h1.symm.trans e
      have b : atKey (q :: qs) k = some q.2 := by simp [atKey, List.find?_cons, e']
      rw [z3I e, b]; exact h2
    . have e' : ¬ q.1 = k := fun z => e (h1.trans z)
      have b : atKey (q :: qs) k = atKey qs k := by simp [atKey, List.find?_cons, e']
      rw [z3J e, b]; exact ih
theorem KT.repl {H : Hp} {kvs : List (List Key × V)} {xs : List (List Key × Addr × Value)} (r : KT H kvs xs) (k : List Key) {y : V} {u : Value} (ry : RelV y u) :
    KT H (kvs.map fun kv => if kv.1 = k then (kv.1, y) else kv) (xs.map (putAt k u)) := by
  induction r with
  | nil => exact .nil
  | @cons p q ps qs h t ih =>
    rw [List.map_cons, List.map_cons]
    refine .cons ?_ ih
    obtain ⟨h1, h2, h3⟩ := h
    unfold putAt
    by_cases e : p.1 = k
    . rw [if_pos e, if_pos (h1.symm.trans e)]; exact ⟨h1, h2, ry⟩
    . rw [if_neg e, if_neg (fun z => e (h1.trans z))]; exact ⟨h1, h2, h3⟩
theorem KT.put {H : Hp} {kvs : List (List Key × V)} {xs : List (List Key × Addr × Value)} (r : KT H kvs xs) (k : List Key) {b : Addr} {y : V} {u : Value} (hb : H b = some (.tup (k.map kV))) (ry : RelV y u) :
    KT H (putK kvs k y) (storedH xs k b u) := by
  have e : (kvs.any fun kv => decide (kv.1 = k)) = (atKey xs k).isSome := by
    rw [z4r, (r.val k).isSome_eq, Option.isSome_map]
  unfold putK storedH
  rw [e]
  by_cases q : (atKey xs k).isSome = true
  . rw [if_pos q, if_pos q]; exact r.repl k ry
  . rw [if_neg q, if_neg q]; exact Paired.snoc r ⟨rfl, hb, ry⟩
theorem KT.keeps {H H' : Hp} {kvs : List (List Key × V)} {xs : List (List Key × Addr × Value)} (r : KT H kvs xs) (ht : ∀ b ys, H b = some (.tup ys) -> H' b = some (.tup ys)) : KT H' kvs xs :=
  Paired.mapP r fun _ _ z => ⟨z.1, ht _ _ z.2.1, z.2.2⟩
section
variable {P : Program} {w : World} {H : Hp} {h : Heap} {a : Addr}
theorem zAG {u : HO} (ok : HOk P w H h) (e : Rd H a u) : ObjOk P w H h a u := e.ok ok
theorem z5S {kvs : List (Key × V)} (ok : HOk P w H h) (e : Rd H a (.dK kvs)) : kvs.length <= sizeLine /\ (a == sysModules) = false /\ ∃ vs, KV kvs vs /\ h.DictOf (z0R P w) a vs :=
  show ObjOk P w H h a (.dK kvs) from zAG ok e
theorem z9C {kvs : List (Key × V)} (ok : HOk P w H h) (e : H a = some (.dK kvs)) : kvs.length <= sizeLine /\ (a == sysModules) = false /\ ∃ vs, KV kvs vs /\ h.DictOf (z0R P w) a vs := z5S ok (.inl e)
theorem z6R {ks : List Key} (ok : HOk P w H h) (e : H a = some (.tup (ks.map kV))) : (tupleKind (z0R P w)).is h ks a := by
  obtain ⟨_, its, r, o, h1, h2, n, h3⟩ := (show ObjOk P w H h a (.tup (ks.map kV)) from ok a _ e)
  exact ⟨o, its.toArray, n, h1, h2, h3, by simpa using z3h r⟩
theorem z7t {kvs : List (List Key × V)} (ok : HOk P w H h) (e : Rd H a (.dT kvs)) : kvs.length <= sizeLine /\ (a == sysModules) = false /\
    ∃ xs, KT H kvs xs /\ h.DictOfH (tupleKind (z0R P w)) a xs := by
  obtain ⟨z, y, xs, r, o, es, ep, h1, h2, h3, h4, h5⟩ := (show ObjOk P w H h a (.dT kvs) from zAG ok e)
  refine ⟨z, y, xs, r, o, es, ep, h1, h2, h3, h4, fun x hx => ?_, h5⟩
  have all : ∀ {l : List (List Key × V)} {m : List (List Key × Addr × Value)}, KT H l m -> ∀ x ∈ m, (tupleKind (z0R P w)).is h x.1 x.2.1 := by
    intro l m q
    induction q with
    | nil => intro x hx; exact nomatch hx
    | @cons p q ps qs hq t ih =>
      intro x hx
      rcases List.mem_cons.mp hx with e | hx
      . subst e
        exact z6R ok (by rw [<- hq.1]; exact hq.2.1)
      . exact ih x hx
  exact all r x hx
end
def DGet (H : Hp) (a : Addr) (y : V) (r : Option V) : Prop :=
  (∃ kvs k, Rd H a (.dK kvs) /\ y = kV k /\ r = z2F kvs k) \/ ∃ kvs k b, Rd H a (.dT kvs) /\ y = .ref b /\ H b = some (.tup (k.map kV)) /\ r = z2F kvs k
def DPut (H : Hp) (a : Addr) (y v : V) (H' : Hp) : Prop :=
  (∃ kvs k, H a = some (.dK kvs) /\ y = kV k /\ kvs.length < sizeLine /\ H' = upd H a (.dK (putK kvs k v))) \/
  ∃ kvs k b, H a = some (.dT kvs) /\ y = .ref b /\ H b = some (.tup (k.map kV)) /\ kvs.length < sizeLine /\ H' = upd H a (.dT (putK kvs k v))
theorem DGet.k {H : Hp} {a : Addr} {kvs : List (Key × V)} {k : Key} (e : H a = some (.dK kvs)) : DGet H a (kV k) (z2F kvs k) := .inl ⟨kvs, k, .inl e, rfl, rfl⟩
theorem DGet.t {H : Hp} {a b : Addr} {kvs : List (List Key × V)} {k : List Key} (e : H a = some (.dT kvs)) (eb : H b = some (.tup (k.map kV))) : DGet H a (.ref b) (z2F kvs k) := .inr ⟨kvs, k, b, .inl e, rfl, eb, rfl⟩
theorem DPut.k {H : Hp} {a : Addr} {kvs : List (Key × V)} {k : Key} {v : V} (e : H a = some (.dK kvs)) (hl : kvs.length < sizeLine) : DPut H a (kV k) v (upd H a (.dK (putK kvs k v))) := .inl ⟨kvs, k, e, rfl, hl, rfl⟩
theorem DPut.t {H : Hp} {a b : Addr} {kvs : List (List Key × V)} {k : List Key} {v : V} (e : H a = some (.dT kvs)) (eb : H b = some (.tup (k.map kV))) (hl : kvs.length < sizeLine) :
    DPut H a (.ref b) v (upd H a (.dT (putK kvs k v))) := .inr ⟨kvs, k, b, e, rfl, eb, hl, rfl⟩
section
variable {X : Cx} {pins : List (Addr × Obj)} {σ : St} {H : Hp} {s : Shared} {a : Addr} {y v : V} {u r : Value} {o : Option V} {A : Around} {E : Value -> Shared -> Prop}
theorem Inv.big (I : Inv X pins σ H s) : sysModules < s.heap.objs.size := by
  have h : mainGlobals < s.heap.objs.size := (I.mod.glob.keeps I.bk).lt
  exact Nat.lt_trans (by decide) h
theorem z6S {Q : Value -> Shared -> Prop} (hu : A.units + 1 < cLine) (I : Inv X pins σ H s) (g : DGet H a y (some v)) (ry : RelV y u) (h : ∀ w' s', Inv X pins σ H s' -> RelV v w' -> Q w' s') :
    wpAny (model X.prog X.w) A (getItem (.ref a) u) Q E s := by
  rcases g with ⟨kvs, k, e, ey, l⟩ | ⟨kvs, k, b, e, ey, eb, l⟩
  . subst ey
    obtain ⟨z, hd, vs, rel, dd⟩ := z5S I.hok e
    obtain ⟨w', hw, rw'⟩ := RelO.some_of (v := v) (o := valueAt vs k) (by rw [l]; exact rel.val k)
    exact wpAny_getItem_of (z6Q ry) dd.mapOf hw (h w' _ (I.tok _) rw')
  . subst ey
    cases (show u = Value.ref b from ry)
    obtain ⟨z, hd, xs, rel, dd⟩ := z7t I.hok e
    obtain ⟨w', hw, rw'⟩ := RelO.some_of (v := v) (o := (atKey xs k).map (·.2)) (by rw [l]; exact rel.val k)
    obtain ⟨p, hp, hp2⟩ := Option.map_eq_some_iff.mp hw
    refine wpAny_getItem_heap (tupleKind_room_in1 hu) (z6R I.hok eb) dd hp ?_
    rw [hp2]
    exact h w' _ (I.tok _) rw'
theorem z9D {Q : Value -> Shared -> Prop} (hu : A.units + 1 < cLine) (I : Inv X pins σ H s) (g : DGet H a y o) (ry : RelV y u) (h : ∀ s', Inv X pins σ H s' -> Q (.bool (!o.isSome)) s') :
    wpAny (model X.prog X.w) A (compareOp .NotIn u (.ref a)) Q E s := by
  rcases g with ⟨kvs, k, e, ey, l⟩ | ⟨kvs, k, b, e, ey, eb, l⟩
  . subst ey
    obtain ⟨z, hd, vs, rel, dd⟩ := z5S I.hok e
    refine wpAny_notIn_of (z6Q ry) hd dd.mapOf ?_
    rw [<- (rel.val k).isSome_eq, <- l]
    exact h _ (I.tok _)
  . subst ey
    cases (show u = Value.ref b from ry)
    obtain ⟨z, hd, xs, rel, dd⟩ := z7t I.hok e
    refine wpAny_notIn_heap (tupleKind_room_in1 hu) (z6R I.hok eb) hd dd ?_
    have q := (rel.val k).isSome_eq
    rw [Option.isSome_map] at q
    rw [<- q, <- l]
    exact h _ (I.tok _)
theorem z9E {h' : Heap} {t' : Nat} {ob : HO} (I : Inv X pins σ H s) (mu : Mut (H a)) (hs : Heap.SameBut a s.heap h') (he : ∃ q, h'.get? a = some q) (new : ObjOk X.prog X.w (upd H a ob) h' a ob) :
    Inv X pins σ (upd H a ob) { s with heap := h', toks := t' } :=
  I.write (x := a) (e := a) mu (.inl rfl) (fun b q hb z => (hs.2 b hb).trans z) he new
theorem z8i {P : Program} {w : World} {H' : Hp} {h' : Heap} {kvs : List (Key × V)} {vs : List (Key × Value)} (z : kvs.length <= sizeLine) (hd : (a == sysModules) = false) (rel : KV kvs vs) (dd : h'.DictOf (z0R P w) a vs) :
    ObjOk P w H' h' a (.dK kvs) := ⟨z, hd, vs, rel, dd⟩
end
section
variable {X : Cx} {pins : List (Addr × Obj)} {σ : St} {H : Hp} {s : Shared} {a : Addr} {kvs : List (Key × V)} {k : Key} {u : Value} {A : Around} {E : Value -> Shared -> Prop}
theorem zBV {v : V} {more : List Value} {Q : Value -> Shared -> Prop} (I : Inv X pins σ H s) (e : H a = some (.dK kvs)) (ry : RelV (kV k) u) (l : z2F kvs k = some v) (hm : more = [] \/ ∃ x, more = [x])
    (h : ∀ w' s', Inv X pins σ (upd H a (.dK (z2Z kvs k))) s' -> RelV v w' -> Q w' s') : wpAny (model X.prog X.w) A (call (.builtin "dict.pop") (.ref a :: u :: more)) Q E s := by
  obtain ⟨z, hd, vs, rel, dd⟩ := z9C I.hok e
  obtain ⟨w', hw, rw'⟩ := RelO.some_of (v := v) (o := valueAt vs k) (by rw [<- l]; exact rel.val k)
  have hp : (keyPart u).isSome = true := by
    cases k with
    | inl i => obtain ⟨t, q⟩ := (show ∃ t, u = Value.int i t from ry); subst q; rfl
    | inr x => obtain ⟨t, q⟩ := (show ∃ t, u = Value.str x t from ry); subst q; rfl
  have ha : argsOk "dict.pop" ⟨.ref a :: u :: more, []⟩ := by
    rcases hm with q | ⟨x, q⟩
    . subst q; exact PySem.F.args_dict_pop_2 _ _
    . subst q; exact PySem.F.args_dict_pop_3 _ _ _
  refine call_meetsIn PySem.F.slot_dict_pop dd.typeIs PySem.F.entry_dict_pop ha (meets_dict_pop_there (z0R X.prog X.w) a (z6Q ry) more hm hp)
    ⟨vs, w', dd, by rw [<- rel.length]; exact z, hw, fun h' dd' hs => h w' _ ?_ rw'⟩
  have he : ∃ q, h'.get? a = some q := let ⟨q, _, _, hq, _⟩ := dd'; ⟨q, hq⟩
  exact z9E I (by rw [e]; exact True.intro) hs he (z8i (Nat.le_trans (z7s kvs k) z) hd (rel.drop k) dd')
theorem zBW {Q : Value -> Shared -> Prop} (I : Inv X pins σ H s) (e : Rd H a (.dK kvs)) (h : ∀ t s', Inv X pins σ H s' -> Q (.int kvs.length t) s') : wpAny (model X.prog X.w) A (call (.builtin "len") [.ref a]) Q E s := by
  obtain ⟨z, hd, vs, rel, dd⟩ := z5S I.hok e
  refine call_len_dict hd dd (by rw [<- rel.length]; rw [sizeLine_eq] at z; omega) ?_
  rw [<- rel.length]
  exact h _ _ (I.tok _)
end
def zBX (i : Expr) : Prop := ∀ ov iv, subscripted i false ov iv = operate [ov, iv] (getItem ov iv)
theorem z9F {prog : Program} {w : World} {A : Around} {E : Value -> Shared -> Prop} {s : Shared} {env : Env} {value slice : Expr} {pos : Pos} {T id : String} {Q : Value -> Shared -> Prop}
    (hl : typeLookup (.type T) "__getitem__" = pure (some (.builtin id))) (hs : zBX slice)
    (h : wpAny (model prog w) A (eval value env) (fun o s₁ => wpAny (model prog w) A (eval slice env) (fun i s₂ => s₂.TypeIs o T /\ wpAny (model prog w) A (getItem o i) Q E s₂) E s₁) E s) :
    wpAny (model prog w) A (eval (.Subscript value slice pos) env) Q E s := by
  refine Subscript_ (wpAny_mono h (fun o s₁ h₁ => wpAny_mono h₁ (fun i s₂ h₂ => ?_) fun _ _ x => x) fun _ _ x => x)
  obtain ⟨hT, h₂⟩ := h₂
  unfold subscriptTail
  refine wpAny_bind ?_
  rw [getitemInPython_of_ne hT.not_modules]
  refine wpAny_bind (wpAny_specialOf hT hl ?_)
  have fin : wpAny (model prog w) A (subscripted slice false o i) (fun r s₃ => wpAny (model prog w) A (letTemporaryGo value o r >>= fun _ => pure r) Q E s₃) E s₂ := by
    rw [hs o i]
    exact wpAny_operating (wpAny_mono h₂ (fun r s₃ h₃ => wpAny_bind (wpAny_letTemporaryGo (wpAny_pure h₃))) fun _ _ x => x)
  first
    | exact wpAny_pure (wpAny_bind fin)
    | exact wpAny_bind (wpAny_pure (wpAny_bind fin))
    | exact wpAny_bind fin
theorem z4L {X : Cx} {pins : List (Addr × Obj)} {σ : St} {H : Hp} {s : Shared} {a : Addr} {y : V} {o : Option V} (I : Inv X pins σ H s) (g : DGet H a y o) : s.TypeIs (.ref a) "dict" := by
  rcases g with ⟨kvs, k, e, _, _⟩ | ⟨kvs, k, b, e, _, _, _⟩
  . obtain ⟨_, _, vs, _, dd⟩ := z5S I.hok e
    exact dd.typeIs
  . obtain ⟨_, _, xs, _, dd⟩ := z7t I.hok e
    exact dd.typeIs
def zAH (td ty : TE) : TE := fun σ H Q => td σ H fun x H1 => ty σ H1 fun y H2 => ∃ a v, x = .ref a /\ DGet H2 a y (some v) /\ Q v H2
def zEJ (ty td : TE) : TE := fun σ H Q => ty σ H fun y H1 => td σ H1 fun x H2 => ∃ a o, x = .ref a /\ DGet H2 a y o /\ Q (.bl o.isSome) H2
def z9G (ty td : TE) : TE := fun σ H Q => ty σ H fun y H1 => td σ H1 fun x H2 => ∃ a o, x = .ref a /\ DGet H2 a y o /\ Q (.bl (!o.isSome)) H2
def zDU (td ty tv : TE) : TS := fun D σ H => tv σ H fun v H1 => td σ H1 fun x H2 => ty σ H2 fun y H3 => ∃ a H4, x = .ref a /\ DPut H3 a y v H4 /\ D.nx σ H4
def zDV (td ty tv : TE) (rd : V -> V -> Hp -> VK -> Prop) : TS := fun D σ H => td σ H fun x H1 => ty σ H1 fun y H2 => ∃ a v, x = .ref a /\ DGet H2 a y (some v) /\
  tv σ H2 fun y2 H3 => rd v y2 H3 fun z H4 => ∃ H5, DPut H4 a y z H5 /\ D.nx σ H5
def zDW (td ty : TE) : TS := fun D σ H => td σ H fun x H1 => ty σ H1 fun y H2 => ∃ a kvs k, x = .ref a /\ H2 a = some (.dK kvs) /\ y = kV k /\ (z2F kvs k).isSome = true /\ D.nx σ (upd H2 a (.dK (z2Z kvs k)))
section
variable {X : Cx} {o i e value : Expr} {pos pos' tpos : Pos} {td ty tv : TE}
theorem z6T (hu : X.A.units + 1 < cLine) (ho : PE X o td) (hi : PE X i ty) (hs : zBX i) : PE X (.Subscript o i pos) (zAH td ty) := by
  intro pins s σ H Q I h
  refine z9F PySem.F.slot_dict_getitem.lookup hs (thn (ho pins s σ H _ I h) fun u s1 ⟨x, H1, I1, rx, q1⟩ => thn (hi pins s1 σ H1 _ I1 q1) fun iv s2 ⟨y, H2, I2, ry, a, v, ex, g, q2⟩ => ?_)
  subst ex
  obtain rfl : u = Value.ref a := rx
  exact ⟨z4L I2 g, z6S hu I2 g ry fun w' s3 I3 rw' => ⟨v, H2, I3, rw', q2⟩⟩
theorem z3i (hu : X.A.units + 1 < cLine) (hi : PE X i ty) (ho : PE X o td) : PC X .NotIn i o (z9G ty td) := by
  intro pins s σ H Q I h
  refine thn (hi pins s σ H _ I h) fun iv s1 ⟨y, H1, I1, ry, q1⟩ => thn (ho pins s1 σ H1 _ I1 q1) fun u s2 ⟨x, H2, I2, rx, a, ov, ex, g, q2⟩ => ?_
  subst ex
  obtain rfl : u = Value.ref a := rx
  exact z9D hu I2 g ry fun s3 I3 => ⟨.bl (!ov.isSome), H2, I3, rfl, q2⟩
end
def zCU : TE := fun _ H Q => ∀ p, H p = none -> Q (.ref p) (upd H p (.dK []))
def zCV : TE := fun _ H Q => ∀ p, H p = none -> Q (.ref p) (upd H p (.dT []))
section
variable {X : Cx} {pos : Pos}
end
def z6U : List (TE × TE) -> St -> Hp -> (List (V × V) -> Hp -> Prop) -> Prop
  | [], _, H, Q => Q [] H
  | (tk, tv) :: r, σ, H, Q => tk σ H fun x H1 => tv σ H1 fun y H2 => z6U r σ H2 fun ps H3 => Q ((x, y) :: ps) H3
abbrev VV : List (V × V) -> List (Value × Value) -> Prop := Paired fun p q => RelV p.1 q.1 /\ RelV p.2 q.2
def PPs (X : Cx) (pos : Pos) (keys : List (Option Expr)) (values : List Expr) (trs : List (TE × TE)) : Prop :=
  ∀ (pins : List (Addr × Obj)) (s : Shared) (σ : St) (H : Hp) (Q : List (V × V) -> Hp -> Prop), Inv X pins σ H s -> z6U trs σ H Q ->
    wpAny (model X.prog X.w) X.A (evalPairs (pairTrees keys values X.env pos)) (fun vs s' => ∃ ps H', Inv X pins σ H' s' /\ VV ps vs /\ Q ps H') X.xe s
def zAI (kvs more : List (Key × V)) : List (Key × V) := more.foldl (fun acc kv => putK acc kv.1 kv.2) kvs
def zDX (trs : List (TE × TE)) : TE := fun σ H Q => ∀ p, H p = none -> z6U trs σ (upd H p (.dK [])) fun ps H2 => H2 p = some (.dK []) /\ ∃ kvs : List (Key × V), ps = kvs.map (fun kv => (kV kv.1, kv.2)) /\ kvs.length <= 15 /\ Q (.ref p) (upd H2 p (.dK (zAI [] kvs)))
structure M1 (X : Cx) (o : Expr) (m : Str) (apos : Pos) (e : Expr) (cpos : Pos) : Prop where
  base : attributeBase o m X.env (eval o X.env) = eval o X.env
  few : ((backTo cpos (starEach [e] X.env)).all (fun x => !x.1) && (backToKw cpos (keywordEach [] X.env)).all (fun x => x.1.isSome)
    && decide (([e] : List Expr).length + ([] : List Keyword).length + (if ([] : List Keyword).isEmpty then 0 else 1) < 30)) = true
  line : (apos.endLine == cpos.line) = true
  trees : backTo cpos (starEach [e] X.env) = [(false, eval e X.env)]
structure M2 (X : Cx) (o : Expr) (m : Str) (apos : Pos) (e f : Expr) (cpos : Pos) : Prop where
  base : attributeBase o m X.env (eval o X.env) = eval o X.env
  few : ((backTo cpos (starEach [e, f] X.env)).all (fun x => !x.1) && (backToKw cpos (keywordEach [] X.env)).all (fun x => x.1.isSome)
    && decide (([e, f] : List Expr).length + ([] : List Keyword).length + (if ([] : List Keyword).isEmpty then 0 else 1) < 30)) = true
  line : (apos.endLine == cpos.line) = true
  trees : backTo cpos (starEach [e, f] X.env) = [(false, eval e X.env), (false, eval f X.env)]
def IsD (H : Hp) (a : Addr) : Prop := (∃ kvs, Rd H a (.dK kvs)) \/ ∃ kvs, Rd H a (.dT kvs)
theorem zAJ {X : Cx} {pins : List (Addr × Obj)} {σ : St} {H : Hp} {s : Shared} {a : Addr} (I : Inv X pins σ H s) (d : IsD H a) :
    s.TypeIs (.ref a) "dict" /\ (∀ b, Value.ref a = .ref b -> ∃ ob, s.heap.get? b = some ob /\ ob.dict = none) /\ (a == sysModules) = false := by
  rcases d with ⟨kvs, e⟩ | ⟨kvs, e⟩
  . obtain ⟨_, hd, vs, _, dd⟩ := z5S I.hok e
    refine ⟨dd.typeIs, fun b q => ?_, hd⟩
    cases q
    obtain ⟨ob, _, _, h1, h2, _⟩ := dd
    exact ⟨ob, h1, h2.2.1⟩
  . obtain ⟨_, hd, xs, _, dd⟩ := z7t I.hok e
    refine ⟨dd.typeIs, fun b q => ?_, hd⟩
    cases q
    obtain ⟨ob, _, _, h1, h2, _⟩ := dd
    exact ⟨ob, h1, h2.2.1⟩
section
variable {X : Cx} {pins : List (Addr × Obj)} {σ : St} {H : Hp} {s : Shared} {a : Addr} {y d : V} {u r : Value} {o : Option V} {A : Around} {E : Value -> Shared -> Prop}
end
def zCW (td ty : TE) : TE := fun σ H Q => td σ H fun x H1 => ∃ a, x = .ref a /\ IsD H1 a /\ ty σ H1 fun y H2 => ∃ o, DGet H2 a y o /\ Q (o.getD .non) H2
def zCX (td ty tx : TE) : TE := fun σ H Q => td σ H fun x H1 => ∃ a, x = .ref a /\ IsD H1 a /\ ty σ H1 fun y H2 => tx σ H2 fun z H3 => ∃ o, DGet H3 a y o /\ Q (o.getD z) H3
def zAK (td ty : TE) : TE := fun σ H Q => td σ H fun x H1 => ∃ a, x = .ref a /\ IsD H1 a /\ ty σ H1 fun y H2 => ∃ kvs k v, H2 a = some (.dK kvs) /\ y = kV k /\ z2F kvs k = some v /\ Q v (upd H2 a (.dK (z2Z kvs k)))
def zCY (td ty tx : TE) : TE := fun σ H Q => td σ H fun x H1 => ∃ a, x = .ref a /\ IsD H1 a /\ ty σ H1 fun y H2 => tx σ H2 fun z H3 => ∃ kvs k, H3 a = some (.dK kvs) /\ y = kV k /\
  (∀ v, z2F kvs k = some v -> Q v (upd H3 a (.dK (z2Z kvs k)))) /\ (z2F kvs k = none -> Q z H3)
section
variable {X : Cx} {o e f : Expr} {apos cpos : Pos} {td ty tx : TE}
theorem z7u (ho : PE X o td) (he : PE X e ty) (m : M1 X o "pop" apos e cpos) : PE X (.Call (.Attribute o "pop" apos) [e] [] cpos) (zAK td ty) := by
  intro pins s σ H Q I h
  refine wpAny_Call_method m.base m.few m.line PySem.F.plainAttrs_dict PySem.F.slot_dict_pop PySem.F.type_dict_pop (thn (ho pins s σ H _ I h) fun u s1 ⟨x, H1, I1, rx, a, ex, d, q1⟩ => ?_)
  subst ex
  obtain rfl : u = Value.ref a := rx
  obtain ⟨t1, t2, _⟩ := zAJ I1 d
  refine ⟨t1, t2, ?_⟩
  rw [m.trees]
  refine Calls.callWith_builtin rfl (Calls.evalArgs_plain (Calls.spliced_cons (thn (he pins s1 σ H1 _ I1 q1) fun iv s2 ⟨y, H2, I2, ry, kvs, k, v, ea, ey, l, q2⟩ => Calls.spliced_nil ?_)))
  subst ey
  exact zBV I2 ea ry l (.inl rfl) fun w' s3 I3 rw' => ⟨v, _, I3, rw', q2⟩
end
section
variable {X : Cx} {pins : List (Addr × Obj)} {σ : St} {H : Hp} {s : Shared} {a : Addr} {kvs : List (Key × V)} {A : Around} {E : Value -> Shared -> Prop}
end
section
variable {X : Cx} {pins : List (Addr × Obj)} {σ : St} {H : Hp} {s : Shared} {a : Addr} {y : V} {u : Value} {A : Around} {E : Value -> Shared -> Prop}
end
end L2
namespace Att
open PySem PySem.W PySem.Calls PyProof.Rows
theorem z2a {P : Params} {h : Heap} : ∀ (ns : List Int) (vs : List Value), WellAll P h vs (ns.map WData.int) -> IntsAre vs ns := by
  intro ns
  induction ns with
  | nil =>
    intro vs w
    rw [List.map_nil] at w
    cases w
    exact .nil
  | cons n ns ih =>
    intro vs w
    rw [List.map_cons] at w
    cases w with
    | cons a b =>
      cases a
      exact .cons _ _ (ih _ b)
theorem z6V {l : OpenLaw} {n : Nat} (hn : l.most = some n) {P : Params} {h : Heap} {args : List WData} {vals : List Value}
    (hpre : l.row.toRowW.claim.pre args = true) (hwl : WellAll P h vals args) :
    ∃ a vs ns, vals = [Value.ref a] /\ args = [WData.list (ns.map WData.int)] /\ h.get? a = some { cls := .type "list", data := .seq vs.toArray } /\ IntsAre vs ns /\ ns.length <= n := by
  have hsh : WShape.hasAll [] args [.list .int] = true := (pre_splitW hpre).1
  have hc : l.pre.holds [] { args := args } = true := (pre_splitW hpre).2
  obtain ⟨d, r, rfl, h1, h2⟩ := hasAllW_cons hsh
  obtain rfl := hasAllW_nil h2
  obtain ⟨xs, rfl, h3⟩ := hasW_list h1
  obtain ⟨ns, rfl⟩ := items_int h3
  have hlen : ns.length <= n := by
    unfold OpenLaw.pre at hc
    have h4 : (WTm.not (.lt (.lit (.int (n : Int))) (.len (.arg 0)))).holds [] { args := [.list (ns.map .int)] } = true := by
      have h4 := (holds_andW hc).1
      rw [hn] at h4
      exact h4
    have h5 := condW_of h4 (w_not (w_lt w_lit (w_len_list (w_arg rfl))))
    rw [List.length_map] at h5
    refine Nat.le_of_not_lt fun q => ?_
    have q' : (n : Int) < ((ns.length : Nat) : Int) := by omega
    first
      | (rw [decide_eq_true q'] at h5; exact absurd h5 (by decide))
      | (simp at h5; omega)
  cases hwl with
  | cons w1 w2 =>
    cases w2
    cases w1 with
    | list ho hall => exact ⟨_, _, ns, rfl, rfl, ho, z2a ns _ hall, hlen⟩
theorem z6W (l : OpenLaw) (args : List WData) : l.row.toRowW.claim.post args (.bool true) args = true :=
  postW_of (r := l.row.toRowW) (X := (true == true))
    (show WShape.has [] (.bool true) .bool = true by first | rfl | decide | simp [WShape.has, WShape.arms, WShape.armsAll])
    (show (WTm.eq .res (.lit (.bool true))).value [] { args := args, res := some (.bool true), after := args } = some (.bool (true == true)) from w_eq_bool (w_res rfl) w_lit) rfl
theorem attach_call {l : OpenLaw} {n : Nat} {q : Program} {loose : List Str} {XP : (Str -> Option Value) -> Heap -> Prop} {YP : World -> Heap -> Prop} {d : DefRec}
    (hn : l.most = some n) (hdf : d.params.defaults = [])
    (call : ∀ (w : World) (s₀ s₁ : Shared) (mg mb : Str -> Option Value) (fa : Addr) (o : Obj) (pm cd doc : Value) (a : Addr) (vs : List Value) (ns : List Int),
      Ground q loose [] XP w s₀ mg mb s₁.heap -> YP w s₁.heap ->
      s₁.heap.get? fa = some o -> o.data = .func (docDef d.name d.params d.body d.scope pm cd doc) -> s₁.heap.CodeRec cd d.name -> mg d.name = some (.ref fa) ->
      s₁.heap.get? a = some { cls := .type "list", data := .seq vs.toArray } -> IntsAre vs ns -> ns.length <= n -> s₁.gens = #[] ->
      codeAny (model l.prog w) callerA (.call (.ref fa) ⟨[.ref a], []⟩) (fun r s' => r = .ok (.ret (.bool true)) /\ OldK s₁.heap s'.heap /\ s'.os = s₁.os /\ AllBare s'.gens) s₁) :
    WalkO q loose XP YP l.row.toRowW d [] (fun f vs => PySem.call f vs) := by
  intro w s₀ s₁ mg mb G Y fa o pm cd doc dV kV ho hd hcd hD hmg hg args vals as hpre hlay hrd hwl hlo
  obtain rfl : dV = .none := Dflts.none hD hdf
  obtain rfl : kV = .none := Dflts.noKw hD
  obtain ⟨a, vs, ns, rfl, rfl, hobj, hints, hlen⟩ := z6V hn hpre hwl
  refine enter_call (codeAny_mono (call w s₀ s₁ mg mb fa o pm cd doc a vs ns G Y ho (fd_plain hd) hcd hmg hobj hints hlen hg) fun r s' hq => ?_)
  obtain ⟨rfl, h2, h3, h4⟩ := hq
  exact ⟨.inl ⟨.bool true, .bool true, [], rfl, fun _ => rfl, .bool true, z6W l _, fun _ => ⟨List.Pairwise.nil, fun _ hm => (nomatch hm)⟩⟩, h2, h3, h4⟩
section
variable {prog : Program} {w : World} {A : Around} {E : Value -> Shared -> Prop} {s : Shared} {K : Frag}
def zCZ (h : Heap) : Heap := { h with objs := #[] }
def ledger (h : Heap) (L d : Addr) : List (Addr × Obj) := (List.range h.objs.size).filterMap fun a => if a = L \/ a = d then none else (h.get? a).map fun o => (a, o)
end
end Att
namespace L2
open PySem PySem.Spec PyProof.Rows
theorem z3j : ∀ {vs : List Value} {ns : List Int}, IntsAre vs ns -> Vals (ns.map V.int) vs
  | _, _, .nil => .nil
  | _, _, .cons n t h => .cons ⟨t, rfl⟩ (z3j h)
def zBY (H : Hp) : Prop := ∀ b, H b = none \/ ∃ o xs, H b = some (.frz o (.lst xs))
theorem z7v {P : Program} {w : World} {K : PySem.W.Frag} {mg mb : Str -> Option Value} {CX : CXT} {k : Nat} {fa a : Addr} {fd : FuncData} {x : Str} {sp : Sp} {s₁ : Shared} {vs : List Value} {ns : List Int}
    (KX : K.In s₁.heap) (hns : s₁.heap.Ns mainGlobals mg) (hb : s₁.heap.Ns builtinsNs mb) (hbb : ∀ x : Str, x ≠ "__name__" -> mb x = bootBuiltins x) (hlim : s₁.heap.NoLimit) (hg : s₁.gens = #[])
    (ha : s₁.heap.get? a = some { cls := .type "list", data := .seq vs.toArray }) (hi : IntsAre vs ns) (hl : ns.length <= sizeLine) (hr : Room k callerA)
    (F : ∀ base : Heap, K.In base -> base.Ns mainGlobals mg -> FnOk P w K mg base CX k fa fd [x] sp) (hbind : ∀ (s : Shared) (u : Value), BindsTo s fd ⟨[u], []⟩ [(x, u)])
    (hsp : ∀ H : Hp, zBY H -> SqL K H a (ns.map V.int) -> sp [.ref a] H (fun v _ => v = .bl true) fun _ _ _ => False)
    (hCX : ∀ H e s', CX [] H s₁ (fun _ _ _ => False) e s' -> False) :
    codeAny (model P w) callerA (.call (.ref fa) ⟨[.ref a], []⟩) (fun r s' => r = .ok (.ret (.bool true)) /\ OldK s₁.heap s'.heap /\ s'.os = s₁.os /\ AllBare s'.gens) s₁ := by
  have rv := z3j hi
  have lenV := hi.length
  have core : ∀ H : Hp, zBY H -> SqL K H a (ns.map V.int) -> HOk P w H s₁.heap -> (∀ b, H b ≠ none -> b = a) -> (H a ≠ none -> K.lookup a = none) ->
      codeAny (model P w) callerA (.call (.ref fa) ⟨[.ref a], []⟩) (fun r s' => r = .ok (.ret (.bool true)) /\ OldK s₁.heap s'.heap /\ s'.os = s₁.os /\ AllBare s'.gens) s₁ := by
    intro H hO hS hok hA hK
    have base_of : ∀ {b : Addr} {o : Obj}, s₁.heap.get? b = some o -> H b = none -> (z7f s₁.heap H).get? b = some o := fun e n => z7g e n
    have noA : ∀ {b : Addr} {o : Obj} {es : Array DictEntry} {ep : Nat}, s₁.heap.get? b = some o -> o.data = .dict es ep -> H b = none := fun {b o es ep} e d => by
      cases q : H b with
      | none => rfl
      | some u =>
        have e' : b = a := hA b (by rw [q]; simp)
        subst e'
        rw [ha] at e; cases e
        have d' : Data.seq vs.toArray _ = Data.dict es ep := d
        cases d'
    have nsK : ∀ {b : Addr} {m : Str -> Option Value}, s₁.heap.Ns b m -> (z7f s₁.heap H).Ns b m := fun {b m} ⟨o, es, ep, e, d, r⟩ => ⟨o, es, ep, base_of e (noA e d), d, r⟩
    have hKb : K.In (z7f s₁.heap H) := fun b o e => base_of (KX b o e) (by
      cases q : H b with
      | none => rfl
      | some u =>
        have e' : b = a := hA b (by rw [q]; simp)
        subst e'
        rw [hK (by rw [q]; simp)] at e; cases e)
    have hM : Mod K mg (z7f s₁.heap H) := ⟨hKb, nsK hns, ⟨mb, nsK hb, hbb⟩, let ⟨mc, h1, h2⟩ := hlim; ⟨mc, nsK h1, h2⟩⟩
    have e0 : Env0 P w K mg (z7f s₁.heap H) callerA [] s₁ H := ⟨rfl, hM, fun b o e => z92 e, Nat.le_of_eq (z66 _ _), trivial, fun b hb => absurd (show b ∈ ([] : List Addr) from hb) (by simp), hok, .of_eq hg⟩
    refine codeAny_mono ((F _ hKb (nsK hns)).run callerA [] s₁ H ⟨[.ref a], []⟩ [.ref a] [.ref a] _ _ hr e0 (hbind s₁ (.ref a)) (.cons rfl .nil) (hsp H hO hS)) fun r s' h => ?_
    cases r with
    | error e => exact (hCX H e s' h).elim
    | ok fl =>
      cases fl with
      | next => exact False.elim h
      | brk => exact False.elim h
      | cont => exact False.elim h
      | ret u =>
        obtain ⟨v, H', os, bare, un, hok', r', q⟩ := h
        have q' : v = .bl true := q
        subst q'
        obtain rfl : u = Value.bool true := r'
        refine ⟨rfl, OldK.of_keep fun b o e => ?_, os, bare⟩
        cases q : H b with
        | none => exact un.keep b o e q (by intro z; exact absurd (show b ∈ ([] : List Addr) from z) (by simp)) (by simp)
        | some u =>
          rcases hO b with z | ⟨ob, xs, z⟩
          . rw [q] at z; cases z
          . have z2 := un.frzs b ob _ z
            obtain ⟨e1, _⟩ := hok b _ z
            obtain ⟨e2, _⟩ := hok' b _ z2
            rw [e] at e1; cases e1
            exact e2
  cases hk : K.lookup a with
  | some o =>
    have e := KX a o hk
    rw [ha] at e
    cases e
    refine core (fun _ => none) (fun _ => .inl rfl) (.inr ⟨_, vs.toArray, _, hk, rfl, rfl, rfl, by rw [List.size_toArray, lenV]; exact hl, by simpa using rv⟩) (fun b u z => by have z' : (none : Option HO) = some u := z; cases z') (fun b z => absurd rfl z) fun z => absurd rfl z
  | none =>
    refine core (fun b => if b = a then some (.frz { cls := .type "list", data := .seq vs.toArray } (.lst (ns.map V.int))) else none) (fun b => ?_) (.inl (.inr ⟨{ cls := .type "list", data := .seq vs.toArray }, if_pos rfl⟩)) (fun b u z => ?_) (fun b z => ?_) fun _ => hk
    . by_cases hb : b = a
      . exact .inr ⟨_, _, if_pos hb⟩
      . exact .inl (if_neg hb)
    . by_cases hb : b = a
      . have z' := (if_pos hb).symm.trans z
        cases z'
        subst hb
        exact ⟨ha, by rw [List.length_map]; exact hl, vs, _, rv, ha⟩
      . have z' := (if_neg hb).symm.trans z
        cases z'
    . by_cases hb : b = a
      . exact hb
      . exact absurd (if_neg hb) z
abbrev KOf {K : PySem.W.Frag} {h : Heap} (_ : K.In h) : PySem.W.Frag := K
theorem walk_of {l : PySem.W.OpenLaw} {n k : Nat} {q : Program} {loose : List Str} {XP : (Str -> Option Value) -> Heap -> Prop} {YP : World -> Heap -> Prop} {d : DefRec} {K : Params -> PySem.W.Frag} {CX : World -> CXT} {sp : World -> Sp} {x : Str}
    (hn : l.most = some n) (hn2 : n <= sizeLine) (hdf : d.params.defaults = []) (hr : Room k callerA)
    (hY : ∀ (w : World) (h : Heap), YP w h -> (K w.params).In h)
    (F : ∀ (w : World) (mg : Str -> Option Value) (fa : Addr) (h : Heap), (K w.params).In h -> h.Ns mainGlobals mg -> mg d.name = some (.ref fa) ->
      ∃ fd : FuncData, (∀ (s : Shared) (u : Value), BindsTo s fd ⟨[u], []⟩ [(x, u)]) /\
        ∀ base : Heap, (K w.params).In base -> base.Ns mainGlobals mg -> FnOk l.prog w (K w.params) mg base (CX w) k fa fd [x] (sp w))
    (hsp : ∀ (w : World) (H : Hp) (a : Addr) (ns : List Int), ns.length <= n -> zBY H -> SqL (K w.params) H a (ns.map V.int) -> sp w [.ref a] H (fun v _ => v = .bl true) fun _ _ _ => False)
    (hCX : ∀ (w : World) (H : Hp) (s : Shared) (e : Value) (s' : Shared), CX w [] H s (fun _ _ _ => False) e s' -> False) :
    PySem.W.WalkO q loose XP YP l.row.toRowW d [] (fun f vs => PySem.call f vs) := by
  refine Att.attach_call hn hdf fun w s₀ s₁ mg mb fa o pm cd doc a vs ns G Y ho hd hcd hmg hobj hints hlen hg => ?_
  have KX := hY w _ Y
  obtain ⟨fd, hb, hF⟩ := F w mg fa _ KX G.T.g hmg
  exact z7v KX G.T.g G.T.b G.T.builtins G.T.nolimit hg hobj hints (Nat.le_trans hlen hn2) hr hF hb (fun H hO hS => hsp w H a ns hlen hO hS) fun H e s' => hCX w H s₁ e s'
end L2
/- THE LAST THEOREM (shape; LID, My.* are yours):
   My.Adr: a structure of the addresses that your layer names (classes, functions); My.Txt K t: a structure (Prop) of the equations over K;
   My.txt_mk : {K} {implicit addresses ..} (e1 : nsIn K mainGlobals "law" = some (some (.ref f))) (e2 : K.lookup f = some ⟨oc, od, .func (fnOf "law" "law" params body scope dV kV doc pm an cdv ct), sl⟩) (e3 : codeIn K cdv "law" = true) .. : ∃ t, My.Txt K t
set_option maxRecDepth 100000 in
set_option maxHeartbeats 0 in
theorem PySem.Challenge.cw_LID_holds : PySem.Challenge.rw_LID.Holds := by
  w_on; o_law; k_head; (case hw => w_witness2)
  k_fill
  refine L2.walk_of (l := PySem.Challenge.rw_LID) (n := 63) (k := 40) (x := "script") (CX := fun w => ..) (sp := fun _ => My.sp_law) rfl (by decide) rfl ⟨rfl, by decide, by decide⟩ (fun w h Y => PySem.W.kIn_of Y) ?F ?S ?C
  case F =>
    intro w mg fa h KX G hmg
    have T : ∃ t, My.Txt (L2.KOf KX) t := by
      dsimp only [L2.KOf]
      refine' My.txt_mk ?e1 ?e2 ?e3 ..
      (case e1 => PySem.W.k_is)
      (case e2 => PySem.W.k_is)
      ..
    obtain ⟨t, T⟩ := T
    have e0 := hmg.symm.trans (PySem.W.mg_of KX G T.law)
    cases e0
    exact ⟨_, fun s u => .of_eq rfl, fun base kb nb => My.law_fn T kb nb⟩
  case S => exact fun w H a ns hl hO hS => ..
  case C => exact ..
(the tactic k_is has no namespace: write k_is) -/
namespace L2
open PySem PySem.Spec PyProof.Rows
def inClass (s : Stmt) (j : Nat) : Stmt := match s with
  | .ClassDef _ _ _ body _ _ _ _ _ _ _ => body.getD j (.Pass ⟨0, 0, 0, 0⟩)
  | _ => .Pass ⟨0, 0, 0, 0⟩
def z0F (s : Stmt) : Arguments := match s with
  | .FunctionDef _ a _ _ _ _ _ _ _ _ => a
  | _ => { posonlyargs := [], args := [], vararg := none, kwonlyargs := [], kw_defaults := [], kwarg := none, defaults := [] }
def z0C (s : Stmt) : List Stmt := match s with
  | .FunctionDef _ _ b _ _ _ _ _ _ _ => b
  | _ => []
def z04 (s : Stmt) : Scope := match s with
  | .FunctionDef _ _ _ _ _ _ sc _ _ _ => sc
  | _ => { kind := .function, names := [], isGenerator := false, isCoroutine := false }
abbrev CX0 : CXT := fun _ _ _ _ _ _ => False
abbrev E0 : XK := fun _ _ _ => False
theorem zBZ {X : Cx} : z1d CX0 X E0 := fun _ _ _ _ _ _ _ h => h.elim
structure Fun (K : PySem.W.Frag) (x qual : Str) (st : Stmt) (f : Addr) (fd : FuncData) : Prop where
  ex : ∃ (oc : Value) (od : Option Addr) (kV doc pm : Value) (an : Option Addr) (cdv ct : Value) (osl : Array (Option Value)),
    fd = PySem.W.fnOf x qual (z0F st) (z0C st) (z04 st) .none kV doc pm an cdv ct /\ K.lookup f = some ⟨oc, od, .func fd, osl⟩ /\ PySem.W.codeIn K cdv qual = true
  kp : PySem.W.keepIn K (.ref f) = true
section
variable {P : Program} {w : World} {K : PySem.W.Frag} {mg : Str -> Option Value} {base : Heap}
theorem Fun.ok {x qual : Str} {st : Stmt} {f : Addr} {fd : FuncData} {N ps : List Str} {k : Nat} {sp : Sp} (F : Fun K x qual st f fd) (S : FnScope N ps (z04 st)) (len : ∀ vs H Q E, sp vs H Q E -> vs.length = ps.length)
    (hbody : ∀ (cdv : Value) (A : Around) (outer : List Env) (s : Shared) (H : Hp) (vs : List V) (Q : VK) (E : XK), Room k (A.deeper (envOfC qual (z04 st) s.heap.objs.size f cdv)) -> sp vs H Q E ->
      ∃ t, PSs (z6M CX0 P w K mg base N qual (z04 st) f cdv A outer s H E).nox (z0C st) t /\ t { nx := fun _ H' => Q .non H', rt := Q } (start N vs) H) : FnOk P w K mg base CX0 (k + 1) f fd ps sp := by
  obtain ⟨oc, od, kV, doc, pm, an, cdv, ct, osl, rfl, lk, hcd⟩ := F.ex
  refine z7p lk hcd S len fun A outer s H vs Q E hr hsp => ?_
  obtain ⟨t, h, q⟩ := hbody cdv A outer s H vs Q E hr hsp
  exact ⟨t, h.nox, q⟩
theorem Fun.binds {x qual : Str} {st : Stmt} {f : Addr} {fd : FuncData} {ps : List Str} (F : Fun K x qual st f fd)
    (h : ∀ (kV doc pm : Value) (an : Option Addr) (cdv ct : Value) (us : List Value), us.length = ps.length -> bindArgs (PySem.W.fnOf x qual (z0F st) (z0C st) (z04 st) .none kV doc pm an cdv ct) ⟨us, []⟩ = pure (ps.zip us)) : Binds K fd ps [] := by
  obtain ⟨oc, od, kV, doc, pm, an, cdv, ct, osl, rfl, lk, hcd⟩ := F.ex
  exact .all (h kV doc pm an cdv ct)
theorem z0S {x qual : Str} {st : Stmt} {f : Addr} {oc : Value} {od an : Option Addr} {osl : Array (Option Value)} {kV doc pm cdv ct : Value} (l : K.lookup f = some ⟨oc, od, .func (PySem.W.fnOf x qual (z0F st) (z0C st) (z04 st) .none kV doc pm an cdv ct), osl⟩)
    (c : PySem.W.codeIn K cdv qual = true) (k : PySem.W.keepIn K (.ref f) = true) : Fun K x qual st f (PySem.W.fnOf x qual (z0F st) (z0C st) (z04 st) .none kV doc pm an cdv ct) := ⟨⟨oc, od, kV, doc, pm, an, cdv, ct, osl, rfl, l, c⟩, k⟩
end
theorem z6X {A : Around} {k : Nat} (hr : Room k A) : A.units + 1 < cLine := Nat.lt_of_le_of_lt (Nat.add_le_add_left (by decide : 1 <= 64) _) hr.units
theorem z0D {n : Nat} (h : n <= 1000) : n < sizeLine := Nat.lt_of_le_of_lt h (by decide)
section
variable {X : Cx}
theorem pv (i : Nat) {x : Str} {pos : Pos} (hN : X.N[i]? = some x := by rfl) (hv : Vis X.env.scope x := by first | exact Or.inl rfl | exact Or.inr (Or.inl rfl) | exact Or.inr (Or.inr rfl)) (hd : (x == ("__debug__" : Str)) = false := by decide)
    (hcd : (x == ("__classdict__" : Str)) = false := by decide) : PE X (.Name x pos) (zCH i) := zA2 hN hv hd hcd
theorem z6Y : CallR X (.builtin "len") (fun xs H Q => ∃ a kvs, xs = [V.ref a] /\ H a = some (.dK kvs) /\ Q (.int kvs.length) H) := by
  intro pins s σ H xs us Q I r h
  obtain ⟨a, kvs, rfl, ha, q⟩ := h
  obtain ⟨u, rfl, ru⟩ := vals1 r
  cases ru
  exact zBW I (.inl ha) fun t s' I' => ⟨.int kvs.length, H, I', ⟨t, rfl⟩, q⟩
end
theorem z5T {A B : Prop} (h : B) : if false = true then A else B := by
  rw [if_neg Bool.false_ne_true]
  exact h
theorem z2b {A B : Prop} (h : A) : if true = true then A else B := by
  rw [if_pos rfl]
  exact h
def Same (H H' : Hp) : Prop := ∀ b o, H b = some o -> H' b = some o
theorem Same.refl (H : Hp) : Same H H := fun _ _ h => h
theorem Same.trans {H H1 H2 : Hp} (a : Same H H1) (b : Same H1 H2) : Same H H2 := fun c o h => b c o (a c o h)
theorem Same.free {H H' : Hp} (e : Same H H') {l : Addr} (h : H' l = Option.none) : H l = Option.none := by
  cases q : H l with
  | none => rfl
  | some o =>
    rw [e l o q] at h
    cases h
theorem Same.seq {K : PySem.W.Frag} {H H' : Hp} {a : Addr} {xs : List V} (e : Same H H') (h : SqL K H a xs) : SqL K H' a xs := by
  rcases h with (h | ⟨o, h⟩) | h
  . exact .inl (.inl (e _ _ h))
  . exact .inl (.inr ⟨o, e _ _ h⟩)
  . exact .inr h
section
variable {κ : Type} [DecidableEq κ]
end
end L2
set_option maxHeartbeats 4000000
namespace L2
open PySem PySem.Spec PyProof.Rows
structure Df (K : PySem.W.Frag) (mg : Str -> Option Value) (x : Str) (st : Stmt) (ps : List Str) (f : Addr) (fd : FuncData) : Prop where
  F : Fun K x x st f fd
  b : Binds K fd ps []
  m : mg x = some (.ref f)
def z7w (K : PySem.W.Frag) : Sp := fun vs H Q _ => ∃ (a : Addr) (ns : List Int), vs = [.ref a] /\ SqL K H a (ns.map V.int) /\ ns.length <= 63 /\ ∀ H', Q (.bl true) H'
theorem Same.new {H : Hp} {l : Addr} {o : HO} (h : H l = none) : Same H (upd H l o) := fun b u e => by
  rw [z06 (z08 e h)]
  exact e
theorem Same.tup {K : PySem.W.Frag} {H H' : Hp} {a : Addr} {xs : List V} (e : Same H H') (h : SqT K H a xs) : SqT K H' a xs := by
  rcases h with (h | ⟨o, h⟩) | h
  . exact .inl (.inl (e _ _ h))
  . exact .inl (.inr ⟨o, e _ _ h⟩)
  . exact .inr h
theorem z7x {ns : List Int} {x : V} (h : x ∈ ns.map V.int) : ∃ z, x = .int z := by
  obtain ⟨z, _, e⟩ := List.mem_map.mp h
  exact ⟨z, e.symm⟩
theorem z1Z {b : Bool} {A B : Prop} (hb : b = false) (h : B) : if b = true then A else B := by
  subst hb
  exact z5T h
theorem z3k {b : Bool} {A B : Prop} (hb : b = true) (h : A) : if b = true then A else B := by
  subst hb
  exact z2b h
section
variable {X : Cx}
def zEK : R2 := fun x y H Q => ∃ b c, x = V.bl b /\ y = V.bl c /\ Q (.bl (b == c)) H
def zBa : R2 := fun x y H Q => ∃ b c, x = V.bl b /\ y = V.bl c /\ Q (.bl (b != c)) H
def tyS (H : Hp) : V -> Option String
  | .non => some "NoneType"
  | .bl _ => some "bool"
  | .int _ => some "int"
  | .str _ => some "str"
  | .ref a => match H a with
    | some (.lst _) => some "list"
    | some (.frz _ (.lst _)) => some "list"
    | some (.tup _) => some "tuple"
    | some (.dK _) => some "dict"
    | some (.dT _) => some "dict"
    | _ => none
  | _ => none
theorem zAL {K : PySem.W.Frag} {H : Hp} {x : V} {T : String} (h : tyS H x = some T) : TyOf K H x (.type T) := by
  cases x with
  | non => cases h; exact .non
  | bl b => cases h; exact .bl b
  | int i => cases h; exact .int i
  | str z => cases h; exact .str z
  | byt b => cases h
  | flt b => cases h
  | ty n => cases h
  | ref a =>
    simp only [tyS] at h
    split at h
    . rename_i e; cases h; exact .lst e
    . rename_i e; cases h; exact .frz e
    . rename_i e; cases h; exact .tup e
    . rename_i e; cases h; exact .dK e
    . rename_i e; cases h; exact .dT e
    . cases h
def z5U (T c : String) : Bool := T == c || (T == "bool" && c == "int")
def z8j : List String := ["NoneType", "bool", "int", "str", "list", "tuple", "dict"]
theorem z6Z : ∀ T ∈ z8j, ∀ c ∈ z8j, (if (Value.type T == Value.type c) = true then some true else if PySem.W.kitMeta c = true then (PySem.fastBuiltinMro T).map (·.contains (.type c)) else none) = some (z5U T c) := by decide +kernel
theorem z9H {K : PySem.W.Frag} {T c : String} (hT : T ∈ z8j) (hc : c ∈ z8j) : PySem.W.kitOne K (.type T) (.type c) = some (z5U T c) := z6Z T hT c hc
theorem z3K {H : Hp} {x : V} {T : String} (h : tyS H x = some T) : T ∈ z8j := by
  cases x with
  | non => cases h; decide
  | bl b => cases h; decide
  | int i => cases h; decide
  | str z => cases h; decide
  | byt b => cases h
  | flt b => cases h
  | ty n => cases h
  | ref a =>
    simp only [tyS] at h
    split at h <;> first | (cases h; decide) | cases h
theorem z0c : CallR X (.builtin "isinstance") (fun xs H Q => ∃ x c T, xs = [x, .ty c] /\ c ∈ z8j /\ tyS H x = some T /\ Q (.bl (z5U T c)) H) := by
  intro pins s σ H xs us Q I r h
  obtain ⟨x, c, T, rfl, hc, ht, q⟩ := h
  obtain ⟨v, w', rfl, rx, ry⟩ := vals2 r
  cases (show w' = Value.type c from ry)
  exact z6L I rx (zAL ht) (z9H (z3K ht) hc) fun tk => ⟨.bl (z5U T c), H, I.tok tk, rfl, q⟩
end
theorem z2c {cells : List (Str × Addr)} {f : Str × NameKind -> List (Str × Addr) -> Sem (ForInStep (List (Str × Addr)))}
    (hf : ∀ n k r c, k = NameKind.free -> cells.lookup n = some c -> f (n, k) r = pure (.yield ((n, c) :: r))) (hg : ∀ n k r, k ≠ NameKind.free -> f (n, k) r = pure (.yield r)) :
    ∀ (names : List (Str × NameKind)) (acc : List (Str × Addr)), (∀ y ∈ names, y.2 = .free -> ∃ c, cells.lookup y.1 = some c) -> (∀ x c, acc.lookup x = some c -> cells.lookup x = some c) ->
      ∃ cl, forIn names acc f = (pure cl : Sem _) /\ (∀ x c, cl.lookup x = some c -> cells.lookup x = some c) /\ (∀ x c, acc.lookup x = some c -> ∃ d, cl.lookup x = some d) /\ ∀ y ∈ names, y.2 = .free -> ∃ d, cl.lookup y.1 = some d
  | [], acc, _, ha => ⟨acc, by rw [List.forIn_nil], ha, fun x c e => ⟨c, e⟩, fun _ hy => nomatch hy⟩
  | (n, k) :: r, acc, hn, ha => by
    have hr : ∀ y ∈ r, y.2 = .free -> ∃ c, cells.lookup y.1 = some c := fun y hy => hn y (List.mem_cons_of_mem _ hy)
    by_cases hk : k = .free
    . obtain ⟨c, hc⟩ := hn (n, k) List.mem_cons_self hk
      have ha' : ∀ x d, ((n, c) :: acc).lookup x = some d -> cells.lookup x = some d := fun x d e => by
        rw [List.lookup_cons] at e
        cases hx : x == n with
        | true =>
          rw [hx] at e
          cases e
          rw [beq_iff_eq.mp hx]
          exact hc
        | false =>
          rw [hx] at e
          exact ha x d e
      obtain ⟨cl, e, h1, h2, h3⟩ := z2c hf hg r ((n, c) :: acc) hr ha'
      have hh : ∀ x d, acc.lookup x = some d -> ∃ d', cl.lookup x = some d' := fun x d q => by
        cases hx : x == n with
        | true => exact h2 x c (by rw [List.lookup_cons, hx])
        | false => exact h2 x d (by rw [List.lookup_cons, hx]; exact q)
      refine ⟨cl, ?_, h1, hh, fun y hy e' => ?_⟩
      . rw [List.forIn_cons, hf n k acc c hk hc, pure_bind]
        exact e
      . rcases List.mem_cons.mp hy with rfl | hy
        . exact h2 n c (by rw [List.lookup_cons, beq_self_eq_true])
        . exact h3 y hy e'
    . obtain ⟨cl, e, h1, h2, h3⟩ := z2c hf hg r acc hr ha
      refine ⟨cl, ?_, h1, h2, fun y hy e' => ?_⟩
      . rw [List.forIn_cons, hg n k acc hk, pure_bind]
        exact e
      . rcases List.mem_cons.mp hy with rfl | hy
        . exact absurd e' hk
        . exact h3 y hy e'
theorem z9I {sc : Scope} {env : Env} (hfree : ∀ y ∈ sc.names, y.2 = .free -> ∃ c, env.cells.lookup y.1 = some c) :
    ∃ cl : List (Str × Addr), closureFor sc env = pure cl /\ (∀ x c, cl.lookup x = some c -> env.cells.lookup x = some c) /\ ∀ y ∈ sc.names, y.2 = .free -> ∃ c, cl.lookup y.1 = some c := by
  obtain ⟨cl, e, h1, _, h3⟩ := z2c (cells := env.cells) (f := fun (y : Str × NameKind) r => if (y.2 == NameKind.free) = true then (do let a <- cellOf env y.1; pure (ForInStep.yield ((y.1, a) :: r))) else pure (ForInStep.yield r))
    (fun n k r c hk hc => by
      subst hk
      show (if (NameKind.free == NameKind.free) = true then (cellOf env n >>= fun a => pure (ForInStep.yield ((n, a) :: r))) else pure (ForInStep.yield r)) = _
      rw [if_pos (show (NameKind.free == NameKind.free) = true by decide)]
      have e : cellOf env n = pure c := by unfold cellOf; rw [hc]
      rw [e, pure_bind])
    (fun n k r hk => by
      show (if (k == NameKind.free) = true then (cellOf env n >>= fun a => pure (ForInStep.yield ((n, a) :: r))) else pure (ForInStep.yield r)) = _
      rw [if_neg (by simpa using hk)])
    sc.names [] hfree (fun x c q => nomatch q)
  refine ⟨cl, ?_, h1, h3⟩
  unfold closureFor
  first
    | (rw [e]; rfl)
    | (refine Eq.trans (congrArg (fun t => t >>= fun cs => pure cs) e) ?_; rw [pure_bind])
    | (simp only [bind_pure]; exact e)
theorem z1A {env : Env} : ∀ {names : List (Str × NameKind)} {x : Str}, names.lookup x = some .free ->
    ((names.map fun (n, k) => if (k == NameKind.free && env.scope.kind == .function && env.kindOf n == some .cell) then (n, NameKind.cell) else (n, k)).lookup x = some .cell) \/
    ((names.map fun (n, k) => if (k == NameKind.free && env.scope.kind == .function && env.kindOf n == some .cell) then (n, NameKind.cell) else (n, k)).lookup x = some .free)
  | [], _, h => by cases h
  | (n, k) :: r, x, h => by
    have ih := @z1A env r x
    rw [List.map_cons]
    cases hx : x == n with
    | true =>
      rw [List.lookup_cons, hx] at h
      cases h
      by_cases hc : (NameKind.free == NameKind.free && env.scope.kind == .function && env.kindOf n == some .cell) = true
      . left
        show List.lookup x ((if (NameKind.free == NameKind.free && env.scope.kind == .function && env.kindOf n == some .cell) = true then (n, NameKind.cell) else (n, NameKind.free)) :: _) = _
        rw [if_pos hc, List.lookup_cons, hx]
      . right
        show List.lookup x ((if (NameKind.free == NameKind.free && env.scope.kind == .function && env.kindOf n == some .cell) = true then (n, NameKind.cell) else (n, NameKind.free)) :: _) = _
        rw [if_neg hc, List.lookup_cons, hx]
    | false =>
      rw [List.lookup_cons, hx] at h
      have z : ∀ (y : Str × NameKind) (t : List (Str × NameKind)), y.1 = n -> List.lookup x (y :: t) = List.lookup x t := fun y t e => by
        obtain ⟨y1, y2⟩ := y
        cases (show y1 = n from e)
        rw [List.lookup_cons, hx]
      rw [z _ _ (by
        show (if (k == NameKind.free && env.scope.kind == .function && env.kindOf n == some .cell) = true then (n, NameKind.cell) else (n, k)).1 = n
        split <;> rfl)]
      exact ih h
theorem z1e {env : Env} : ∀ {names : List (Str × NameKind)} {x : Str}, (∀ y ∈ names, y.2 ≠ .cell) ->
    (((names.map fun (n, k) => if (k == NameKind.free && env.scope.kind == .function && env.kindOf n == some .cell) then (n, NameKind.cell) else (n, k)).lookup x = some .cell) \/
    ((names.map fun (n, k) => if (k == NameKind.free && env.scope.kind == .function && env.kindOf n == some .cell) then (n, NameKind.cell) else (n, k)).lookup x = some .free)) -> ∃ y ∈ names, y.1 = x /\ y.2 = .free
  | [], _, _, h => by rcases h with h | h <;> cases h
  | (n, k) :: r, x, hc, h => by
    have ih := @z1e env r x fun y hy => hc y (List.mem_cons_of_mem _ hy)
    rw [List.map_cons] at h
    cases hx : x == n with
    | true =>
      have e : x = n := beq_iff_eq.mp hx
      by_cases hk : k = .free
      . exact ⟨(n, k), List.mem_cons_self, e.symm, hk⟩
      . exfalso
        have q : (if (k == NameKind.free && env.scope.kind == .function && env.kindOf n == some .cell) = true then (n, NameKind.cell) else (n, k)) = (n, k) := by
          rw [if_neg]
          intro z
          rw [Bool.and_eq_true, Bool.and_eq_true] at z
          exact hk (by simpa using z.1.1)
        have h' : List.lookup x ((n, k) :: (r.map fun (n, k) => if (k == NameKind.free && env.scope.kind == .function && env.kindOf n == some .cell) then (n, NameKind.cell) else (n, k))) = some .cell \/
            List.lookup x ((n, k) :: (r.map fun (n, k) => if (k == NameKind.free && env.scope.kind == .function && env.kindOf n == some .cell) then (n, NameKind.cell) else (n, k))) = some .free := by
          rw [<- q]
          exact h
        rw [List.lookup_cons, hx] at h'
        rcases h' with z | z
        . exact hc (n, k) List.mem_cons_self (Option.some.inj z)
        . exact hk (Option.some.inj z)
    | false =>
      have z : ∀ (y : Str × NameKind) (t : List (Str × NameKind)), y.1 = n -> List.lookup x (y :: t) = List.lookup x t := fun y t e => by
        obtain ⟨y1, y2⟩ := y
        cases (show y1 = n from e)
        rw [List.lookup_cons, hx]
      rw [z _ _ (by
        show (if (k == NameKind.free && env.scope.kind == .function && env.kindOf n == some .cell) = true then (n, NameKind.cell) else (n, k)).1 = n
        split <;> rfl)] at h
      obtain ⟨y, hy, e⟩ := ih h
      exact ⟨y, List.mem_cons_of_mem _ hy, e⟩
def z3L (X : Cx) (locs : List Str) (ix : List Nat) : List Str := locs ++ ix.map fun i => X.N.getD i Str.empty
def z8k (k : Nat) (ix : List Nat) (σ : St) : St := List.replicate k none ++ ix.map fun i => (σ[i]?).join
abbrev cxC (X : Cx) (sc : Scope) (cl : List (Str × Addr)) (C : Addr) (N : List Str) (fp : List Addr) (s2 : Shared) (H2 : Hp) (pn : List (Addr × Obj)) : Cx :=
  { X with N := N, s₀ := s2, H₀ := H2, env := compEnvC sc cl C X.env, outer := X.stack, ex := fp, fn := fun _ => false, pn := pn, xe := fun _ _ => False }
structure BlkSc (X : Cx) (sc : Scope) (locs : List Str) (ix : List Nat) : Prop where
  kind : sc.kind = .function
  cell : ∀ y ∈ sc.names, y.2 ≠ .cell
  free : ∀ y ∈ sc.names, y.2 = .free -> X.env.kindOf y.1 = some .cell \/ X.env.kindOf y.1 = some .free
  names : ∀ y ∈ sc.names, y.2 = .local -> sc.names.lookup y.1 = some .local
  fr : ∀ i ∈ ix, ∃ x, X.N[i]? = some x /\ sc.names.lookup x = some .free
section
variable {X : Cx} {pins : List (Addr × Obj)} {σ : St} {H2 : Hp} {s2 : Shared} {sc : Scope} {cl : List (Str × Addr)} {locs : List Str} {ix : List Nat} {fp : List Addr}
theorem z1m {names : List (Str × NameKind)} {x : Str} {k : NameKind} : names.lookup x = some k -> (x, k) ∈ names := by
  induction names with
  | nil => intro h; cases h
  | cons y r ih =>
    obtain ⟨n, j⟩ := y
    intro h
    rw [List.lookup_cons] at h
    cases hx : x == n with
    | true =>
      rw [hx] at h
      cases h
      rw [beq_iff_eq.mp hx]
      exact List.mem_cons_self
    | false =>
      rw [hx] at h
      exact List.mem_cons_of_mem _ (ih h)
theorem zAM (I : Inv X pins σ H2 s2) (B : BlkSc X sc locs ix) (hcl : ∀ x c, cl.lookup x = some c -> X.env.cells.lookup x = some c) (hcl' : ∀ y ∈ sc.names, y.2 = .free -> ∃ c, cl.lookup y.1 = some c)
    (hf : ∀ b ∈ fp, z63 X pins H2 b) {C : Addr} (hC : s2.heap.objs.size <= C) (hfC : ∀ b ∈ fp, b ≠ C) {N : List Str} {pn : List (Addr × Obj)} : (cxC X sc cl C N fp s2 H2 pn).Ok where
  mod := I.ok.mod
  kind := B.kind
  glob := I.ok.glob
  blt := I.ok.blt
  above := hC
  inj := fun x y c h1 h2 => I.ok.inj x y c (hcl x c h1) (hcl y c h2)
  has := fun x h => by
    obtain ⟨y, hy, e, hk⟩ := z1e (env := X.env) B.cell h
    subst e
    exact hcl' y hy hk
  cab := fun x c h _ => nomatch h
  hd := I.ok.hd
  frames := I.ok.frames
  stk := .inl rfl
  exf := fun b hb => ⟨hfC b hb, fun x c e => (hf b hb).2.2.2.2.1 x c (hcl x c e)⟩
  bs := fun b o e => I.bs b o e
  bsz := Nat.le_trans I.ok.bsz I.sz
  noex := fun b o e hb => by
    obtain ⟨_, _, _, h4, _⟩ := hf b hb
    rcases h4 with h | h
    . exact I.ok.noex b o e h
    . exact absurd (Nat.lt_of_lt_of_le (Nat.lt_of_lt_of_le (Heap.lt_size e) I.ok.bsz) h) (Nat.lt_irrefl _)
  exfs := fun b hb z => by
    obtain ⟨_, h2, h3, _⟩ := hf b hb
    rcases List.mem_cons.mp (I.stkSub b z) with e | e
    . exact h2 e
    . exact h3 e
  funs := I.stack
  frf := I.stkFree
theorem z6a (I : Inv X pins σ H2 s2) (B : BlkSc X sc locs ix) (hcl : ∀ x c, cl.lookup x = some c -> X.env.cells.lookup x = some c) (hcl' : ∀ y ∈ sc.names, y.2 = .free -> ∃ c, cl.lookup y.1 = some c)
    (hf : ∀ b ∈ fp, z63 X pins H2 b) (hfl : ∀ b ∈ fp, b < s2.heap.objs.size) {h1 : Heap} {tk : Nat} {m0 : Str -> Option Value} {D C : Addr} {oD : Obj} (hD : s2.heap.objs.size <= D) (hC : s2.heap.objs.size <= C) (hDC : D ≠ C)
    (old : ∀ b o, s2.heap.get? b = some o -> h1.get? b = some o) (ns : h1.Ns C m0) (gD : h1.get? D = some oD) (dD : ∀ v, oD.data ≠ .cell v) :
    Inv (cxC X sc cl C (z3L X locs ix) fp s2 H2 (X.pn ++ pins)) [(D, oD)] (z8k locs.length ix σ) H2 { s2 with heap := h1, toks := tk } := by
  have low : ∀ b o, s2.heap.get? b = some o -> b < s2.heap.objs.size := fun b o e => Heap.lt_size e
  have nst : ∀ b, s2.heap.objs.size <= b -> b ∉ frs X.stack := fun b hb z => by
    obtain ⟨_, o, ho, _⟩ := I.stack.mem z
    exact absurd (Nat.lt_of_lt_of_le (low b o ho) hb) (Nat.lt_irrefl _)
  refine ⟨zAM I B hcl hcl' hf hC fun b hb => Nat.ne_of_lt (Nat.lt_of_lt_of_le (hfl b hb) hC), rfl, I.bare, Un.kept old, ⟨m0, ns, fun i x v e1 e2 e3 => ?_⟩, fun x c e => ?_, I.hok.fresh hC, fun x c e => I.freeC x c (hcl x c e), fun p hp => ?_, I.hok.kept old, ?_⟩
  . have e2' : (z8k locs.length ix σ)[i]? = some (some v) := e2
    have e1' : (z3L X locs ix)[i]? = some x := e1
    unfold z8k at e2'
    unfold z3L at e1'
    by_cases hi : i < locs.length
    . rw [List.getElem?_append_left (by rw [List.length_replicate]; exact hi), List.getElem?_replicate, if_pos hi] at e2'
      cases e2'
    . rw [List.getElem?_append_right (by rw [List.length_replicate]; omega), List.length_replicate, List.getElem?_map] at e2'
      rw [List.getElem?_append_right (by omega), List.getElem?_map] at e1'
      cases hj : ix[i - locs.length]? with
      | none =>
        rw [hj] at e2'
        cases e2'
      | some j =>
        rw [hj] at e2' e1'
        have e4 : (σ[j]?).join = some v := Option.some.inj e2'
        have e5 : X.N.getD j Str.empty = x := Option.some.inj e1'
        obtain ⟨x', hx', hfree⟩ := B.fr j (List.mem_of_getElem? hj)
        have e6 : x' = x := by
          rw [<- e5, List.getD_eq_getElem?_getD, hx']
          rfl
        subst e6
        have e7 : σ[j]? = some (some v) := by
          cases hs : σ[j]? with
          | none => rw [hs] at e4; cases e4
          | some o =>
            rw [hs] at e4
            cases o with
            | none => cases e4
            | some w => cases e4; rfl
        have hk := B.free (x', .free) (z1m hfree) rfl
        obtain ⟨m, _, hl⟩ := I.loc
        obtain ⟨u, r, l⟩ := hl j x' v hx' e7 (hk.elim (fun z => .inr (.inl z)) fun z => .inr (.inr z))
        refine ⟨u, r, .inr ⟨z1A (env := X.env) hfree, ?_⟩⟩
        obtain ⟨c, hc⟩ := hcl' (x', .free) (z1m hfree) rfl
        rcases l with ⟨k, _⟩ | ⟨_, c', hc', z⟩
        . rcases hk with hk | hk
          . rw [hk] at k; cases k
          . rw [hk] at k; cases k
        . have q := hcl x' c hc
          rw [hc'] at q
          cases q
          obtain ⟨o, ho, hd⟩ := z
          exact ⟨_, hc, o, old _ _ ho, hd⟩
  . obtain ⟨v, o, ho, hd⟩ := I.cell x c (hcl x c e)
    exact ⟨v, o, old _ _ ho, hd⟩
  . rcases List.mem_append.mp hp with hp | hp
    . obtain ⟨e, n, ne, nf, d⟩ := I.pin p hp
      refine ⟨old _ _ e, n, Nat.ne_of_lt (Nat.lt_of_lt_of_le (low _ _ e) hC), fun z => ?_, d⟩
      rcases List.mem_cons.mp (I.stkSub p.1 z) with q | q
      . exact ne q
      . exact nf q
    . have e : p = (D, oD) := by simpa using hp
      subst e
      exact ⟨gD, I.hok.fresh hD, hDC, nst D hD, dD⟩
  . show (z8k locs.length ix σ).length = (z3L X locs ix).length
    unfold z8k z3L
    rw [List.length_append, List.length_append, List.length_replicate, List.length_map, List.length_map]
theorem z7y {N : List Str} {pn : List (Addr × Obj)} {C D : Addr} {s' : Shared} {σ' : St} {H' : Hp} {ys : List V} {its : List Value} {n : Nat} (I : Inv X pins σ H2 s2) (hf : ∀ b ∈ fp, z63 X pins H2 b) (hD : s2.heap.objs.size <= D)
    (I' : Inv (cxC X sc cl C N fp s2 H2 pn) [(D, { cls := .type "list", data := .seq its.toArray n })] σ' H' s') (hv : Vals ys its) (hz : ys.length <= sizeLine) : H' D = none /\ Inv X pins σ (upd H' D (.lst ys)) s' := by
  obtain ⟨gD, nD, _⟩ := I'.pin (D, { cls := .type "list", data := .seq its.toArray n }) (List.mem_append_right _ List.mem_cons_self)
  have low : ∀ b o, s2.heap.get? b = some o -> b ≠ D := fun b o e => Nat.ne_of_lt (Nat.lt_of_lt_of_le (Heap.lt_size e) hD)
  have lowH : ∀ b o, H2 b = some o -> b ≠ D := fun b o e => Nat.ne_of_lt (Nat.lt_of_lt_of_le (I.hok.lt e) hD)
  have U : Un (frs X.stack) fp H2 H' s2.heap s'.heap := I'.base
  refine ⟨nD, I.call' (ch := fp) I'.os ⟨U.keep, U.slot, fun b o e hn hx => ?_, U.there, fun b xs e => ?_, fun b o u e => ?_, fun b ps e => ?_⟩ (fun b u e => ?_) I'.bare fun b hb => ?_⟩
  . rw [z06 (low b o e)]
    exact U.free b o e hn hx
  . rw [z06 (lowH b _ e)]
    exact U.tups b xs e
  . rw [z06 (lowH b _ e)]
    exact U.frzs b o u e
  . rw [z06 (lowH b _ e)]
    exact U.tbls b ps e
  . by_cases hb : b = D
    . subst hb
      rw [z05] at e
      cases e
      exact ⟨hz, its, n, hv, gD⟩
    . rw [z06 hb] at e
      exact (I'.hok b u e).stay (fun _ _ _ q => q) (fun c q => by rw [z06 (z08 q nD)]; exact q) fun c xs q => by rw [z06 (z08 q nD)]; exact q
  . obtain ⟨_, f1, _, f3, f4, f5⟩ := hf b hb
    exact ⟨f3, f1, f4, f5⟩
end
section
variable {prog : Program} {w : World} {A : Around} {R : Result -> Shared -> Prop} {s : Shared}
theorem z6b {elt tgt src : Expr} {tests : List Expr} {sc : Scope} {p : Pos} {itv acc : Value} {ev : Env} (J : Nat -> Shared -> Prop)
    (turn : ∀ n s, J n s -> wpAny (model prog w) A (pyNext itv) (fun r s1 => match r with
      | none => R (.ok .next) s1
      | some v => wpAny (model prog w) A (letOwnedTupleGo tgt itv v) (fun _ s2 => wpAny (model prog w) A (assign tgt ev v) (fun _ s3 =>
          wpAny (model prog w) A (forIn tests true fun c r => if r = true then do let ok <- isTrue c ev (eval c ev); pure (ForInStep.yield ok) else pure (ForInStep.yield r)) (fun ok s4 =>
            if ok = true then wpAny (model prog w) A (eval elt ev) (fun x s5 => wpAny (model prog w) A (call (.builtin "list.append") [acc, x]) (fun _ s6 => ∃ m, m < n /\ J m s6) (fun _ _ => False) s5) (fun _ _ => False) s4
            else ∃ m, m < n /\ J m s4) (fun _ _ => False) s3) (fun _ _ => False) s2) (fun _ _ => False) s1) (fun _ _ => False) s)
    (n : Nat) (h : J n s) : codeAny (model prog w) A (.compLoop (.ListComp elt [⟨tgt, src, tests, 0⟩] sc p) 0 itv acc ev) R s := by
  refine codeAny_loop rfl J (fun n s hJ => ?_) n h
  show wpAny _ A ((compTurn (.ListComp elt [⟨tgt, src, tests, 0⟩] sc p) 0 itv acc ev).onRaise (fun x => do noteFrame x ev; theTreesLotGoes x)) _ _ s
  refine wpAny_noted (wpAny_noRaise ?_)
  rw [compTurn_list]
  refine wpAny_bind (wpAny_standAt (wpAny_bind (thn (turn n s hJ) fun r s1 h1 => ?_)))
  cases r with
  | none => exact wpAny_pure h1
  | some v =>
    refine wpAny_bind (thn h1 fun _ s2 h2 => wpAny_bind (thn h2 fun _ s3 h3 => wpAny_bind (thn h3 fun ok s4 h4 => ?_)))
    cases ok with
    | false => exact wpAny_pure ⟨rfl, h4⟩
    | true => exact wpAny_bind (wpAny_bind (thn h4 fun x s5 h5 => wpAny_bind (thn h5 fun _ s6 h6 => wpAny_pure (wpAny_pure ⟨rfl, h6⟩))))
end
def PTs (X : Cx) (tests : List Expr) (t : TT) : Prop :=
  ∀ (pins : List (Addr × Obj)) (s : Shared) (σ : St) (H : Hp) (Q : Bool -> Hp -> Prop), Inv X pins σ H s -> t σ H Q ->
    wpAny (model X.prog X.w) X.A (forIn tests true fun c r => if r = true then do let ok <- isTrue c X.env (eval c X.env); pure (ForInStep.yield ok) else pure (ForInStep.yield r)) (TP X pins σ Q) X.xe s
def zCa : TT := fun _ H Q => Q true H
theorem z1Q {X : Cx} : PTs X [] zCa := fun _ _ _ H _ I h => wpAny_tests_nil ⟨H, I, h⟩
def z7z (J : It) (g : TG) (tt : TT) (te : TE) (Fin : List V -> Hp -> Prop) (W : Nat -> Nat -> St -> List V -> Hp -> Prop) : Prop :=
  ∀ i m σ ys H, W i m σ ys H -> (J.stop i H /\ ys.length <= sizeLine /\ Fin ys H) \/
    (J.go i H /\ ys.length < sizeLine /\ ∀ x H', J.yld i H x H' -> g x σ H' fun σ2 H2 => tt σ2 H2 fun b H3 => if b = true then te σ2 H3 fun y H4 => ∃ m', m' < m /\ W (i + 1) m' σ2 (ys ++ [y]) H4 else ∃ m', m' < m /\ W (i + 1) m' σ2 ys H3)
def zBb (wi : TI) (k : Nat) (ix : List Nat) (g : TG) (tt : TT) (te : TE) : TE := fun σ H Q => wi σ H fun J H1 =>
  ∃ W : Nat -> Nat -> St -> List V -> Hp -> Prop, (∃ m, W 0 m (z8k k ix σ) [] H1) /\ z7z J g tt te (fun ys H => ∀ l, H l = none -> Q (.ref l) (upd H l (.lst ys))) W
section
variable {X : Cx} {elt tgt iter : Expr} {tests : List Expr} {sc : Scope} {pos : Pos} {locs : List Str} {ix : List Nat} {wi : TI} {g : TG} {tt : TT} {te : TE}
theorem z5V {pins : List (Addr × Obj)} {σ : St} {H2 : Hp} {s2 : Shared} {cl : List (Str × Addr)} {fp : List Addr} {it : Addr} {tn : Nat -> Heap -> Prop} {J : It} {W : Nat -> Nat -> St -> List V -> Hp -> Prop} {Fin : List V -> Hp -> Prop} {RR : Value -> Addr -> Result -> Shared -> Prop} {m0 : Nat} {E : Value -> Shared -> Prop}
    (hc : X.calm = true) (B : BlkSc X sc locs ix)
    (hg : ∀ cl C fp s2 H2 pn, PG (cxC X sc cl C (z3L X locs ix) fp s2 H2 pn) tgt g) (ht : ∀ cl C fp s2 H2 pn, PTs (cxC X sc cl C (z3L X locs ix) fp s2 H2 pn) tests tt) (he : ∀ cl C fp s2 H2 pn, PE (cxC X sc cl C (z3L X locs ix) fp s2 H2 pn) elt te)
    (I : Inv X pins σ H2 s2) (T : Turn X.prog X.w X.K tgt J fp it tn) (st2 : tn 0 s2.heap) (hf : ∀ b ∈ fp, z63 X pins H2 b)
    (hcl : ∀ x c, cl.lookup x = some c -> X.env.cells.lookup x = some c) (hcl' : ∀ y ∈ sc.names, y.2 = .free -> ∃ c, cl.lookup y.1 = some c)
    (w0 : W 0 m0 (z8k locs.length ix σ) [] H2) (turn : z7z J g tt te Fin W)
    (hR : ∀ D C s' H' ys m, H' D = none -> s2.heap.objs.size <= C -> H' C = none -> C ≠ D -> Inv X pins σ (upd H' D (.lst ys)) s' -> Fin ys H' -> s'.heap.Ns C m -> RR (.ref D) C (.ok .next) s') :
    wpAny (model X.prog X.w) X.A (newList []) (fun acc s₃ => wpAny (model X.prog X.w) X.A (newFunctionEnv sc X.env.globals cl [] X.env.qual none .none (some X.env)) (fun cenv s₄ =>
      codeAny (model X.prog X.w) X.A (.compStart (.ListComp elt [⟨tgt, iter, tests, 0⟩] sc pos) 0 (.ref it) acc { cenv with scope := relabel sc X.env }) (RR acc cenv.locals) s₄) E s₃) E s2 := by
  refine wpAny_newObj_type (wpAny_newFunctionEnv B.cell (by intro y hy; cases hy) (fun h1 ns1 sb1 => ?_) B.kind)
  dsimp only at ns1 sb1 ⊢
  generalize eH : s2.heap.push { cls := .type "list", dict := none, data := .seq ([] : List Value).toArray } = G at ns1 sb1 ⊢
  have zG : G.objs.size = s2.heap.objs.size + 1 := by rw [<- eH, Heap.size_push]
  have hDC : s2.heap.objs.size ≠ G.objs.size := by omega
  have old : ∀ b o, s2.heap.get? b = some o -> h1.get? b = some o := fun b o e => sb1.extBut b o (Nat.ne_of_lt (Nat.lt_of_lt_of_le (Heap.lt_size e) (by omega))) (Heap.get?_push_of_some _ (eH ▸ Heap.get?_push_of_some _ e))
  have gD : h1.get? s2.heap.objs.size = some { cls := .type "list", data := .seq ([] : List Value).toArray 0 } := sb1.extBut _ _ hDC (Heap.get?_push_of_some _ (eH ▸ Heap.get?_push_size _ rfl))
  have hfl : ∀ b ∈ fp, b < s2.heap.objs.size := fun b hb => by
    obtain ⟨o, e, _⟩ := T.obj 0 s2.heap st2 b hb
    exact Heap.lt_size e
  have Y := fun tk => z6a (tk := tk) (locs := locs) I B hcl hcl' hf hfl (Nat.le_refl _) (by omega : s2.heap.objs.size <= G.objs.size) hDC old ns1 gD (fun v z => by cases z)
  have st1 : tn 0 h1 := T.keep 0 _ _ st2 fun b _ o e => old b o e
  have stat : ∀ {oD : Obj} {H' : Hp}, (∀ b ∈ fp, H' b = none) -> ∀ b ∈ fp, z63 (cxC X sc cl G.objs.size (z3L X locs ix) fp s2 H2 (X.pn ++ pins)) [(s2.heap.objs.size, oD)] H' b := fun {oD H'} hn b hb => by
    obtain ⟨_, f1, f2, _, f4, f5⟩ := hf b hb
    refine ⟨hn b hb, Nat.ne_of_lt (Nat.lt_of_lt_of_le (hfl b hb) (by show s2.heap.objs.size <= G.objs.size; omega)), fun z => ?_, .inl hb, fun x c e => f4 x c (hcl x c e), fun p hp => ?_⟩
    . rcases List.mem_cons.mp (I.stkSub b z) with q | q
      . exact f1 q
      . exact f2 q
    . rcases List.mem_append.mp hp with hp | hp
      . exact f5 p hp
      . have e : p = (s2.heap.objs.size, oD) := by simpa using hp
        rw [e]
        exact Nat.ne_of_gt (hfl b hb)
  have loop : ∀ tk, codeAny (model X.prog X.w) X.A (.compLoop (.ListComp elt [⟨tgt, iter, tests, 0⟩] sc pos) 0 (.ref it) (.ref s2.heap.objs.size) (compEnvC sc cl G.objs.size X.env)) (RR (.ref s2.heap.objs.size) G.objs.size) { s2 with heap := h1, toks := tk } := by
    intro tk
    refine z6b (fun n s => ∃ i σ' ys its nn H', Inv (cxC X sc cl G.objs.size (z3L X locs ix) fp s2 H2 (X.pn ++ pins)) [(s2.heap.objs.size, { cls := .type "list", data := .seq (List.toArray its) nn })] σ' H' s /\ tn i s.heap /\ (∀ b ∈ fp, H' b = none) /\ Vals ys its /\ W i n σ' ys H') ?_ m0
      ⟨0, _, [], [], 0, H2, Y tk, st1, fun b hb => (hf b hb).1, .nil, w0⟩
    rintro n s ⟨i, σ', ys, its, nn, H', I1, st, fr, hv, hw⟩
    rcases turn i n σ' ys H' hw with ⟨stop, hz, fin⟩ | ⟨go, hz, step⟩
    . refine thn (T.done (cxC X sc cl G.objs.size (z3L X locs ix) fp s2 H2 (X.pn ++ pins)) rfl rfl rfl hc i _ s σ' H' (fun _ _ => False) I1 (stat fr) st stop) fun r s1 ⟨er, I2⟩ => ?_
      subst er
      obtain ⟨nD, I3⟩ := z7y I hf (Nat.le_refl _) I2 hv hz
      obtain ⟨m, ns, _⟩ := I2.loc
      exact hR _ _ s1 H' ys m nD (by omega) I2.free (Ne.symm hDC) I3 fin ns
    . refine thn (T.item (cxC X sc cl G.objs.size (z3L X locs ix) fp s2 H2 (X.pn ++ pins)) rfl rfl rfl hc i _ s σ' H' (fun _ _ => False) I1 (stat fr) st go) fun r s3 ⟨u, er, h3⟩ => ?_
      subst er
      refine thn h3 fun _ s5 ⟨x, H5, I5, r5, y5, st5, fr5⟩ => ?_
      have I5' := I5.pinned (stat fr5) (T.obj _ _ st5)
      refine thn (hg cl G.objs.size fp s2 H2 (X.pn ++ pins) _ s5 σ' H5 x u _ I5' r5 (step x H5 y5)) fun _ s6 ⟨σ6, H6, I6, q6⟩ => ?_
      refine thn (ht cl G.objs.size fp s2 H2 (X.pn ++ pins) _ s6 σ6 H6 _ I6 q6) fun b s7 ⟨H7, I7, q7⟩ => ?_
      have tn7 : ∀ {s' : Shared} {σ'' : St} {H'' : Hp}, Inv (cxC X sc cl G.objs.size (z3L X locs ix) fp s2 H2 (X.pn ++ pins)) ([(s2.heap.objs.size, { cls := .type "list", data := .seq (List.toArray its) nn })] ++ z3Y fp s5.heap) σ'' H'' s' -> tn (i + 1) s'.heap /\ ∀ b ∈ fp, H'' b = none := fun J => by
        refine ⟨T.keep _ _ _ st5 fun b hb o e => (J.pin (b, o) (List.mem_append_right _ (List.mem_append_right _ (z1i hb e)))).1, fun b hb => ?_⟩
        obtain ⟨o, e, d⟩ := T.obj _ _ st5 b hb
        exact (J.pin (b, o) (List.mem_append_right _ (List.mem_append_right _ (z1i hb e)))).2.1
      cases b with
      | false =>
        obtain ⟨m', hm, w'⟩ := q7
        exact ⟨m', hm, i + 1, σ6, ys, its, nn, H7, I7.unpinned, (tn7 I7).1, (tn7 I7).2, hv, w'⟩
      | true =>
        refine thn (he cl G.objs.size fp s2 H2 (X.pn ++ pins) _ s7 σ6 H7 _ I7 q7) fun y s8 ⟨yv, H8, I8, r8, q8⟩ => ?_
        obtain ⟨m', hm, w'⟩ := q8
        obtain ⟨gD8, nD8, _⟩ := I8.pin (s2.heap.objs.size, { cls := .type "list", data := .seq (List.toArray its) nn }) (List.mem_append_right _ (List.mem_append_left _ List.mem_cons_self))
        have hl := hv.length
        refine append_at (hsz := by rw [List.size_toArray]; omega) gD8 fun h9 sb9 gD9 => ?_
        have Iu : Inv (cxC X sc cl G.objs.size (z3L X locs ix) fp s2 H2 (X.pn ++ pins)) [] σ6 H8 s8 := I8.pins_of fun p hp => nomatch hp
        have It : Inv (cxC X sc cl G.objs.size (z3L X locs ix) fp s2 H2 (X.pn ++ pins)) [] σ6 H8 { s8 with heap := h9, toks := s8.toks } := Iu.turned (fun b o hb e => (sb9.2 b hb).trans e) nD8 hDC (.inr (Nat.le_refl _))
          (fun x c e => by
            obtain ⟨v, o, ho, _⟩ := I.cell x c (hcl x c e)
            exact Nat.ne_of_lt (Heap.lt_size ho))
          (fun p hp => by
            rcases List.mem_append.mp hp with hp | hp
            . exact Nat.ne_of_lt (Heap.lt_size (I.pin p hp).1)
            . cases hp)
        have gD9' : h9.get? s2.heap.objs.size = some { cls := .type "list", data := .seq (its ++ [y]).toArray (nn + 1) } := by
          rw [gD9, List.push_toArray]
        have In : Inv (cxC X sc cl G.objs.size (z3L X locs ix) fp s2 H2 (X.pn ++ pins)) [(s2.heap.objs.size, { cls := .type "list", data := .seq (its ++ [y]).toArray (nn + 1) })] σ6 H8 { s8 with heap := h9, toks := s8.toks } := It.pins_of fun p hp => by
          have e : p = (s2.heap.objs.size, { cls := .type "list", data := .seq (its ++ [y]).toArray (nn + 1) }) := by simpa using hp
          subst e
          refine ⟨gD9', nD8, hDC, fun z => ?_, fun v z => by cases z⟩
          obtain ⟨_, o, ho, _⟩ := I.stack.mem z
          exact absurd (Heap.lt_size ho) (Nat.lt_irrefl _)
        refine ⟨m', hm, i + 1, σ6, ys ++ [yv], its ++ [y], nn + 1, H8, In, ?_, (tn7 I8).2, Vals.append hv (.cons r8 .nil), w'⟩
        exact T.keep _ _ _ (tn7 I8).1 fun b hb o e => (sb9.2 b (Nat.ne_of_lt (hfl b hb))).trans e
  exact codeAny_compStart_list (loop _) (T.self X.A 0 _ _ _ st1 (loop _))
theorem z1R (hc : X.calm = true) (B : BlkSc X sc locs ix) (hi : PI X tgt iter wi)
    (hg : ∀ cl C fp s2 H2 pn, PG (cxC X sc cl C (z3L X locs ix) fp s2 H2 pn) tgt g) (ht : ∀ cl C fp s2 H2 pn, PTs (cxC X sc cl C (z3L X locs ix) fp s2 H2 pn) tests tt) (he : ∀ cl C fp s2 H2 pn, PE (cxC X sc cl C (z3L X locs ix) fp s2 H2 pn) elt te)
    (hs : ∀ x, foldedSetIterable iter X.env x = pure x := by intro _; rfl) : PE X (.ListComp elt [⟨tgt, iter, tests, 0⟩] sc pos) (zBb wi locs.length ix g tt te) := by
  intro pins s σ H Q I h
  obtain ⟨cl, ecl, hcl, hcl'⟩ := z9I (sc := sc) (env := X.env) fun y hy hk => I.ok.has y.1 (B.free y hy hk)
  rw [eval_ListComp]
  refine wpAny_comprehension_free (use := none) rfl hs ecl B.kind B.names ?_
  refine thn (hi pins s σ H _ I h) fun v s1 h1 => thn h1 fun itv s2 h2 => ?_
  obtain ⟨it, fp, tn, J, H2, e, I2, T, st2, f2, W, ⟨m0, w0⟩, turn⟩ := h2
  subst e
  refine z5V (iter := iter) (pos := pos) (RR := fun acc C => compPost (model X.prog X.w) X.A X.xe none (EP X pins σ Q) acc C) hc B hg ht he I2 T st2 f2 hcl hcl' w0 turn ?_
  intro D C s' H' ys m nD hC nC hCD I3 fin ns
  refine ⟨m, ns, fun h' hs' => ⟨.ref D, _, I3.turned (t' := s'.toks) (fun b o hb e => (hs'.2 b hb).trans e) (by rw [z06 hCD]; exact nC) (Nat.ne_of_gt (Nat.lt_of_lt_of_le I2.lt hC)) (.inr (Nat.le_trans I2.sz hC)) (fun x c e => ?_) (fun p hp => Nat.ne_of_lt (Nat.lt_of_lt_of_le (Heap.lt_size (I2.pin p hp).1) hC)), rfl, fin D nD⟩⟩
  obtain ⟨v, o, ho, _⟩ := I2.cell x c e
  exact Nat.ne_of_lt (Nat.lt_of_lt_of_le (Heap.lt_size ho) hC)
def zDY (i : Nat) (wi : TI) (k : Nat) (ix : List Nat) (g : TG) (tt : TT) (te : TE) : TS := fun D σ H => wi σ H fun J H1 =>
  ∃ W : Nat -> Nat -> St -> List V -> Hp -> Prop, (∃ m, W 0 m (z8k k ix σ) [] H1) /\ z7z J g tt te (fun ys H => ∀ l, H l = none -> D.nx (σ.set i (some (.ref l))) (upd H l (.lst ys))) W
end
section
variable {X : Cx}
theorem z6c : ∀ {bs : List Bool} {us : List Value}, Vals (bs.map V.bl) us -> us = bs.map Value.bool
  | [], _, .nil => rfl
  | b :: r, _, .cons q t => by
    cases (show _ = Value.bool b from q)
    rw [z6c t]
    rfl
theorem range_all (bs : List Bool) : (List.range bs.length).all (fun i => bs.getD i true) = bs.all id := by
  rw [Bool.eq_iff_iff, List.all_eq_true, List.all_eq_true]
  constructor
  . intro h b hb
    obtain ⟨i, hi, e⟩ := List.mem_iff_getElem.mp hb
    have q := h i (List.mem_range.mpr hi)
    rw [List.getD_eq_getElem?_getD, List.getElem?_eq_getElem hi, e] at q
    exact q
  . intro h i hi
    have hi' := List.mem_range.mp hi
    rw [List.getD_eq_getElem?_getD, List.getElem?_eq_getElem hi']
    exact h _ (List.getElem_mem hi')
theorem z2K (hc : X.calm = true) : CallR X (.builtin "all") (fun xs H Q => ∃ (a : Addr) (bs : List Bool), xs = [.ref a] /\ SqL X.K H a (bs.map V.bl) /\ Q (.bl (bs.all id)) H) := by
  intro pins s σ H xs us Q I r h
  obtain ⟨a, bs, rfl, hq, q⟩ := h
  obtain ⟨u, rfl, ru⟩ := vals1 r
  cases (show u = Value.ref a from ru)
  obtain ⟨its, rv, p, _⟩ := I.list hq
  have e := z6c rv
  subst e
  have hh : X.A.in1.handled = none := I.ok.hd hc
  have hlt : a < s.heap.objs.size := by obtain ⟨_, e, _⟩ := p.isList; exact Heap.lt_size e
  refine call_all_walk (wpAny_pyIter_list p.isList ?_)
  refine ⟨s.heap.objs.size, _, _, _, _, _, fun i => bs.getD i true, rfl, Walks.list hh s.heap.objs.size a (Nat.ne_of_lt hlt) (bs.map Value.bool).toArray, ⟨⟨_, Heap.get?_push_size _ rfl, rfl, rfl⟩, p.isList.push _⟩, ?_, fun h' tk k => ?_⟩
  . intro i v s' Q' E' hv hQ
    have e : v = Value.bool (bs.getD i true) := by
      rw [List.getElem?_toArray, List.getElem?_map] at hv
      cases hb : bs[i]? with
      | none => rw [hb] at hv; cases hv
      | some b =>
        rw [hb] at hv
        rw [List.getD_eq_getElem?_getD, hb]
        exact (Option.some.inj hv).symm
    subst e
    exact wpAny_truthy_bool hQ
  . have I' : Inv X pins σ H { s with heap := h', toks := tk } := I.kept fun b o e => k b o (by
      intro z
      have e' : b = s.heap.objs.size := by simpa using z
      exact absurd e' (Nat.ne_of_lt (Heap.lt_size e))) (Heap.get?_push_of_some _ e)
    refine ⟨.bl _, H, I', rfl, ?_⟩
    have e : ((bs.map Value.bool).toArray).size = bs.length := by rw [List.size_toArray, List.length_map]
    rw [e, range_all]
    exact q
theorem ints_get {ns : List Int} {us : List Value} {i : Nat} {v : Value} (r : Vals (ns.map V.int) us) (h : us[i]? = some v) : ∃ t, v = .int (ns.getD i 0) t := by
  have hl := r.length
  have hi : i < us.length := (List.getElem?_eq_some_iff.mp h).1
  rw [List.length_map] at hl
  have hn : ns[i]? = some ns[i] := List.getElem?_eq_getElem (by omega)
  obtain ⟨u, hu, ru⟩ := r.get (i := i) (x := V.int ns[i]) (by rw [List.getElem?_map, hn]; rfl)
  rw [h] at hu
  cases hu
  obtain ⟨t, e⟩ := (show ∃ t, v = Value.int ns[i] t from ru)
  refine ⟨t, ?_⟩
  rw [List.getD_eq_getElem?_getD, hn]
  exact e
theorem pre_take (ns : List Int) : ∀ n, n <= ns.length -> preSum (fun i => ns.getD i 0) n = (ns.take n).sum
  | 0, _ => rfl
  | n + 1, h => by
    have hn : ns[n]? = some ns[n] := List.getElem?_eq_getElem (by omega)
    have e : ns.getD n 0 = ns[n] := by rw [List.getD_eq_getElem?_getD, hn]; rfl
    show preSum (fun i => ns.getD i 0) n + ns.getD n 0 = _
    rw [pre_take ns n (by omega), List.take_succ, hn, e, List.sum_append]
    show _ = (ns.take n).sum + (ns[n] + 0)
    omega
theorem sum_bound {c : Int} (hc : 0 <= c) : ∀ (ns : List Int), (∀ z ∈ ns, -c <= z /\ z <= c) -> -(c * ns.length) <= ns.sum /\ ns.sum <= c * ns.length
  | [], _ => by simp
  | z :: r, h => by
    have ih := sum_bound hc r fun y hy => h y (List.mem_cons_of_mem _ hy)
    have hz := h z List.mem_cons_self
    rw [List.sum_cons, List.length_cons]
    have e : c * ((r.length + 1 : Nat) : Int) = c * (r.length : Int) + c := by
      rw [Int.natCast_add, Int.mul_add]
      simp
    rw [e]
    omega
theorem z6d (hc : X.calm = true) : CallR X (.builtin "sum") (fun xs H Q => ∃ (a : Addr) (ns : List Int), xs = [.ref a] /\ SqL X.K H a (ns.map V.int) /\ ns.length <= 1000000 /\ (∀ z ∈ ns, -1000000000000 <= z /\ z <= (1000000000000 : Int)) /\ Q (.int ns.sum) H) := by
  intro pins s σ H xs us Q I r h
  obtain ⟨a, ns, rfl, hq, hlen, hb, q⟩ := h
  obtain ⟨u, rfl, ru⟩ := vals1 r
  cases (show u = Value.ref a from ru)
  obtain ⟨its, rv, p, _⟩ := I.list hq
  have hl := rv.length
  rw [List.length_map] at hl
  have hh : X.A.in1.handled = none := I.ok.hd hc
  have hlt : a < s.heap.objs.size := by obtain ⟨_, e, _⟩ := p.isList; exact Heap.lt_size e
  have hsz : its.toArray.size = ns.length := by rw [List.size_toArray]; omega
  have bound : ∀ n, n <= ns.length -> InLong (preSum (fun i => ns.getD i 0) n) := fun n hn => by
    rw [pre_take ns n hn]
    have := sum_bound (c := 1000000000000) (by decide) (ns.take n) fun z hz => hb z (List.mem_of_mem_take hz)
    have e : (ns.take n).length = n := by rw [List.length_take]; omega
    rw [e] at this
    unfold InLong
    omega
  refine call_sum_walk (wpAny_pyIter_list p.isList ?_)
  refine ⟨s.heap.objs.size, _, _, _, _, _, fun i => ns.getD i 0, rfl, Walks.list hh s.heap.objs.size a (Nat.ne_of_lt hlt) its.toArray, ⟨⟨_, Heap.get?_push_size _ rfl, rfl, rfl⟩, p.isList.push _⟩, fun b hb' => ?_, fun i v hv => ?_, fun j hj => ?_, fun h' tk t' k => ?_⟩
  . show b < (s.heap.push _).objs.size
    rw [Heap.size_push]
    rcases List.mem_cons.mp hb' with rfl | hb'
    . exact Nat.lt_succ_self _
    . rw [List.mem_singleton.mp hb']
      exact Nat.lt_succ_of_lt hlt
  . exact ints_get rv (by simpa using hv)
  . rw [hsz] at hj
    refine ⟨?_, bound (j + 1) (by omega)⟩
    have hn : ns[j]? = some ns[j] := List.getElem?_eq_getElem (by omega)
    have := hb ns[j] (List.getElem_mem _)
    show InLong (ns.getD j 0)
    rw [List.getD_eq_getElem?_getD, hn]
    unfold InLong
    show -(2 ^ 63) <= ns[j] /\ ns[j] < 2 ^ 63
    omega
  . have I' : Inv X pins σ H { s with heap := h', toks := tk } := I.kept fun b o e => k b o (by
      intro z
      have e' : b = s.heap.objs.size := by simpa using z
      exact absurd e' (Nat.ne_of_lt (Heap.lt_size e))) (Heap.get?_push_of_some _ e)
    rw [hsz, pre_take ns _ (Nat.le_refl _), List.take_length] at *
    exact ⟨.int ns.sum, H, I', ⟨t', rfl⟩, q⟩
end
def Ite (K : PySem.W.Frag) (a : Addr) : It :=
  ⟨fun i H => ∃ xs x, SqL K H a xs /\ xs[i]? = some x, fun i H x H' => ∃ T v, H T = none /\ x = .ref T /\ H' = upd H T (.tup [.int i, v]) /\ ∀ xs, SqL K H a xs -> xs[i]? = some v, fun i H => ∃ xs, SqL K H a xs /\ xs.length <= i⟩
theorem z6e {P : Program} {w : World} {K : PySem.W.Frag} {es : List Expr} {k : Nat} {pos : Pos} (a e it : Addr) (hei : e ≠ it) :
    Turn P w K (.Tuple es k pos) (Ite K a) [e, it] e (fun i h => (∃ old, IsEnum h e it (i : Nat) old) /\ h.IsListIter it a i) where
  mem := List.mem_cons_self
  obj := fun i h st b hb => by
    obtain ⟨⟨old, he⟩, o, hi, hc, hd⟩ := st
    rcases List.mem_cons.mp hb with rfl | hb
    . exact ⟨_, he, fun v z => by cases z⟩
    . rw [List.mem_singleton.mp hb]
      exact ⟨o, hi, fun v z => by rw [hd] at z; cases z⟩
  keep := fun i h h' st k => ⟨let ⟨old, he⟩ := st.1; ⟨old, k e List.mem_cons_self _ he⟩, st.2.at fun o q => k it (List.mem_cons_of_mem _ List.mem_cons_self) o q⟩
  item := by
    intro X hP hw hK hc i pins s σ H E I hf st hg
    subst hP hw hK
    obtain ⟨xs, x, hq, hx⟩ := hg
    obtain ⟨its, rv, p, hz⟩ := I.list hq
    obtain ⟨u, hu, ru⟩ := rv.get hx
    obtain ⟨⟨old, he⟩, hit⟩ := st
    obtain ⟨f0, f1, f2, f3, f4, f5⟩ := hf e List.mem_cons_self
    obtain ⟨g0, g1, g2, g3, g4, g5⟩ := hf it (List.mem_cons_of_mem _ List.mem_cons_self)
    refine wpAny_pyNext_enum_item he hit p.isList (x := u) (by simpa using hu) hei fun h' ho hit' hT hsz hk => ?_
    refine ⟨.ref s.heap.objs.size, rfl, wpAny_letOwnedTupleGo_enum ho fun h'' he'' sb => ?_⟩
    have nT : H s.heap.objs.size = none := I.hok.fresh (Nat.le_refl _)
    have kk : ∀ b o, b ≠ e -> b ≠ it -> s.heap.get? b = some o -> h''.get? b = some o := fun b o b1 b2 q => (sb.2 b b1).trans (hk b o b1 b2 q)
    have hTe : s.heap.objs.size ≠ e := Nat.ne_of_gt (Heap.lt_size he)
    have nb : ∀ b u, H b = some u -> b ≠ e /\ b ≠ it := fun b u q => ⟨fun z => (by rw [z, f0] at q; cases q), fun z => (by rw [z, g0] at q; cases q)⟩
    have gT : h''.get? s.heap.objs.size = some { cls := .type "tuple", data := .seq #[.int i s.toks, u] } := (sb.2 _ hTe).trans hT
    have I1 : Inv X pins σ (upd H s.heap.objs.size (.tup [.int i, x])) { s with heap := h'', toks := s.toks + 1 } := by
      refine I.step (g' := s.gens) (d' := s.drawn) (ch := [e, it]) (fun b hb => ?_) (fun b o _ _ hb q _ => kk b o (fun z => hb (by simp [z])) (fun z => hb (by simp [z])) q) (fun b o _ _ hb q _ => ⟨o.slots, kk b o (fun z => hb (by simp [z])) (fun z => hb (by simp [z])) q⟩) (fun b o _ q n => ?_)
        (fun b o hb q => ⟨o, kk b o (fun z => hb (by simp [z])) (fun z => hb (by simp [z])) q⟩) (fun b ys q => ?_) (fun b ob y q => ?_) (fun b ps q => ⟨#[], ?_⟩) (fun m hm => ?_) (fun b y q => ?_) I.bare
      . rcases List.mem_cons.mp hb with rfl | hb
        . exact ⟨f3, f1, f4, f5⟩
        . rw [List.mem_singleton.mp hb]
          exact ⟨g3, g1, g4, g5⟩
      . rw [z06 (Nat.ne_of_lt (Heap.lt_size q))]
        exact n
      . rw [z06 (z08 q nT)]
        exact q
      . rw [z06 (z08 q nT)]
        exact q
      . rw [z06 (z08 q nT), q]
        simp
      . obtain ⟨o, es', ep, ho', r⟩ := hm
        exact ⟨o, es', ep, kk _ o (Ne.symm f1) (Ne.symm g1) ho', r⟩
      . by_cases hb : b = s.heap.objs.size
        . subst hb
          rw [z05] at q
          cases q
          exact ⟨by show 2 <= sizeLine; decide, [.int i s.toks, u], .cons ⟨_, rfl⟩ (.cons ru .nil), _, gT, rfl, _, rfl⟩
        . rw [z06 hb] at q
          refine (I.hok b y q).stay (fun c v hc' z => ?_) (fun c z => by rw [z06 (z08 z nT)]; exact z) fun c ys z => by rw [z06 (z08 z nT)]; exact z
          rcases hc' with z' | z'
          . subst z'
            exact kk c v (nb c y q).1 (nb c y q).2 z
          . exact kk c v (nb c _ z').1 (nb c _ z').2 z
    refine ⟨.ref s.heap.objs.size, _, I1, rfl, ⟨_, x, nT, rfl, rfl, fun ys hy => by rw [I.list_inj hy hq]; exact hx⟩, ⟨⟨u, by simpa using he''⟩, hit'.at fun o q => (sb.2 it (Ne.symm hei)).trans q⟩, fun b hb => ?_⟩
    have hn := (hf b hb).1
    have lt : b < s.heap.objs.size := by
      rcases List.mem_cons.mp hb with rfl | hb
      . exact Heap.lt_size he
      . rw [List.mem_singleton.mp hb]
        obtain ⟨o, q, _⟩ := hit
        exact Heap.lt_size q
    rw [z06 (Nat.ne_of_lt lt)]
    exact hn
  done := by
    intro X hP hw hK hc i pins s σ H E I hf st hg
    subst hP hw hK
    obtain ⟨xs, hq, hx⟩ := hg
    obtain ⟨its, rv, p, hz⟩ := I.list hq
    obtain ⟨⟨old, he⟩, hit⟩ := st
    obtain ⟨g0, g1, g2, g3, g4, g5⟩ := hf it (List.mem_cons_of_mem _ List.mem_cons_self)
    have hl := rv.length
    exact wpAny_pyNext_enum_end (I.ok.hd hc) he hit p.isList (by simp; omega) fun h' eb => ⟨rfl, I.turned (t' := s.toks) (fun b o hb q => eb b o hb q) g0 g1 g3 g4 g5⟩
  self := fun _ _ _ _ _ st h => let ⟨_, he⟩ := st.1; wpAny_pyIter_enum he h
section
variable {X : Cx}
def zBc (K : PySem.W.Frag) (ta : TA) : TI := fun σ H R => ta σ H fun vs H1 => ∃ a, vs = [.ref a] /\ (∃ xs, SqL K H1 a xs) /\ R (Ite K a) H1
theorem z9J {l : Expr} {ta : TA} {p pos : Pos} {es : List Expr} {k : Nat} {tp : Pos} (hg : Gl X "enumerate") (hm : X.mg "enumerate" = none) (ha : PA X [l] ta) (hs : starEach [l] X.env = [(false, eval l X.env)] := by rfl) :
    PI X (.Tuple es k tp) (.Call (.Name "enumerate" p) [l] [] pos) (zBc X.K ta) := by
  intro pins s σ H R I h
  refine Call_ (z1u I hg hm boot_enumerate (PyProof.Rows.callWith_type1 (thn (ha pos pins s σ H _ I h) fun us s1 ⟨vs, H1, I1, r1, q1⟩ => ?_) hs rfl))
  obtain ⟨a, e, ⟨xs, hq⟩, q⟩ := q1
  subst e
  obtain ⟨u, rfl, ru⟩ := vals1 r1
  cases (show u = Value.ref a from ru)
  obtain ⟨its, rv, pl, hz⟩ := I1.list hq
  refine call_enumerate_list pl.isList fun h' he hit hsz hk => ?_
  refine wpAny_pyIter_enum (s := { s1 with heap := h' }) he ?_
  have n1 : H1 s1.heap.objs.size = none := I1.hok.fresh (Nat.le_refl _)
  have n2 : H1 (s1.heap.objs.size + 1) = none := I1.hok.fresh (Nat.le_succ _)
  refine ⟨s1.heap.objs.size + 1, [s1.heap.objs.size + 1, s1.heap.objs.size], _, _, H1, rfl, I1.kept (t' := s1.toks) hk, z6e a _ _ (Nat.succ_ne_self _), ⟨⟨_, by simpa using he⟩, hit⟩, fun b hb => ?_, q⟩
  rcases List.mem_cons.mp hb with rfl | hb
  . exact I1.fpOk (Nat.le_succ _) n2
  . rw [List.mem_singleton.mp hb]
    exact I1.fpOk (Nat.le_refl _) n1
end
theorem z80 {K : PySem.W.Frag} {a : Addr} {xs : List V} {g : TG} {tb : TS} {D : Ends} {σ : St} {H : Hp} (Pv : Nat -> St -> Hp -> Prop) (h0 : Pv 0 σ H) (hl : ∀ i σ H, i <= xs.length -> Pv i σ H -> SqL K H a xs)
    (hs : ∀ (i : Nat) x σ H T, xs[i]? = some x -> Pv i σ H -> H T = none -> g (.ref T) σ (upd H T (.tup [.int i, x])) fun σ2 H2 => tb { D with nx := Pv (i + 1), ct := Pv (i + 1), bk := D.nx } σ2 H2) (hd : ∀ σ H, Pv xs.length σ H -> D.nx σ H) :
    ∃ W : Nat -> Nat -> St -> Hp -> Prop, (∃ m, W 0 m σ H) /\ ∀ i m σ H, W i m σ H ->
      ((Ite K a).stop i H /\ D.nx σ H) \/ ((Ite K a).go i H /\ ∃ N : St -> Hp -> Prop, (∀ σ' H', N σ' H' -> ∃ m', m' < m /\ W (i + 1) m' σ' H') /\ ∀ x H', (Ite K a).yld i H x H' -> g x σ H' fun σ2 H2 => tb { D with nx := N, ct := N, bk := D.nx } σ2 H2) := by
  refine ⟨fun i m σ H => m = xs.length - i /\ i <= xs.length /\ Pv i σ H, ⟨xs.length, by simp, Nat.zero_le _, h0⟩, ?_⟩
  rintro i m σ H ⟨rfl, hi, p⟩
  have q := hl i σ H hi p
  by_cases hlt : i < xs.length
  . refine .inr ⟨⟨xs, xs[i], q, List.getElem?_eq_getElem hlt⟩, Pv (i + 1), fun σ' H' p' => ⟨xs.length - (i + 1), by omega, rfl, hlt, p'⟩, fun x H' y => ?_⟩
    obtain ⟨T, v, nT, rfl, rfl, hv⟩ := y
    exact hs i v σ H T (hv xs q) p nT
  . have e : i = xs.length := by omega
    subst e
    exact .inl ⟨⟨xs, q, Nat.le_refl _⟩, hd σ H p⟩
def Itv (K : PySem.W.Frag) (a : Addr) (xs : List V) : It :=
  ⟨fun i H => i < xs.length /\ SqL K H a xs, fun i H x H' => H' = H /\ xs[xs.length - 1 - i]? = some x, fun i _ => i = xs.length⟩
theorem z81 {P : Program} {w : World} {K : PySem.W.Frag} {tg : Expr} (a it : Addr) (xs : List V) :
    Turn P w K tg (Itv K a xs) [it] it (fun i h => h.IsRevIter it a ((xs.length : Int) - 1 - (i : Int))) where
  mem := List.mem_cons_self
  obj := fun i h st b hb => by
    rw [List.mem_singleton.mp hb]
    obtain ⟨o, e, c, d⟩ := st
    exact ⟨o, e, fun v z => by rw [d] at z; cases z⟩
  keep := fun i h h' st k => st.at fun o e => k it List.mem_cons_self o e
  item := by
    intro X hP hw hK hc i pins s σ H E I hf st hg
    subst hP hw hK
    obtain ⟨hi, hq⟩ := hg
    obtain ⟨its, rv, p, hz⟩ := I.list hq
    have hl := rv.length
    have hx : xs[xs.length - 1 - i]? = some (xs[xs.length - 1 - i]'(by omega)) := List.getElem?_eq_getElem (by omega)
    obtain ⟨u, hu, ru⟩ := rv.get hx
    obtain ⟨f0, f1, f2, f3, f4, f5⟩ := hf it List.mem_cons_self
    have e : (xs.length : Int) - 1 - (i : Int) = ((xs.length - 1 - i : Nat) : Int) := by omega
    have st' : s.heap.IsRevIter it a ((xs.length - 1 - i : Nat) : Int) := by rw [<- e]; exact st
    refine wpAny_pyNext_rev_item st' p.isList (x := u) (by simpa using hu) fun h' st1 sb => ?_
    have I1 : Inv X pins σ H { s with heap := h' } := I.turned (t' := s.toks) (fun b o hb q => (sb.2 b hb).trans q) f0 f1 f3 f4 f5
    obtain ⟨o, q, c, d⟩ := id st1
    have e2 : ((xs.length - 1 - i : Nat) : Int) - 1 = (xs.length : Int) - 1 - ((i + 1 : Nat) : Int) := by omega
    refine ⟨u, rfl, z5I (s := { s with heap := h' }) q c d (by decide) ⟨_, H, I1, ru, ⟨rfl, hx⟩, ?_, fun b hb => (hf b hb).1⟩⟩
    rw [<- e2]
    exact st1
  done := by
    intro X hP hw hK hc i pins s σ H E I hf st hg
    subst hP hw hK
    cases (show i = xs.length from hg)
    obtain ⟨f0, f1, f2, f3, f4, f5⟩ := hf it List.mem_cons_self
    have e : (xs.length : Int) - 1 - (xs.length : Int) = -1 := by omega
    have st' : s.heap.IsRevIter it a (-1) := by rw [<- e]; exact st
    exact wpAny_pyNext_rev_end (I.ok.hd hc) st' fun h' eb => ⟨rfl, I.turned (t' := s.toks) (fun b o hb q => eb b o hb q) f0 f1 f3 f4 f5⟩
  self := fun _ _ _ _ _ st h => wpAny_pyIter_revIter st h
section
variable {X : Cx} {tg : Expr}
def zDZ (K : PySem.W.Frag) (ta : TA) : TI := fun σ H R => ta σ H fun vs H1 => ∃ a xs, vs = [.ref a] /\ SqL K H1 a xs /\ R (Itv K a xs) H1
theorem zAN {l : Expr} {ta : TA} {p pos : Pos} (hg : Gl X "reversed") (hm : X.mg "reversed" = none) (ha : PA X [l] ta) (hs : starEach [l] X.env = [(false, eval l X.env)] := by rfl) :
    PI X tg (.Call (.Name "reversed" p) [l] [] pos) (zDZ X.K ta) := by
  intro pins s σ H R I h
  refine Call_ (z1u I hg hm boot_reversed (PyProof.Rows.callWith_type1 (thn (ha pos pins s σ H _ I h) fun us s1 ⟨vs, H1, I1, r1, q1⟩ => ?_) hs rfl))
  obtain ⟨a, xs, e, hq, q⟩ := q1
  subst e
  obtain ⟨u, rfl, ru⟩ := vals1 r1
  cases (show u = Value.ref a from ru)
  obtain ⟨its, rv, pl, hz⟩ := I1.list hq
  have hl := rv.length
  refine call_reversed_list pl.isList ?_
  have st : Heap.IsRevIter (s1.heap.push (revObj a ((its.toArray.size : Int) - 1))) s1.heap.objs.size a ((xs.length : Int) - 1 - ((0 : Nat) : Int)) := by
    have e : (xs.length : Int) - 1 - ((0 : Nat) : Int) = (its.toArray.size : Int) - 1 := by
      rw [List.size_toArray]
      omega
    rw [e]
    exact ⟨_, Heap.get?_push_size _ rfl, rfl, rfl⟩
  refine wpAny_pyIter_revIter (s := { s1 with heap := s1.heap.push (revObj a ((its.toArray.size : Int) - 1)) }) st ?_
  refine ⟨s1.heap.objs.size, [s1.heap.objs.size], _, _, H1, rfl, I1.kept (t' := s1.toks) fun b o e => Heap.get?_push_of_some _ e, z81 a _ xs, st, fun b hb => ?_, q⟩
  rw [List.mem_singleton.mp hb]
  exact I1.fpOk (Nat.le_refl _) (I1.hok.fresh (Nat.le_refl _))
end
theorem z9K {K : PySem.W.Frag} {a : Addr} {xs : List V} {g : TG} {tb : TS} {D : Ends} {σ : St} {H : Hp} (Pv : Nat -> St -> Hp -> Prop) (h0 : Pv 0 σ H) (hl : ∀ i σ H, i <= xs.length -> Pv i σ H -> SqL K H a xs)
    (hs : ∀ (i : Nat) x σ H, i < xs.length -> xs[xs.length - 1 - i]? = some x -> Pv i σ H -> g x σ H fun σ2 H2 => tb { D with nx := Pv (i + 1), ct := Pv (i + 1), bk := D.nx } σ2 H2) (hd : ∀ σ H, Pv xs.length σ H -> D.nx σ H) :
    ∃ W : Nat -> Nat -> St -> Hp -> Prop, (∃ m, W 0 m σ H) /\ ∀ i m σ H, W i m σ H ->
      ((Itv K a xs).stop i H /\ D.nx σ H) \/ ((Itv K a xs).go i H /\ ∃ N : St -> Hp -> Prop, (∀ σ' H', N σ' H' -> ∃ m', m' < m /\ W (i + 1) m' σ' H') /\ ∀ x H', (Itv K a xs).yld i H x H' -> g x σ H' fun σ2 H2 => tb { D with nx := N, ct := N, bk := D.nx } σ2 H2) := by
  refine ⟨fun i m σ H => m = xs.length - i /\ i <= xs.length /\ Pv i σ H, ⟨xs.length, by simp, Nat.zero_le _, h0⟩, ?_⟩
  rintro i m σ H ⟨rfl, hi, p⟩
  have q := hl i σ H hi p
  by_cases hlt : i < xs.length
  . refine .inr ⟨⟨hlt, q⟩, Pv (i + 1), fun σ' H' p' => ⟨xs.length - (i + 1), by omega, rfl, hlt, p'⟩, fun x H' y => ?_⟩
    obtain ⟨e, y⟩ := y
    subst e
    exact hs i x σ _ hlt y p
  . have e : i = xs.length := by omega
    subst e
    exact .inl ⟨rfl, hd σ H p⟩
section
variable {prog : Program} {w : World} {A : Around} {E : Value -> Shared -> Prop} {s : Shared}
theorem z25 {it t : Addr} {i : Nat} {its : Array Value} {x : Value} {Q : Value -> Shared -> Prop} (ti : s.heap.IsTupleIter it t i) (tt : s.heap.IsTuple t its) (hx : its[i]? = some x)
    (k : ∀ h', h'.IsTupleIter it t (i + 1) -> Heap.SameBut it s.heap h' -> Q x { s with heap := h' }) : wpAny (model prog w) A (Builtin.SmallTypes.nextOf (.ref it)) Q E s := by
  obtain ⟨o, go, co, dd⟩ := id ti
  obtain ⟨ot, gt, _, nt, dt⟩ := tt
  unfold Builtin.SmallTypes.nextOf
  refine wpAny_bind (wpAny_callSpecial?_slot (name := Str.ofString "__next__") ti.typeIs F.slot_tuple_iterator_next (wpAny_call_entry F.slot_tuple_iterator_next ti.typeIs F.entry_tuple_iterator_next ?_ (F.args_tuple_iterator_next_1 _)))
  show wpAny _ _ (field (.ref it) 0 >>= _) _ _ s
  refine wpAny_bind (wpAny_field go dd (x := .ref t) rfl ?_)
  show wpAny _ _ (if (Value.ref t == Value.none) = true then _ else _) _ _ s
  rw [if_neg (show ¬ (Value.ref t == Value.none) = true by intro z; cases z)]
  show wpAny _ _ (field (.ref it) 1 >>= _) _ _ s
  refine wpAny_bind (wpAny_field go dd (x := .int i 0) rfl ?_)
  show wpAny _ _ (seqItems? (.ref t) >>= _) _ _ s
  refine wpAny_bind (wpAny_seqItems gt dt ?_)
  simp only [Int.toNat_natCast, hx]
  refine wpAny_bind (wpAny_setField go dd (by simp) (wpAny_pure ⟨x, rfl, wpAny_pure (k _ ?_ (Heap.SameBut.update ..))⟩))
  exact ⟨_, Heap.get?_update_self _ go (Obj.isFreed_of_fields (Obj.data_mapFields dd _)), (Obj.cls_mapFields ..).trans co, by rw [Obj.data_mapFields dd]; simp [rawInt]⟩
theorem z3l {it t : Addr} {i : Nat} {its : Array Value} {Q : Value -> Shared -> Prop} (hh : A.handled = none) (ti : s.heap.IsTupleIter it t i) (tt : s.heap.IsTuple t its) (hx : its[i]? = none)
    (k : ∀ h' e, Heap.ExtBut it s.heap h' -> (∃ o, h'.get? e = some o /\ o.cls = .type "StopIteration") -> E (.ref e) { s with heap := h' }) : wpAny (model prog w) A (Builtin.SmallTypes.nextOf (.ref it)) Q E s := by
  obtain ⟨o, go, co, dd⟩ := id ti
  obtain ⟨ot, gt, _, nt, dt⟩ := tt
  unfold Builtin.SmallTypes.nextOf
  refine wpAny_bind (wpAny_callSpecial?_slot (name := Str.ofString "__next__") ti.typeIs F.slot_tuple_iterator_next (wpAny_call_entry F.slot_tuple_iterator_next ti.typeIs F.entry_tuple_iterator_next ?_ (F.args_tuple_iterator_next_1 _)))
  show wpAny _ _ (field (.ref it) 0 >>= _) _ _ s
  refine wpAny_bind (wpAny_field go dd (x := .ref t) rfl ?_)
  show wpAny _ _ (if (Value.ref t == Value.none) = true then _ else _) _ _ s
  rw [if_neg (show ¬ (Value.ref t == Value.none) = true by intro z; cases z)]
  show wpAny _ _ (field (.ref it) 1 >>= _) _ _ s
  refine wpAny_bind (wpAny_field go dd (x := .int i 0) rfl ?_)
  show wpAny _ _ (seqItems? (.ref t) >>= _) _ _ s
  refine wpAny_bind (wpAny_seqItems gt dt ?_)
  simp only [Int.toNat_natCast, hx]
  refine wpAny_bind (wpAny_rule (wpAny_bind (wpAny_setField go dd (by simp) ?_)))
  show wpAny _ _ (newExc (.type "StopIteration") [] >>= _) _ _ _
  refine wpAny_bind ?_
  simp only [newExc, newTuple]
  refine wpAny_bind (wpAny_newObj_type ?_ (by size_fits))
  refine wpAny_bind (m := firstArgMember _ _) (wpAny_of_eq (a := Value.none) (by first | rfl | (simp only [firstArgMember]; rfl)) ?_)
  refine wpAny_newObj_type ?_ (by size_fits)
  simp only [raiseNew]
  refine wpAny_bind (wpAny_handled ?_)
  first | rw [show A.in1.handled = none from hh] | rw [hh]
  refine wpAny_bind (wpAny_pure (wpAny_throw ?_))
  exact k _ _ (((Heap.SameBut.update ..).extBut.push _).push _) ⟨_, Heap.get?_push_size _ rfl, rfl⟩
theorem z6f {z TI TO i1 i2 l1 l2 : Addr} {k1 k2 : Nat} {xs ys : Array Value} {x y a b : Value} {Q : Value -> Shared -> Prop} (D : ZipApart z TI TO i1 i2 l1 l2)
    (gz : IsZip s.heap z TI TO .none) (gI : IsPair s.heap TI (.ref i1) (.ref i2)) (gO : IsPair s.heap TO a b)
    (j1 : s.heap.IsTupleIter i1 l1 k1) (j2 : s.heap.IsTupleIter i2 l2 k2) (t1 : s.heap.IsTuple l1 xs) (t2 : s.heap.IsTuple l2 ys) (hx : xs[k1]? = some x) (hy : ys[k2]? = some y)
    (k : ∀ h', IsZip h' z TI TO (rawInt s.heap.objs.size) -> IsPair h' TO x y -> h'.IsTupleIter i1 l1 (k1 + 1) -> h'.IsTupleIter i2 l2 (k2 + 1) -> IsPair h' s.heap.objs.size x y -> h'.objs.size = s.heap.objs.size + 1 ->
      (∀ c o, c ≠ z -> c ≠ TO -> c ≠ i1 -> c ≠ i2 -> s.heap.get? c = some o -> h'.get? c = some o) -> Q (.ref s.heap.objs.size) { s with heap := h' }) :
    wpAny (model prog w) A (Builtin.«zip.__next__» ⟨[.ref z], []⟩) (fun fin s' => ∃ v, fin = .done (.ret v) /\ Q v s') E s := by
  show wpAny _ _ (field (.ref z) 2 >>= _) _ _ _
  refine wpAny_bind (wpAny_field gz rfl (x := .bool false) rfl ?_)
  show wpAny _ _ (field (.ref z) 3 >>= _) _ _ _
  refine wpAny_bind (wpAny_field gz rfl (x := .ref TI) rfl ?_)
  refine wpAny_bind (wpAny_seqItems gI rfl ?_)
  show wpAny _ _ (Builtin.SmallTypes.ownedTupleIsFree (.ref z) >>= _) _ _ _
  refine wpAny_bind ?_
  unfold Builtin.SmallTypes.ownedTupleIsFree
  refine wpAny_bind (wpAny_field gz rfl (x := .none) rfl (wpAny_pure ?_))
  simp only [if_true]
  refine wpAny_bind (wpAny_rule ?_)
  refine wpAny_bind (wpAny_field gz rfl (x := .ref TO) rfl ?_)
  refine wpAny_bind (wpAny_setField_rec gz (by simp) fun q1 gz1 b1 => ?_)
  replace gz1 : IsZip q1 z TI TO .ellipsis := gz1
  refine wpAny_bind ?_
  simp only [List.zipIdx_cons, List.zipIdx_nil, List.forIn_cons, List.forIn_nil]
  refine wpAny_bind (wpAny_bind (wpAny_onRaise ?_))
  show wpAny _ _ (Builtin.SmallTypes.nextOf (.ref i1) >>= _) _ _ _
  refine wpAny_bind (z25 (j1.extBut b1.extBut D.i1z) (t1.extBut b1.extBut D.l1z) hx fun q2 j12 b2 => wpAny_pure ?_)
  have gO2 : IsPair q2 TO a b := b2.extBut _ _ D.TOi1 (b1.extBut _ _ D.TOz gO)
  refine wpAny_bind (wpAny_seqItems gO2 rfl ?_)
  refine wpAny_bind (wpAny_updateSeq_pair gO2 fun q3 gO3 b3 => ?_)
  replace gO3 : IsPair q3 TO x b := gO3
  refine wpAny_bind (wpAny_letGo (wpAny_pure ?_))
  refine wpAny_bind (wpAny_bind (wpAny_onRaise ?_))
  show wpAny _ _ (Builtin.SmallTypes.nextOf (.ref i2) >>= _) _ _ _
  refine wpAny_bind (z25 (((j2.extBut b1.extBut D.i2z).extBut b2.extBut D.i12.symm).extBut b3.extBut D.TOi2.symm) (((t2.extBut b1.extBut D.l2z).extBut b2.extBut D.l2i1).extBut b3.extBut D.l2TO) hy fun q4 j24 b4 => wpAny_pure ?_)
  have gO4 : IsPair q4 TO x b := b4.extBut _ _ D.TOi2 gO3
  refine wpAny_bind (wpAny_seqItems gO4 rfl ?_)
  refine wpAny_bind (wpAny_updateSeq_pair gO4 fun q5 gO5 b5 => ?_)
  replace gO5 : IsPair q5 TO x y := gO5
  refine wpAny_bind (wpAny_letGo (wpAny_pure (wpAny_pure ?_)))
  refine wpAny_bind (wpAny_seqItems gO5 rfl ?_)
  refine wpAny_bind (wpAny_newTuple ?_)
  have sz : q5.objs.size = s.heap.objs.size := by rw [b5.1, b4.1, b3.1, b2.1, b1.1]
  have gz5 : IsZip q5 z TI TO .ellipsis := b5.extBut _ _ D.TOz.symm (b4.extBut _ _ D.i2z.symm (b3.extBut _ _ D.TOz.symm (b2.extBut _ _ D.i1z.symm gz1)))
  have kk5 : ∀ c o, c ≠ z -> c ≠ TO -> c ≠ i1 -> c ≠ i2 -> s.heap.get? c = some o -> q5.get? c = some o := fun c o c1 c2 c3 c4 e => b5.extBut _ _ c2 (b4.extBut _ _ c4 (b3.extBut _ _ c2 (b2.extBut _ _ c3 (b1.extBut _ _ c1 e))))
  have j15 : q5.IsTupleIter i1 l1 (k1 + 1) := ((j12.extBut b3.extBut D.TOi1.symm).extBut b4.extBut D.i12).extBut b5.extBut D.TOi1.symm
  have j25 : q5.IsTupleIter i2 l2 (k2 + 1) := j24.extBut b5.extBut D.TOi2.symm
  have zlt : z < q5.objs.size := Heap.lt_size gz5
  show wpAny _ _ (Builtin.SmallTypes.ownedTupleHandOut (.ref z) (.ref q5.objs.size) >>= _) _ _ _
  refine wpAny_bind ?_
  unfold Builtin.SmallTypes.ownedTupleHandOut
  have gz6 : IsZip (q5.push { cls := .type "tuple", data := .seq #[x, y] }) z TI TO .ellipsis := Heap.get?_push_of_some _ gz5
  refine wpAny_bind (wpAny_setField_rec gz6 (by simp) fun q7 gz7 b7 => ?_)
  replace gz7 : IsZip q7 z TI TO (rawInt q5.objs.size) := gz7
  refine wpAny_setField_rec gz7 (by simp) fun q8 gz8 b8 => ?_
  replace gz8 : IsZip q8 z TI TO (rawInt q5.objs.size) := gz8
  have up : ∀ c o, c ≠ z -> q5.get? c = some o -> q8.get? c = some o := fun c o c1 e => b8.extBut _ _ c1 (b7.extBut _ _ c1 (Heap.get?_push_of_some _ e))
  have gT8 : IsPair q8 q5.objs.size x y := b8.extBut _ _ (Nat.ne_of_gt zlt) (b7.extBut _ _ (Nat.ne_of_gt zlt) (Heap.get?_push_size _ rfl))
  have sz8 : q8.objs.size = q5.objs.size + 1 := by rw [b8.1, b7.1, Heap.size_push]
  rw [sz] at gz8 gT8 sz8
  refine wpAny_pure ⟨_, rfl, ?_⟩
  show Q (.ref q5.objs.size) _
  rw [sz]
  exact k q8 gz8 (up _ _ D.TOz gO5) (j15.at fun o e => up _ o D.i1z e) (j25.at fun o e => up _ o D.i2z e) gT8 sz8 fun c o c1 c2 c3 c4 e => up c o c1 (kk5 c o c1 c2 c3 c4 e)
theorem z82 {z TI TO i1 i2 l1 l2 : Addr} {k1 k2 : Nat} {xs ys : Array Value} {a b : Value} {Q : PySem.Fin -> Shared -> Prop} (hh : A.handled = none) (D : ZipApart z TI TO i1 i2 l1 l2)
    (gz : IsZip s.heap z TI TO .none) (gI : IsPair s.heap TI (.ref i1) (.ref i2)) (gO : IsPair s.heap TO a b)
    (j1 : s.heap.IsTupleIter i1 l1 k1) (j2 : s.heap.IsTupleIter i2 l2 k2) (t1 : s.heap.IsTuple l1 xs) (t2 : s.heap.IsTuple l2 ys) (hend : xs[k1]? = none \/ ys[k2]? = none)
    (kE : ∀ h' e, (∀ c o, c ≠ z -> c ≠ TO -> c ≠ i1 -> c ≠ i2 -> s.heap.get? c = some o -> h'.get? c = some o) -> (∃ o, h'.get? e = some o /\ o.cls = .type "StopIteration") -> E (.ref e) { s with heap := h' }) :
    wpAny (model prog w) A (Builtin.«zip.__next__» ⟨[.ref z], []⟩) Q E s := by
  show wpAny _ _ (field (.ref z) 2 >>= _) _ _ _
  refine wpAny_bind (wpAny_field gz rfl (x := .bool false) rfl ?_)
  show wpAny _ _ (field (.ref z) 3 >>= _) _ _ _
  refine wpAny_bind (wpAny_field gz rfl (x := .ref TI) rfl ?_)
  refine wpAny_bind (wpAny_seqItems gI rfl ?_)
  show wpAny _ _ (Builtin.SmallTypes.ownedTupleIsFree (.ref z) >>= _) _ _ _
  refine wpAny_bind ?_
  unfold Builtin.SmallTypes.ownedTupleIsFree
  refine wpAny_bind (wpAny_field gz rfl (x := .none) rfl (wpAny_pure ?_))
  simp only [if_true]
  refine wpAny_bind (wpAny_rule ?_)
  refine wpAny_bind (wpAny_field gz rfl (x := .ref TO) rfl ?_)
  refine wpAny_bind (wpAny_setField_rec gz (by simp) fun q1 gz1 b1 => ?_)
  replace gz1 : IsZip q1 z TI TO .ellipsis := gz1
  refine wpAny_bind ?_
  simp only [List.zipIdx_cons, List.zipIdx_nil, List.forIn_cons, List.forIn_nil]
  refine wpAny_bind (wpAny_bind (wpAny_onRaise ?_))
  show wpAny _ _ (Builtin.SmallTypes.nextOf (.ref i1) >>= _) _ _ _
  cases hx : xs[k1]? with
  | none =>
    refine wpAny_bind (z3l hh (j1.extBut b1.extBut D.i1z) (t1.extBut b1.extBut D.l1z) hx fun q2 e b2 he => ?_)
    obtain ⟨oe, ge, ce⟩ := he
    have gz2 : IsZip q2 z TI TO .ellipsis := b2 _ _ D.i1z.symm gz1
    have ez : e ≠ z := fun p => by subst p; rw [gz2] at ge; cases ge; simp at ce
    refine wpAny_setField_rec gz2 (by simp) fun q3 _ b3 => kE q3 e (fun c o c1 _ c3 _ p => b3.extBut _ _ c1 (b2 _ _ c3 (b1.extBut _ _ c1 p))) ⟨oe, b3.extBut _ _ ez ge, ce⟩
  | some x =>
    have hy : ys[k2]? = none := by rcases hend with h | h; rw [hx] at h; cases h; exact h
    refine wpAny_bind (z25 (j1.extBut b1.extBut D.i1z) (t1.extBut b1.extBut D.l1z) hx fun q2 j12 b2 => wpAny_pure ?_)
    have gO2 : IsPair q2 TO a b := b2.extBut _ _ D.TOi1 (b1.extBut _ _ D.TOz gO)
    refine wpAny_bind (wpAny_seqItems gO2 rfl ?_)
    refine wpAny_bind (wpAny_updateSeq_pair gO2 fun q3 gO3 b3 => ?_)
    refine wpAny_bind (wpAny_letGo (wpAny_pure ?_))
    refine wpAny_bind (wpAny_bind (wpAny_onRaise ?_))
    show wpAny _ _ (Builtin.SmallTypes.nextOf (.ref i2) >>= _) _ _ _
    refine wpAny_bind (z3l hh (((j2.extBut b1.extBut D.i2z).extBut b2.extBut D.i12.symm).extBut b3.extBut D.TOi2.symm) (((t2.extBut b1.extBut D.l2z).extBut b2.extBut D.l2i1).extBut b3.extBut D.l2TO) hy fun q4 e b4 he => ?_)
    obtain ⟨oe, ge, ce⟩ := he
    have gz4 : IsZip q4 z TI TO .ellipsis := b4 _ _ D.i2z.symm (b3.extBut _ _ D.TOz.symm (b2.extBut _ _ D.i1z.symm gz1))
    have ez : e ≠ z := fun p => by subst p; rw [gz4] at ge; cases ge; simp at ce
    refine wpAny_setField_rec gz4 (by simp) fun q5 _ b5 => kE q5 e (fun c o c1 c2 c3 c4 p => b5.extBut _ _ c1 (b4 _ _ c4 (b3.extBut _ _ c2 (b2.extBut _ _ c3 (b1.extBut _ _ c1 p))))) ⟨oe, b5.extBut _ _ ez ge, ce⟩
theorem z6g {z TI TO i1 i2 l1 l2 : Addr} {k1 k2 : Nat} {xs ys : Array Value} {x y a b : Value} {Q : Option Value -> Shared -> Prop} (D : ZipApart z TI TO i1 i2 l1 l2)
    (gz : IsZip s.heap z TI TO .none) (gI : IsPair s.heap TI (.ref i1) (.ref i2)) (gO : IsPair s.heap TO a b)
    (j1 : s.heap.IsTupleIter i1 l1 k1) (j2 : s.heap.IsTupleIter i2 l2 k2) (t1 : s.heap.IsTuple l1 xs) (t2 : s.heap.IsTuple l2 ys) (hx : xs[k1]? = some x) (hy : ys[k2]? = some y)
    (k : ∀ h', IsZip h' z TI TO (rawInt s.heap.objs.size) -> IsPair h' TO x y -> h'.IsTupleIter i1 l1 (k1 + 1) -> h'.IsTupleIter i2 l2 (k2 + 1) -> IsPair h' s.heap.objs.size x y -> h'.objs.size = s.heap.objs.size + 1 ->
      (∀ c o, c ≠ z -> c ≠ TO -> c ≠ i1 -> c ≠ i2 -> s.heap.get? c = some o -> h'.get? c = some o) -> Q (some (.ref s.heap.objs.size)) { s with heap := h' }) :
    wpAny (model prog w) A (pyNext (.ref z)) Q E s := by
  have ty : s.TypeIs (.ref z) "zip" := ⟨_, gz, rfl⟩
  unfold pyNext
  exact wpAny_bind (wpAny_attempt (wpAny_callSpecial?_slot (name := Str.ofString "__next__") ty F.slot_zip_next (wpAny_call_entry F.slot_zip_next ty F.entry_zip_next
    (z6f D gz gI gO j1 j2 t1 t2 hx hy fun h' a1 a2 a3 a4 a5 a6 a7 => wpAny_pure (k h' a1 a2 a3 a4 a5 a6 a7)) (F.args_zip_next_1 _))))
theorem z6h {z TI TO i1 i2 l1 l2 : Addr} {k1 k2 : Nat} {xs ys : Array Value} {a b : Value} {Q : Option Value -> Shared -> Prop} (hh : A.handled = none) (D : ZipApart z TI TO i1 i2 l1 l2)
    (gz : IsZip s.heap z TI TO .none) (gI : IsPair s.heap TI (.ref i1) (.ref i2)) (gO : IsPair s.heap TO a b)
    (j1 : s.heap.IsTupleIter i1 l1 k1) (j2 : s.heap.IsTupleIter i2 l2 k2) (t1 : s.heap.IsTuple l1 xs) (t2 : s.heap.IsTuple l2 ys) (hend : xs[k1]? = none \/ ys[k2]? = none)
    (k : ∀ h', (∀ c o, c ≠ z -> c ≠ TO -> c ≠ i1 -> c ≠ i2 -> s.heap.get? c = some o -> h'.get? c = some o) -> Q none { s with heap := h' }) : wpAny (model prog w) A (pyNext (.ref z)) Q E s := by
  have ty : s.TypeIs (.ref z) "zip" := ⟨_, gz, rfl⟩
  unfold pyNext
  refine wpAny_bind (wpAny_attempt (wpAny_callSpecial?_slot (name := Str.ofString "__next__") ty F.slot_zip_next (wpAny_call_entry F.slot_zip_next ty F.entry_zip_next
    (z82 hh D gz gI gO j1 j2 t1 t2 hend fun h' e kk he => ?_) (F.args_zip_next_1 _))))
  obtain ⟨o, ho, hc⟩ := he
  refine wpAny_bind (wpAny_isInstance (T := "StopIteration") (b := true) ⟨o, ho, hc⟩ isSubtype_stop ?_)
  exact wpAny_pure (k _ kk)
abbrev zt1 (h : Heap) (l1 : Addr) : Heap := h.push { cls := .type "tuple_iterator", data := .fields #[.ref l1, .int 0 0] }
abbrev zt2 (h : Heap) (l1 l2 : Addr) : Heap := (zt1 h l1).push { cls := .type "tuple_iterator", data := .fields #[.ref l2, .int 0 0] }
abbrev zt3 (h : Heap) (l1 l2 : Addr) : Heap := (zt2 h l1 l2).push { cls := .type "tuple", data := .seq #[.ref h.objs.size, .ref (zt1 h l1).objs.size] }
abbrev zt4 (h : Heap) (l1 l2 : Addr) : Heap := (zt3 h l1 l2).push { cls := .type "tuple", data := .seq #[.none, .none] }
abbrev zt5 (h : Heap) (l1 l2 : Addr) : Heap := (zt4 h l1 l2).push { cls := .type "zip", data := .fields #[.none, .bool false, .bool false, .ref (zt2 h l1 l2).objs.size, .ref (zt3 h l1 l2).objs.size] }
theorem z5W (l1 l2 : Addr) (xs ys : Array Value) :
    Meets (Builtin.«zip.__new__» ⟨[.type "zip", .ref l1, .ref l2], []⟩) (fun _ R s => s.heap.IsTuple l1 xs /\ s.heap.IsTuple l2 ys /\ R (.ok (.ret (.ref (zt4 s.heap l1 l2).objs.size))) { s with heap := zt5 s.heap l1 l2 }) :=
  .of_wp fun prog w A R s h => by
    obtain ⟨hp, g, d, tk, os⟩ := s
    obtain ⟨t1, t2, h⟩ := h
    have hsub := sub_zip
    have hL1 : Heap.IsTuple (Shared.heap ⟨hp, g, d, tk, os⟩) l1 xs := t1
    have hL2 : Heap.IsTuple (Shared.heap ⟨hp.push { cls := .type "tuple_iterator", data := .fields #[.ref l1, .int 0 0] }, g, d, tk, os⟩) l2 ys := t2.at fun o e => Heap.get?_push_of_some _ e
    wp_walk using wpAny_pyIter_tuple hL1, wpAny_pyIter_tuple hL2
    exact ⟨_, rfl, h⟩
theorem z6i {l1 l2 : Addr} {xs ys : Array Value} {Q : Value -> Shared -> Prop} (t1 : s.heap.IsTuple l1 xs) (t2 : s.heap.IsTuple l2 ys)
    (h : ∀ h', IsZip h' (s.heap.objs.size + 4) (s.heap.objs.size + 2) (s.heap.objs.size + 3) .none -> IsPair h' (s.heap.objs.size + 2) (.ref s.heap.objs.size) (.ref (s.heap.objs.size + 1)) ->
      IsPair h' (s.heap.objs.size + 3) .none .none -> h'.IsTupleIter s.heap.objs.size l1 0 -> h'.IsTupleIter (s.heap.objs.size + 1) l2 0 -> h'.objs.size = s.heap.objs.size + 5 ->
      (∀ c o, s.heap.get? c = some o -> h'.get? c = some o) -> Q (.ref (s.heap.objs.size + 4)) { s with heap := h' }) :
    wpAny (model prog w) A (call (.type "zip") [.ref l1, .ref l2]) Q E s := by
  refine callType_new F.called_zip (by decide) (F.typeCall_zip_2 _ _) (F.newCall_zip_2 _ _) (fun obj => F.args_object_init_3 obj _ _) F.entry_zip_new (z5W l1 l2 xs ys) ⟨t1, t2, ?_⟩
  have z1 : (zt1 s.heap l1).objs.size = s.heap.objs.size + 1 := Heap.size_push ..
  have z2 : (zt2 s.heap l1 l2).objs.size = s.heap.objs.size + 2 := by rw [Heap.size_push, z1]
  have z3 : (zt3 s.heap l1 l2).objs.size = s.heap.objs.size + 3 := by rw [Heap.size_push, z2]
  have z4 : (zt4 s.heap l1 l2).objs.size = s.heap.objs.size + 4 := by rw [Heap.size_push, z3]
  have z5 : (zt5 s.heap l1 l2).objs.size = s.heap.objs.size + 5 := by rw [Heap.size_push, z4]
  have g5 : (zt5 s.heap l1 l2).get? (zt4 s.heap l1 l2).objs.size = some _ := Heap.get?_push_size _ rfl
  have g4 : (zt5 s.heap l1 l2).get? (zt3 s.heap l1 l2).objs.size = some _ := Heap.get?_push_of_some _ (Heap.get?_push_size _ rfl)
  have g3 : (zt5 s.heap l1 l2).get? (zt2 s.heap l1 l2).objs.size = some _ := Heap.get?_push_of_some _ (Heap.get?_push_of_some _ (Heap.get?_push_size _ rfl))
  have g2 : (zt5 s.heap l1 l2).get? (zt1 s.heap l1).objs.size = some _ := Heap.get?_push_of_some _ (Heap.get?_push_of_some _ (Heap.get?_push_of_some _ (Heap.get?_push_size _ rfl)))
  have g1 : (zt5 s.heap l1 l2).get? s.heap.objs.size = some _ := Heap.get?_push_of_some _ (Heap.get?_push_of_some _ (Heap.get?_push_of_some _ (Heap.get?_push_of_some _ (Heap.get?_push_size _ rfl))))
  show _ /\ _
  rw [z2, z3, z4] at g5
  rw [z1, z2] at g3
  rw [z3] at g4
  rw [z1] at g2
  rw [z4]
  exact ⟨⟨_, g5, rfl⟩, h _ g5 g3 g4 ⟨_, g1, rfl, rfl⟩ ⟨_, g2, rfl, rfl⟩ z5 fun c o p => Heap.get?_push_of_some _ (Heap.get?_push_of_some _ (Heap.get?_push_of_some _ (Heap.get?_push_of_some _ (Heap.get?_push_of_some _ p))))⟩
end
def Itz (K : PySem.W.Frag) (a b : Addr) (xs ys : List V) : It :=
  ⟨fun i H => SqT K H a xs /\ SqT K H b ys /\ i < xs.length /\ i < ys.length, fun i H x H' => ∃ T u v, H T = none /\ x = .ref T /\ H' = upd H T (.tup [u, v]) /\ xs[i]? = some u /\ ys[i]? = some v,
    fun i H => SqT K H a xs /\ SqT K H b ys /\ (xs.length <= i \/ ys.length <= i)⟩
theorem z6j {P : Program} {w : World} {K : PySem.W.Frag} {es : List Expr} {k : Nat} {pos : Pos} (z TI TO i1 i2 a b : Addr) (xs ys : List V) (D : ZipApart z TI TO i1 i2 a b) :
    Turn P w K (.Tuple es k pos) (Itz K a b xs ys) [z, TI, TO, i1, i2] z (fun i h => IsZip h z TI TO .none /\ IsPair h TI (.ref i1) (.ref i2) /\ (∃ u v, IsPair h TO u v) /\ h.IsTupleIter i1 a i /\ h.IsTupleIter i2 b i) where
  mem := List.mem_cons_self
  obj := fun i h st c hc => by
    obtain ⟨gz, gI, ⟨u, v, gO⟩, ⟨o1, e1, c1, d1⟩, ⟨o2, e2, c2, d2⟩⟩ := st
    simp only [List.mem_cons, List.mem_nil_iff, or_false] at hc
    rcases hc with rfl | rfl | rfl | rfl | rfl
    . exact ⟨_, gz, fun v q => by cases q⟩
    . exact ⟨_, gI, fun v q => by cases q⟩
    . exact ⟨_, gO, fun v q => by cases q⟩
    . exact ⟨o1, e1, fun v q => by rw [d1] at q; cases q⟩
    . exact ⟨o2, e2, fun v q => by rw [d2] at q; cases q⟩
  keep := fun i h h' st kk => by
    obtain ⟨gz, gI, ⟨u, v, gO⟩, j1, j2⟩ := st
    exact ⟨kk z (by simp) _ gz, kk TI (by simp) _ gI, ⟨u, v, kk TO (by simp) _ gO⟩, j1.at fun o e => kk i1 (by simp) o e, j2.at fun o e => kk i2 (by simp) o e⟩
  item := by
    intro X hP hw hK hc i pins s σ H E I hf st hg
    subst hP hw hK
    obtain ⟨ha, hb, hi, hj⟩ := hg
    obtain ⟨gz, gI, ⟨p, q, gO⟩, j1, j2⟩ := st
    obtain ⟨its1, rv1, t1, _⟩ := I.tuple ha
    obtain ⟨its2, rv2, t2, _⟩ := I.tuple hb
    have hx : xs[i]? = some xs[i] := List.getElem?_eq_getElem hi
    have hy : ys[i]? = some ys[i] := List.getElem?_eq_getElem hj
    obtain ⟨u, hu, ru⟩ := rv1.get hx
    obtain ⟨v, hv, rv⟩ := rv2.get hy
    have nT : H s.heap.objs.size = none := I.hok.fresh (Nat.le_refl _)
    have F0 : ∀ c ∈ [z, TI, TO, i1, i2], H c = none := fun c hc' => (hf c hc').1
    refine z6g D gz gI gO j1 j2 (show s.heap.IsTuple a its1.toArray from t1) (show s.heap.IsTuple b its2.toArray from t2) (x := u) (y := v) (by simpa using hu) (by simpa using hv) fun h' a1 a2 a3 a4 a5 a6 a7 => ?_
    refine ⟨.ref s.heap.objs.size, rfl, wpAny_letOwnedTupleGo_zip a1 fun h'' gz'' sb => ?_⟩
    have lt : ∀ {c o}, s.heap.get? c = some o -> c ≠ s.heap.objs.size := fun e => Nat.ne_of_lt (Heap.lt_size e)
    have kk : ∀ c o, c ∉ [z, TO, i1, i2] -> s.heap.get? c = some o -> h''.get? c = some o := fun c o hc' e => by
      simp only [List.mem_cons, List.mem_nil_iff, or_false, not_or] at hc'
      exact (sb.2 c hc'.1).trans (a7 c o hc'.1 hc'.2.1 hc'.2.2.1 hc'.2.2.2 e)
    have gT : IsPair h'' s.heap.objs.size u v := (sb.2 _ (Ne.symm (lt gz))).trans a5
    have nb : ∀ c y, H c = some y -> c ∉ [z, TO, i1, i2] := fun c y e hc' => by
      have := F0 c (by simp only [List.mem_cons, List.mem_nil_iff, or_false] at hc' ⊢; rcases hc' with h | h | h | h <;> simp [h])
      rw [this] at e
      cases e
    have sub : ∀ c, c ∈ [z, TO, i1, i2] -> c ∈ [z, TI, TO, i1, i2] := fun c hc' => by
      simp only [List.mem_cons, List.mem_nil_iff, or_false] at hc' ⊢
      rcases hc' with h | h | h | h <;> simp [h]
    have I1 : Inv X pins σ (upd H s.heap.objs.size (.tup [xs[i], ys[i]])) { s with heap := h'', toks := s.toks } := by
      refine I.step (g' := s.gens) (d' := s.drawn) (ch := [z, TO, i1, i2]) (fun c hc' => ?_) (fun c o _ _ hc' e _ => kk c o hc' e) (fun c o _ _ hc' e _ => ⟨o.slots, kk c o hc' e⟩) (fun c o _ e n => ?_)
        (fun c o hc' e => ⟨o, kk c o hc' e⟩) (fun c zs e => ?_) (fun c ob y e => ?_) (fun c ps e => ⟨#[], ?_⟩) (fun m hm => ?_) (fun c y e => ?_) I.bare
      . obtain ⟨_, f1, _, f3, f4, f5⟩ := hf c (sub c hc')
        exact ⟨f3, f1, f4, f5⟩
      . rw [z06 (lt e)]
        exact n
      . rw [z06 (z08 e nT)]
        exact e
      . rw [z06 (z08 e nT)]
        exact e
      . rw [z06 (z08 e nT), e]
        simp
      . obtain ⟨o, es', ep, ho', r⟩ := hm
        refine ⟨o, es', ep, kk _ o (fun hc' => ?_) ho', r⟩
        exact (hf _ (sub _ hc')).2.1 rfl
      . by_cases hb' : c = s.heap.objs.size
        . subst hb'
          rw [z05] at e
          cases e
          exact ⟨by show 2 <= sizeLine; decide, [u, v], .cons ru (.cons rv .nil), _, gT, rfl, _, rfl⟩
        . rw [z06 hb'] at e
          refine (I.hok c y e).stay (fun d o hd e' => ?_) (fun d e' => by rw [z06 (z08 e' nT)]; exact e') fun d zs e' => by rw [z06 (z08 e' nT)]; exact e'
          rcases hd with h | h
          . subst h
            exact kk d o (nb d y e) e'
          . exact kk d o (nb d _ h) e'
    refine ⟨.ref s.heap.objs.size, _, I1, rfl, ⟨_, xs[i], ys[i], nT, rfl, rfl, hx, hy⟩, ⟨gz'', (sb.2 _ D.TIz).trans (a7 _ _ D.TIz D.TITO D.TIi1 D.TIi2 gI), ⟨_, _, (sb.2 _ D.TOz).trans a2⟩, a3.at fun o e => (sb.2 _ D.i1z).trans e, a4.at fun o e => (sb.2 _ D.i2z).trans e⟩, fun c hc' => ?_⟩
    rw [z06]
    . exact F0 c hc'
    . simp only [List.mem_cons, List.mem_nil_iff, or_false] at hc'
      rcases hc' with rfl | rfl | rfl | rfl | rfl
      . exact lt gz
      . exact lt gI
      . exact lt gO
      . obtain ⟨_, e, _⟩ := j1; exact lt e
      . obtain ⟨_, e, _⟩ := j2; exact lt e
  done := by
    intro X hP hw hK hc i pins s σ H E I hf st hg
    subst hP hw hK
    obtain ⟨ha, hb, hend⟩ := hg
    obtain ⟨gz, gI, ⟨p, q, gO⟩, j1, j2⟩ := st
    obtain ⟨its1, rv1, t1, _⟩ := I.tuple ha
    obtain ⟨its2, rv2, t2, _⟩ := I.tuple hb
    have l1 := rv1.length
    have l2 := rv2.length
    have hend' : its1.toArray[i]? = none \/ its2.toArray[i]? = none := by
      rcases hend with h | h
      . exact .inl (by rw [List.getElem?_toArray]; exact List.getElem?_eq_none (by omega))
      . exact .inr (by rw [List.getElem?_toArray]; exact List.getElem?_eq_none (by omega))
    have sub : ∀ c, c ∈ [z, TO, i1, i2] -> c ∈ [z, TI, TO, i1, i2] := fun c hc' => by
      simp only [List.mem_cons, List.mem_nil_iff, or_false] at hc' ⊢
      rcases hc' with h | h | h | h <;> simp [h]
    have nb : ∀ c y, H c = some y -> c ∉ [z, TO, i1, i2] := fun c y e hc' => by
      rw [(hf c (sub c hc')).1] at e
      cases e
    refine z6h (I.ok.hd hc) D gz gI gO j1 j2 (show s.heap.IsTuple a its1.toArray from t1) (show s.heap.IsTuple b its2.toArray from t2) hend' fun h' a7 => ⟨rfl, ?_⟩
    have kk : ∀ c o, c ∉ [z, TO, i1, i2] -> s.heap.get? c = some o -> h'.get? c = some o := fun c o hc' e => by
      simp only [List.mem_cons, List.mem_nil_iff, or_false, not_or] at hc'
      exact a7 c o hc'.1 hc'.2.1 hc'.2.2.1 hc'.2.2.2 e
    refine I.step (t' := s.toks) (g' := s.gens) (d' := s.drawn) (ch := [z, TO, i1, i2]) (fun c hc' => ?_) (fun c o _ _ hc' e _ => kk c o hc' e) (fun c o _ _ hc' e _ => ⟨o.slots, kk c o hc' e⟩) (fun c o _ e n => n)
      (fun c o hc' e => ⟨o, kk c o hc' e⟩) (fun c zs e => e) (fun c ob y e => e) (fun c ps e => ⟨#[], by rw [e]; simp⟩) (fun m hm => ?_) (fun c y e => ?_) I.bare
    . obtain ⟨_, f1, _, f3, f4, f5⟩ := hf c (sub c hc')
      exact ⟨f3, f1, f4, f5⟩
    . obtain ⟨o, es', ep, ho', r⟩ := hm
      exact ⟨o, es', ep, kk _ o (fun hc' => (hf _ (sub _ hc')).2.1 rfl) ho', r⟩
    . refine (I.hok c y e).stay (fun d o hd e' => ?_) (fun d e' => e') fun d zs e' => e'
      rcases hd with h | h
      . subst h
        exact kk d o (nb d y e) e'
      . exact kk d o (nb d _ h) e'
  self := fun _ _ _ _ _ st h => wpAny_pyIter_zip st.1 h
section
variable {X : Cx}
def zDa (K : PySem.W.Frag) (ta : TA) : TI := fun σ H R => ta σ H fun vs H1 => ∃ a b xs ys, vs = [.ref a, .ref b] /\ SqT K H1 a xs /\ SqT K H1 b ys /\ R (Itz K a b xs ys) H1
theorem zAO {l1 l2 : Expr} {ta : TA} {p pos : Pos} {es : List Expr} {k : Nat} {tp : Pos} (hg : Gl X "zip") (hm : X.mg "zip" = none) (ha : PA X [l1, l2] ta) (hs : starEach [l1, l2] X.env = [(false, eval l1 X.env), (false, eval l2 X.env)] := by rfl) (hs2 : starEach [l2] X.env = [(false, eval l2 X.env)] := by rfl) :
    PI X (.Tuple es k tp) (.Call (.Name "zip" p) [l1, l2] [] pos) (zDa X.K ta) := by
  intro pins s σ H R I h
  refine Call_ (z1u I hg hm boot_zip (PyProof.Rows.callWith_type1 (thn (ha pos pins s σ H _ I h) fun us s1 ⟨vs, H1, I1, r1, q1⟩ => ?_) (by rw [hs, hs2]) (by rw [hs2]; rfl)))
  obtain ⟨a, b, xs, ys, e, ta', tb', q⟩ := q1
  subst e
  obtain ⟨u, v, rfl, ru, rv⟩ := vals2 r1
  cases (show u = Value.ref a from ru)
  cases (show v = Value.ref b from rv)
  obtain ⟨its1, rv1, t1, _⟩ := I1.tuple ta'
  obtain ⟨its2, rv2, t2, _⟩ := I1.tuple tb'
  have la : a < s1.heap.objs.size := by obtain ⟨_, e, _⟩ := t1; exact Heap.lt_size e
  have lb : b < s1.heap.objs.size := by obtain ⟨_, e, _⟩ := t2; exact Heap.lt_size e
  refine z6i (show s1.heap.IsTuple a its1.toArray from t1) (show s1.heap.IsTuple b its2.toArray from t2) fun h' a1 a2 a3 a4 a5 a6 a7 => ?_
  refine wpAny_pyIter_zip (s := { s1 with heap := h' }) a1 ?_
  refine ⟨s1.heap.objs.size + 4, [s1.heap.objs.size + 4, s1.heap.objs.size + 2, s1.heap.objs.size + 3, s1.heap.objs.size, s1.heap.objs.size + 1], _, _, H1, rfl, I1.kept (t' := s1.toks) a7,
    z6j _ _ _ _ _ a b xs ys (zipApart_new la lb), ⟨a1, a2, ⟨_, _, a3⟩, a4, a5⟩, fun c hc => ?_, q⟩
  have ge : s1.heap.objs.size <= c := by
    simp only [List.mem_cons, List.mem_nil_iff, or_false] at hc
    rcases hc with e | e | e | e | e <;> rw [e]
    . exact Nat.le_add_right _ _
    . exact Nat.le_add_right _ _
    . exact Nat.le_add_right _ _
    . exact Nat.le_refl _
    . exact Nat.le_add_right _ _
  exact I1.fpOk ge (I1.hok.fresh ge)
end
def zAP (sc dsc : Scope) (N : List Str) (ix : List Nat) : Bool :=
  sc.kind == .function && sc.names.all (fun y => y.2 != .cell) && sc.names.all (fun y => y.2 != .free || dsc.names.lookup y.1 == some .cell || dsc.names.lookup y.1 == some .free) &&
    sc.names.all (fun y => y.2 != .local || sc.names.lookup y.1 == some .local) && ix.all (fun i => match N[i]? with | some x => sc.names.lookup x == some .free | none => false)
theorem BlkSc.look {X : Cx} {sc dsc : Scope} {locs N : List Str} {ix : List Nat} (hs : X.env.scope = dsc) (hN : X.N = N) (c : zAP sc dsc N ix = true) : BlkSc X sc locs ix := by
  unfold zAP at c
  rw [Bool.and_eq_true, Bool.and_eq_true, Bool.and_eq_true, Bool.and_eq_true] at c
  obtain ⟨⟨⟨⟨c1, c2⟩, c3⟩, c4⟩, c5⟩ := c
  refine ⟨by simpa using c1, fun y hy => ?_, fun y hy hk => ?_, fun y hy hk => ?_, fun i hi => ?_⟩
  . simpa using List.all_eq_true.mp c2 y hy
  . have q := List.all_eq_true.mp c3 y hy
    have z : X.env.kindOf y.1 = dsc.names.lookup y.1 := by rw [<- hs]; rfl
    rw [z]
    rw [hk] at q
    simpa using q
  . have q := List.all_eq_true.mp c4 y hy
    rw [hk] at q
    simpa using q
  . have q := List.all_eq_true.mp c5 i hi
    rw [hN]
    cases hx : N[i]? with
    | none => rw [hx] at q; cases q
    | some x =>
      rw [hx] at q
      exact ⟨x, rfl, by simpa using q⟩
section
variable {X : Cx} {sc : Scope} {cl : List (Str × Addr)} {C : Addr} {N : List Str} {fp : List Addr} {s2 : Shared} {H2 : Hp} {pn : List (Addr × Obj)}
theorem z83 : IxR (cxC X sc cl C N fp s2 H2 pn) (zBR X.K) := ix_list
theorem z2d : IxR (cxC X sc cl C N fp s2 H2 pn) (zBS X.K) := ix_tup
theorem z9L {es : List Expr} {k n : Nat} {t : TGs} {pos : Pos} (hc : X.calm = true) (h : PGs (cxC X sc cl C N fp s2 H2 pn) es t)
    (hn : (assignEach es (cxC X sc cl C N fp s2 H2 pn).env).length = n := by rfl) (hst : (assignEach es (cxC X sc cl C N fp s2 H2 pn).env).findIdx? (·.1) = none := by rfl) :
    PG (cxC X sc cl C N fp s2 H2 pn) (.Tuple es k pos) (zCL X.K n t) := z68 hc h hn hst
end
theorem z1S {J : It} {n : Nat} {g : TG} {te : TE} {σ0 : St} {H1 : Hp} {Fin : List V -> Hp -> Prop} (Pv : Nat -> St -> List V -> Hp -> Prop) (h0 : Pv 0 σ0 [] H1) (hn : n <= sizeLine) (len : ∀ i σ ys H, Pv i σ ys H -> ys.length = i)
    (stop : ∀ σ ys H, Pv n σ ys H -> J.stop n H) (go : ∀ i σ ys H, i < n -> Pv i σ ys H -> J.go i H)
    (hs : ∀ i σ ys H x H' (Z : St -> List V -> Hp -> Prop), i < n -> Pv i σ ys H -> J.yld i H x H' -> (∀ σ' ys' H', Pv (i + 1) σ' ys' H' -> Z σ' ys' H') -> g x σ H' fun σ2 H2 => te σ2 H2 fun y H3 => Z σ2 (ys ++ [y]) H3) (hd : ∀ σ ys H, Pv n σ ys H -> Fin ys H) :
    ∃ W : Nat -> Nat -> St -> List V -> Hp -> Prop, (∃ m, W 0 m σ0 [] H1) /\ z7z J g zCa te Fin W := by
  refine ⟨fun i m σ ys H => m = n - i /\ i <= n /\ Pv i σ ys H, ⟨n, rfl, Nat.zero_le _, h0⟩, ?_⟩
  rintro i m σ ys H ⟨rfl, hi, p⟩
  by_cases hlt : i < n
  . refine .inr ⟨go i σ ys H hlt p, by rw [len i σ ys H p]; omega, fun x H' y => ?_⟩
    have q := hs i σ ys H x H' (fun σ2 ys2 H3 => ∃ m', m' < n - i /\ m' = n - (i + 1) /\ i + 1 <= n /\ Pv (i + 1) σ2 ys2 H3) hlt p y fun σ' ys' H'' p' => ⟨n - (i + 1), by omega, rfl, hlt, p'⟩
    exact q
  . have e : i = n := by omega
    subst e
    exact .inl ⟨stop σ ys H p, by rw [len i σ ys H p]; exact hn, hd σ ys H p⟩
def Alk : Nat -> Hp -> V -> V -> Prop
  | 0, _, _, _ => False
  | n + 1, H, x, y => (x = y /\ (x = .non \/ (∃ b, x = .bl b) \/ (∃ i, x = .int i) \/ ∃ z, x = .str z)) \/
      ∃ a b xs ys, x = .ref a /\ y = .ref b /\ ((H a = some (.lst xs) /\ H b = some (.lst ys)) \/ (H a = some (.tup xs) /\ H b = some (.tup ys))) /\ xs.length <= 1000000 /\ xs.length = ys.length /\ ∀ (i : Nat) u v, xs[i]? = some u -> ys[i]? = some v -> Alk n H u v
theorem Alk.mono {H H' : Hp} (s : Same H H') : ∀ {n : Nat} {x y : V}, Alk n H x y -> Alk n H' x y
  | 0, _, _, h => h.elim
  | n + 1, _, _, h => by
    rcases h with h | ⟨a, b, xs, ys, e1, e2, e3, e4, e5, e6⟩
    . exact .inl h
    . refine .inr ⟨a, b, xs, ys, e1, e2, ?_, e4, e5, fun i u v h1 h2 => (e6 i u v h1 h2).mono s⟩
      rcases e3 with ⟨p, q⟩ | ⟨p, q⟩
      . exact .inl ⟨s _ _ p, s _ _ q⟩
      . exact .inr ⟨s _ _ p, s _ _ q⟩
theorem Alk.up {H : Hp} : ∀ {n m : Nat} {x y : V}, n <= m -> Alk n H x y -> Alk m H x y
  | 0, _, _, _, _, h => h.elim
  | n + 1, 0, _, _, hm, _ => absurd hm (Nat.not_succ_le_zero _)
  | n + 1, m + 1, _, _, hm, h => by
    rcases h with h | ⟨a, b, xs, ys, e1, e2, e3, e4, e5, e6⟩
    . exact .inl h
    . exact .inr ⟨a, b, xs, ys, e1, e2, e3, e4, e5, fun i u v h1 h2 => (e6 i u v h1 h2).up (Nat.le_of_succ_le_succ hm)⟩
theorem Alk.int {n : Nat} {H : Hp} (i : Int) : Alk (n + 1) H (.int i) (.int i) := .inl ⟨rfl, .inr (.inr (.inl ⟨i, rfl⟩))⟩
theorem Alk.non {n : Nat} {H : Hp} : Alk (n + 1) H .non .non := .inl ⟨rfl, .inl rfl⟩
theorem Alk.bl {n : Nat} {H : Hp} (b : Bool) : Alk (n + 1) H (.bl b) (.bl b) := .inl ⟨rfl, .inr (.inl ⟨b, rfl⟩)⟩
theorem Alk.ints {n : Nat} {H : Hp} {a b : Addr} {zs ws : List Int} (h1 : H a = some (.lst (zs.map V.int))) (h2 : H b = some (.lst (ws.map V.int))) (e : zs = ws) (hl : zs.length <= 1000000) : Alk (n + 2) H (.ref a) (.ref b) := by
  subst e
  refine .inr ⟨a, b, _, _, rfl, rfl, .inl ⟨h1, h2⟩, by rw [List.length_map]; exact hl, rfl, fun i u v hu hv => ?_⟩
  rw [hu] at hv
  cases hv
  obtain ⟨z, rfl⟩ := z7x (List.mem_of_getElem? hu)
  exact Alk.int z
def zBd (n : Nat) : Sp := fun vs H Q _ => ∃ x y, vs = [x, y] /\ Alk n H x y /\ ∀ H', Same H H' -> Q (.bl true) H'
structure BltA (mg : Str -> Option Value) : Prop where
  isi : mg "isinstance" = none
  tup : mg "tuple" = none
  lst : mg "list" = none
  boo : mg "bool" = none
  str : mg "str" = none
  int : mg "int" = none
  len : mg "len" = none
  all : mg "all" = none
  rng : mg "range" = none
end L2
namespace G
open PySem
def z0M : List (Option Int) -> Int
  | [] => 0
  | c :: r => c.getD 0 + 16 * z0M r
def z0Y : List (Option Int) -> Int
  | [] => 0
  | c :: r => (if c.isSome = true then 1 else 0) + 2 * z0Y r
def Cell (c : Option Int) : Prop := ∀ z, c = some z -> 0 <= z /\ z <= 15
def Cells (r : List (Option Int)) : Prop := ∀ c ∈ r, Cell c
theorem Cells.tail {c : Option Int} {r : List (Option Int)} (h : Cells (c :: r)) : Cells r := fun d hd => h d (List.mem_cons_of_mem _ hd)
theorem Cell.get {c : Option Int} (h : Cell c) : 0 <= c.getD 0 /\ c.getD 0 <= 15 := by
  cases c with
  | none => exact ⟨by decide, by decide⟩
  | some z => exact h z rfl
theorem z84 (n : Nat) : (16 : Int) ^ (n + 1) = 16 * 16 ^ n := by rw [Int.pow_succ, Int.mul_comm]
theorem z9M (n : Nat) : (2 : Int) ^ (n + 1) = 2 * 2 ^ n := by rw [Int.pow_succ, Int.mul_comm]
theorem z4s : ∀ {r : List (Option Int)}, Cells r -> 0 <= z0M r /\ z0M r < 16 ^ r.length
  | [], _ => ⟨by decide, by decide⟩
  | c :: r, h => by
    have ih := z4s h.tail
    have hc := (h c List.mem_cons_self).get
    show 0 <= c.getD 0 + 16 * z0M r /\ c.getD 0 + 16 * z0M r < 16 ^ (r.length + 1)
    rw [z84]
    omega
theorem z6k : ∀ (r : List (Option Int)), 0 <= z0Y r /\ z0Y r < 2 ^ r.length
  | [] => ⟨by decide, by decide⟩
  | c :: r => by
    have ih := z6k r
    show 0 <= (if c.isSome = true then 1 else 0) + 2 * z0Y r /\ (if c.isSome = true then 1 else 0) + 2 * z0Y r < (2 : Int) ^ (r.length + 1)
    rw [z9M]
    split <;> omega
theorem z9N (a d k : Nat) (h : d < 2 ^ k) : (2 ^ k * a) &&& d = 0 := by
  have e1 : d &&& (2 ^ k - 1) = d := by rw [Nat.and_two_pow_sub_one_eq_mod, Nat.mod_eq_of_lt h]
  have e2 : (2 ^ k * a) &&& (2 ^ k - 1) = 0 := by rw [Nat.and_two_pow_sub_one_eq_mod, Nat.mul_mod_right]
  have f : (2 ^ k * a) &&& (d &&& (2 ^ k - 1)) = ((2 ^ k * a) &&& (2 ^ k - 1)) &&& d := by rw [Nat.and_comm d (2 ^ k - 1), Nat.and_assoc]
  rw [e1, e2, Nat.zero_and] at f
  exact f
theorem z8l (k : Nat) : ((2 ^ k : Nat) : Int) = (2 : Int) ^ k := by
  induction k with
  | zero => rfl
  | succ k ih => rw [Nat.pow_succ, Int.natCast_mul, ih, Int.pow_succ]; rfl
theorem z9O {p c : Int} {k : Nat} (p0 : 0 <= p) (p1 : p < 2 ^ k) (c0 : 0 <= c) : Builtin.bitOr p (c * 2 ^ k) = p + c * 2 ^ k := by
  obtain ⟨P, rfl⟩ := Int.eq_ofNat_of_zero_le p0
  obtain ⟨C, rfl⟩ := Int.eq_ofNat_of_zero_le c0
  have e : ((C : Int) * 2 ^ k) = ((2 ^ k * C : Nat) : Int) := by rw [Int.natCast_mul, z8l, Int.mul_comm]
  rw [e, PyProof.Rows.bitOr_and, PyProof.Rows.bitAnd_pp (Int.natCast_nonneg _) (Int.natCast_nonneg _), Int.toNat_natCast, Int.toNat_natCast]
  have hP : P < 2 ^ k := by
    rw [<- z8l] at p1
    omega
  rw [Nat.and_comm, z9N C P k hP]
  omega
theorem zCb (x : Nat) : (2 : Int) ^ (4 * x) = 16 ^ x := by
  induction x with
  | zero => rfl
  | succ x ih =>
    rw [show 4 * (x + 1) = 4 * x + 1 + 1 + 1 + 1 by omega, z9M, z9M, z9M, z9M, ih, z84]
    omega
def pc : Nat -> Nat
  | 0 => 0
  | n + 1 => (n + 1) % 2 + pc ((n + 1) / 2)
decreasing_by omega
def z9P : List (Option Int) -> Nat
  | [] => 0
  | c :: r => (if c.isSome = true then 1 else 0) + z9P r
end G
namespace L2
open PySem PySem.Spec PyProof.Rows G
def z0r : Option Int -> V
  | none => .non
  | some z => .int z
structure RowsAt (H : Hp) (l : Addr) (ps : List Addr) (rows : List (List (Option Int))) : Prop where
  lst : H l = some (.lst (ps.map V.ref))
  len : ps.length = rows.length
  row : ∀ (i : Nat) p r, ps[i]? = some p -> rows[i]? = some r -> H p = some (.lst (r.map z0r))
theorem RowsAt.mono {H H' : Hp} {l : Addr} {ps : List Addr} {rows : List (List (Option Int))} (s : Same H H') (h : RowsAt H l ps rows) : RowsAt H' l ps rows := ⟨s _ _ h.lst, h.len, fun i p r e1 e2 => s _ _ (h.row i p r e1 e2)⟩
structure Rect (w h : Nat) (rows : List (List (Option Int))) : Prop where
  len : rows.length = h
  h1 : 1 <= h
  h2 : h <= 64
  w1 : 1 <= w
  w2 : w <= 64
  row : ∀ r ∈ rows, r.length = w /\ Cells r
def PicAt (H : Hp) (p : Addr) (w : Nat) (rows : List (List (Option Int))) : Prop :=
  ∃ pp pm, H p = some (.tup [.int (w : Int), .int (rows.length : Int), .ref pp, .ref pm]) /\ H pp = some (.tup ((rows.map z0M).map V.int)) /\ H pm = some (.tup ((rows.map z0Y).map V.int))
theorem PicAt.mono {H H' : Hp} {p : Addr} {w : Nat} {rows : List (List (Option Int))} (s : Same H H') (h : PicAt H p w rows) : PicAt H' p w rows := by
  obtain ⟨pp, pm, h1, h2, h3⟩ := h
  exact ⟨pp, pm, s _ _ h1, s _ _ h2, s _ _ h3⟩
theorem Alk.cell {n : Nat} {H : Hp} (c : Option Int) : Alk (n + 1) H (z0r c) (z0r c) := by
  cases c with
  | none => exact Alk.non
  | some z => exact Alk.int z
def look (w h : Nat) (rows : List (List (Option Int))) (x y : Int) : Option Int := if 0 <= x /\ x < w /\ 0 <= y /\ y < h then (rows.getD y.toNat []).getD x.toNat none else none
def zCc (K : PySem.W.Frag) : Sp := fun vs H Q _ => ∃ (a : Addr) (ns : List Int) (k m : Int), vs = [.ref a, .int k, .int m] /\ SqL K H a (ns.map V.int) /\ 0 <= k /\ k < 1000000 /\ 0 < m /\ ∀ r, 0 <= r -> r < m -> Q (.int r) H
def zBe (K : PySem.W.Frag) : Sp := fun vs H Q _ => ∃ (a : Addr) (ns : List Int) (k : Int), vs = [.ref a, .int k] /\ SqL K H a (ns.map V.int) /\ 0 <= k /\ k < 10000 /\ ∀ (w h : Int) p, 1 <= w -> w <= 64 -> 1 <= h -> h <= 64 -> H p = none -> Q (.ref p) (upd H p (.tup [.int w, .int h]))
def z6l (K : PySem.W.Frag) : Sp := fun vs H Q _ => ∃ (a : Addr) (ns : List Int) (k w h : Int), vs = [.ref a, .int k, .int w, .int h] /\ SqL K H a (ns.map V.int) /\ 0 <= k /\ k < 10000 /\ 1 <= w /\ w <= 64 /\ 1 <= h /\ h <= 64 /\
  ∀ l ps rows H', Same H H' -> H l = none -> (∀ p ∈ ps, H p = none) -> RowsAt H' l ps rows -> Rect w.toNat h.toNat rows -> Q (.ref l) H'
def z4t : Sp := fun vs H Q _ => ∃ l ps rows w h, vs = [.ref l] /\ RowsAt H l ps rows /\ Rect w h rows /\ ∀ p H', Same H H' -> PicAt H' p w rows -> Q (.ref p) H'
def zCd : Sp := fun vs H Q _ => ∃ p x y w h rows, vs = [.ref p, .int x, .int y] /\ PicAt H p w rows /\ Rect w h rows /\ Q (z0r (look w h rows x y)) H
def zBf : Sp := fun vs H Q _ => ∃ l r, vs = [.ref l] /\ H l = some (.lst (r.map z0r)) /\ Cells r /\ r.length <= 64 /\ ∀ H', Same H H' -> Q (.int (z0M r)) H'
def zCe : Sp := fun vs H Q _ => ∃ l r, vs = [.ref l] /\ H l = some (.lst (r.map z0r)) /\ Cells r /\ r.length <= 64 /\ ∀ H', Same H H' -> Q (.int (z0Y r)) H'
theorem zDb (x : Int) : Builtin.bitAnd x 1 = x % 2 := bitAnd_m1 x
structure Ow (P : Program) (w : World) (K : PySem.W.Frag) (mg : Str -> Option Value) (base : Heap) (x : Str) (ps : List Str) (k : Nat) (sp : Sp) : Prop where
  ex : ∃ (f : Addr) (fd : FuncData), mg x = some (.ref f) /\ PySem.W.keepIn K (.ref f) = true /\ Binds K fd ps [] /\ FnOk P w K mg base CX0 k f fd ps sp
theorem Df.ow {P : Program} {w : World} {K : PySem.W.Frag} {mg : Str -> Option Value} {base : Heap} {x : Str} {st : Stmt} {ps : List Str} {f : Addr} {fd : FuncData} {k : Nat} {sp : Sp} (D : Df K mg x st ps f fd) (F : FnOk P w K mg base CX0 k f fd ps sp) :
    Ow P w K mg base x ps k sp := ⟨f, fd, D.m, D.F.kp, D.b, F⟩
theorem Ow.imp {P : Program} {w : World} {K : PySem.W.Frag} {mg : Str -> Option Value} {base : Heap} {x : Str} {ps : List Str} {k : Nat} {sp sp' : Sp} (O : Ow P w K mg base x ps k sp) (h : ∀ vs H Q E, sp' vs H Q E -> sp vs H Q E) : Ow P w K mg base x ps k sp' := by
  obtain ⟨f, fd, a, b, c, F⟩ := O.ex
  exact ⟨f, fd, a, b, c, F.imp h⟩
section
variable {X : Cx} {k j : Nat} {ps : List Str} {sp : Sp} {x : Str} {p pos : Pos} {e : Expr} {es : List Expr} {t : TA}
theorem z0E (O : Ow X.prog X.w X.K X.mg X.base x ps k sp) (hr : Room j X.A) (hg : Gl X x) (ha : PA X (e :: es) t) (hk : k <= j := by decide) (hdb : (x == ("__debug__" : Str)) = false := by decide)
    (he : starEach (e :: es) X.env = (false, eval e X.env) :: starEach es X.env := by rfl) (hpl : (backTo pos (starEach es X.env)).any (·.1) = false := by rfl) :
    PE X (.Call (.Name x p) (e :: es) [] pos) (z7n sp [] E0 t) := by
  obtain ⟨f, fd, m, kp, b, F⟩ := O.ex
  exact z4I F (hr.mono hk) hg m kp b .nil zBZ ha hdb he hpl
end
theorem z26 {c A B : Prop} [Decidable c] (h1 : c -> A) (h2 : ¬ c -> B) : if decide c = true then A else B := by
  by_cases h : c
  . rw [decide_eq_true h, if_pos rfl]; exact h1 h
  . rw [decide_eq_false h, if_neg Bool.false_ne_true]; exact h2 h
theorem z8m {c A B : Prop} [Decidable c] (h1 : ¬ c -> A) (h2 : c -> B) : if (!decide c) = true then A else B := by
  by_cases h : c
  . rw [decide_eq_true h, Bool.not_true, if_neg Bool.false_ne_true]; exact h2 h
  . rw [decide_eq_false h, Bool.not_false, if_pos rfl]; exact h1 h
theorem mulL {i j : Int} (h1 : -18446744073709551616 < i) (h2 : i < 18446744073709551616) : CMul i j := .inl ⟨h1, h2⟩
theorem mulR {i j : Int} (h1 : -18446744073709551616 < j) (h2 : j < 18446744073709551616) : CMul i j := .inr ⟨h1, h2⟩
theorem powS {i j : Int} (h1 : 0 <= j) (h2 : j <= 1000000) (h3 : i.natAbs < 18446744073709551616) : zBK i j := ⟨h1, h2, h3⟩
theorem szV {xs : List V} (h : xs.length <= 100000) : xs.length <= sizeLine := Nat.le_trans h (by decide)
theorem z2x {j : Int} (h1 : 0 <= j) (h2 : j <= 1000000000) : -(2 ^ 62) <= j /\ j < 2 ^ 62 := by
  have : (1000000000 : Int) < 2 ^ 62 := by decide
  omega
def zDc (t u : TS) : TS := fun D σ H => ∃ I : St -> Hp -> Prop, t { D with nx := I } σ H /\ ∀ σ' H', I σ' H' -> u D σ' H'
theorem z2e {X : Cx} {st : Stmt} {rest : List Stmt} {t u : TS} (h1 : PS X st t) (h2 : PSs X rest u) : PSs X (st :: rest) (zDc t u) := by
  intro pins s σ H D I h
  obtain ⟨J, h, hj⟩ := h
  refine wpAny_execs_cons (thn (h1 pins s σ H { D with nx := J } I h) fun f s1 q => ?_)
  cases f with
  | next =>
    obtain ⟨σ', H', I', q⟩ := q
    exact h2 pins s1 σ' H' D I' (hj _ _ q)
  | ret v => exact q
  | brk => exact q
  | cont => exact q
end L2
namespace L2
open PySem PySem.Spec PyProof.Rows G
structure RowsB (H0 H : Hp) (l : Addr) (ps : List Addr) (rows : List (List (Option Int))) : Prop where
  same : Same H0 H
  fl : H0 l = none
  fp : ∀ p ∈ ps, H0 p = none /\ p ≠ l
  rat : RowsAt H l ps rows
theorem Same.put {H0 H : Hp} {p : Addr} {o : HO} (s : Same H0 H) (h : H0 p = none) : Same H0 (upd H p o) := fun b u e => by
  rw [z06 (z08 e h)]
  exact s b u e
theorem RowsB.put {H0 H : Hp} {l p : Addr} {ps : List Addr} {rows : List (List (Option Int))} {o : HO} (B : RowsB H0 H l ps rows) (h0 : H0 p = none) (hl : p ≠ l) (hp : p ∉ ps) : RowsB H0 (upd H p o) l ps rows where
  same := B.same.put h0
  fl := B.fl
  fp := B.fp
  rat := ⟨by rw [z06 (Ne.symm hl)]; exact B.rat.lst, B.rat.len, fun i q r e1 e2 => by
    have hq : q ≠ p := fun e => hp (by rw [<- e]; exact List.mem_of_getElem? e1)
    rw [z06 hq]
    exact B.rat.row i q r e1 e2⟩
theorem RowsB.push {H0 H : Hp} {l p : Addr} {ps : List Addr} {rows : List (List (Option Int))} {r : List (Option Int)} (B : RowsB H0 H l ps rows) (h0 : H0 p = none) (hl : p ≠ l) (hr : H p = some (.lst (r.map z0r))) :
    RowsB H0 (upd H l (.lst (ps.map V.ref ++ [.ref p]))) l (ps ++ [p]) (rows ++ [r]) where
  same := B.same.put B.fl
  fl := B.fl
  fp := fun q hq => by
    rcases List.mem_append.mp hq with h | h
    . exact B.fp q h
    . rw [List.mem_singleton.mp h]
      exact ⟨h0, hl⟩
  rat := ⟨by rw [z05, List.map_append]; rfl, by rw [List.length_append, List.length_append, B.rat.len]; rfl, fun i q s e1 e2 => by
    have hq : q ≠ l := by
      rcases List.mem_append.mp (List.mem_of_getElem? e1) with h | h
      . exact (B.fp q h).2
      . rw [List.mem_singleton.mp h]
        exact hl
    rw [z06 hq]
    have hlen := B.rat.len
    by_cases hi : i < ps.length
    . rw [List.getElem?_append_left hi] at e1
      rw [List.getElem?_append_left (by omega)] at e2
      exact B.rat.row i q s e1 e2
    . rw [List.getElem?_append_right (by omega)] at e1
      rw [List.getElem?_append_right (by omega)] at e2
      rw [hlen] at e1
      cases hj : i - rows.length with
      | zero =>
        rw [hj] at e1 e2
        cases e1
        cases e2
        exact hr
      | succ n =>
        rw [hj] at e1
        cases e1⟩
theorem RowsB.mono {H0 H H' : Hp} {l : Addr} {ps : List Addr} {rows : List (List (Option Int))} (B : RowsB H0 H l ps rows) (s : Same H H') : RowsB H0 H' l ps rows := ⟨B.same.trans s, B.fl, B.fp, B.rat.mono s⟩
theorem z9Q {H0 H : Hp} {l : Addr} (s : Same H0 H) (h : H l = none) : RowsB H0 (upd H l (.lst [])) l [] [] :=
  ⟨s.trans (Same.new h), s.free h, (fun _ hp => nomatch hp), ⟨z05, rfl, (fun _ _ _ e => nomatch e)⟩⟩
theorem Rect.ne {w h : Nat} {rows : List (List (Option Int))} (R : Rect w h rows) : 0 < rows.length := by have := R.len; have := R.h1; omega
theorem RowsAt.at {H : Hp} {l : Addr} {ps : List Addr} {rows : List (List (Option Int))} (a : RowsAt H l ps rows) {i : Nat} (hi : i < rows.length) : ∃ p, ps[i]? = some p /\ H p = some (.lst ((rows[i]'hi).map z0r)) := by
  have hl := a.len
  exact ⟨ps[i]'(by omega), List.getElem?_eq_getElem _, a.row i _ _ (List.getElem?_eq_getElem _) (List.getElem?_eq_getElem _)⟩
theorem RowsAt.atI {H : Hp} {l : Addr} {ps : List Addr} {rows : List (List (Option Int))} (a : RowsAt H l ps rows) {i : Nat} (hi : i < rows.length) : ∃ p, L2.atI (ps.map V.ref) (i : Int) = some (.ref p) /\ H p = some (.lst ((rows[i]'hi).map z0r)) := by
  obtain ⟨p, h1, h2⟩ := a.at hi
  exact ⟨p, z0i (by rw [List.getElem?_map, h1]; rfl), h2⟩
theorem Rect.row0 {w h : Nat} {rows : List (List (Option Int))} (R : Rect w h rows) {i : Nat} (hi : i < rows.length) : (rows[i]'hi).length = w /\ Cells (rows[i]'hi) := R.row _ (List.getElem_mem hi)
theorem PicAt.put {H : Hp} {p q : Addr} {w : Nat} {rows : List (List (Option Int))} {xs : List V} {o : HO} (h : PicAt H p w rows) (hq : H q = some (.lst xs)) : PicAt (upd H q o) p w rows := by
  obtain ⟨a, b, h1, h2, h3⟩ := h
  have ne : ∀ {c : Addr} {ys : List V}, H c = some (.tup ys) -> c ≠ q := fun e z => by
    rw [z, hq] at e
    cases e
  exact ⟨a, b, by rw [z06 (ne h1)]; exact h1, by rw [z06 (ne h2)]; exact h2, by rw [z06 (ne h3)]; exact h3⟩
end L2
namespace L2
open PySem PySem.Spec PyProof.Rows G
def inB (x : V) (a b : Int) : Bool := match x with
  | .int i => decide (a <= i) && decide (i <= b)
  | _ => false
def zBg (x : V) : Bool := match x with
  | .non => true
  | x => inB x 0 15
def z2f : Sp := fun vs H Q _ => ∃ x T, vs = [x] /\ tyS H x = some T /\ Q (.bl (T == "int")) H
theorem z2g : ∀ T ∈ z8j, (if z5U T "int" = true then (!z5U T "bool") else false) = (T == "int") := by decide
theorem z4M {H : Hp} {x : V} {T : String} (h : tyS H x = some T) (n : ¬ ∃ i, x = V.int i) : (T == "int") = false := by
  cases x with
  | non => cases h; rfl
  | bl b => cases h; rfl
  | int i => exact absurd ⟨i, rfl⟩ n
  | str z => cases h; rfl
  | byt b => cases h
  | flt b => cases h
  | ty n => cases h
  | ref a =>
    simp only [tyS] at h
    split at h <;> first | (cases h; rfl) | cases h
def z2L : Sp := fun vs H Q _ => ∃ x a b T, vs = [x, .int a, .int b] /\ tyS H x = some T /\ Q (.bl (inB x a b)) H
def z8n : Sp := fun vs H Q _ => ∃ x T, vs = [x] /\ tyS H x = some T /\ Q (.bl (inB x 1 64)) H
def zAv : Sp := fun vs H Q _ => ∃ x T, vs = [x] /\ tyS H x = some T /\ Q (.bl (zBg x)) H
def zAQ : Sp := fun vs H Q _ => ∃ (l m : Addr) (r r' : List (Option Int)), vs = [.ref l, .ref m] /\ H l = some (.lst (r.map z0r)) /\ H m = some (.lst (r'.map z0r)) /\ r.length = r'.length /\ 1 <= r.length /\ r.length <= 64 /\ Cells r /\ ∀ H', Same H H' -> Q (.bl true) H'
def z9s : Sp := fun vs H Q _ => ∃ l ps rows w h, vs = [.ref l] /\ RowsAt H l ps rows /\ Rect w h rows /\ ∀ p H', Same H H' -> H p = none -> PicAt H' p w rows -> Q (.ref p) H'
def zCf : Sp := fun vs H Q _ => ∃ l ps rows w h x y, vs = [.ref l, .int x, .int y] /\ RowsAt H l ps rows /\ Rect w h rows /\ Q (z0r (look w h rows x y)) H
end L2
namespace L2
open PySem PySem.Spec PyProof.Rows G
end L2
namespace L2
open PySem PySem.Spec PyProof.Rows G
def zBh (K : PySem.W.Frag) : Sp := fun vs H Q _ => ∃ (a : Addr) (ns : List Int) (k : Int), vs = [.ref a, .int k] /\ SqL K H a (ns.map V.int) /\ 0 <= k /\ k < 10000 /\ ∀ (z : Int) H', Same H H' -> Q (.int z) H'
def zEL (K : PySem.W.Frag) : Sp := fun vs H Q _ => ∃ (a : Addr) (ns : List Int) (p l : Addr) (ps : List Addr) (rows : List (List (Option Int))) (w h : Nat), vs = [.ref a, .ref p, .ref l] /\ SqL K H a (ns.map V.int) /\ PicAt H p w rows /\ RowsAt H l ps rows /\ Rect w h rows /\ ∀ H', Same H H' -> Q (.bl true) H'
section
variable {X : Cx}
def zDd : R2 := fun x y H Q => ∃ a k v, x = .ref a /\ y = .int k /\ H a = some (.tup [v]) /\ 1 <= k /\ k <= 10000 /\ ∀ p H', Same H H' -> H' p = some (.tup (List.replicate k.toNat v)) -> Q (.ref p) H'
end
structure FunD (K : PySem.W.Frag) (x qual : Str) (st : Stmt) (f : Addr) (fd : FuncData) (T : Addr) : Prop where
  ex : ∃ (oc : Value) (od : Option Addr) (kV doc pm : Value) (an : Option Addr) (cdv ct : Value) (osl : Array (Option Value)),
    fd = PySem.W.fnOf x qual (z0F st) (z0C st) (z04 st) (.ref T) kV doc pm an cdv ct /\ K.lookup f = some ⟨oc, od, .func fd, osl⟩ /\ PySem.W.codeIn K cdv qual = true
  kp : PySem.W.keepIn K (.ref f) = true
theorem FunD.ok {P : Program} {w : World} {K : PySem.W.Frag} {mg : Str -> Option Value} {base : Heap} {x qual : Str} {st : Stmt} {f T : Addr} {fd : FuncData} {N ps : List Str} {k : Nat} {sp : Sp} (F : FunD K x qual st f fd T) (S : FnScope N ps (z04 st)) (len : ∀ vs H Q E, sp vs H Q E -> vs.length = ps.length)
    (hbody : ∀ (cdv : Value) (A : Around) (outer : List Env) (s : Shared) (H : Hp) (vs : List V) (Q : VK) (E : XK), Room k (A.deeper (envOfC qual (z04 st) s.heap.objs.size f cdv)) -> sp vs H Q E ->
      ∃ t, PSs (z6M CX0 P w K mg base N qual (z04 st) f cdv A outer s H E).nox (z0C st) t /\ t { nx := fun _ H' => Q .non H', rt := Q } (start N vs) H) : FnOk P w K mg base CX0 (k + 1) f fd ps sp := by
  obtain ⟨oc, od, kV, doc, pm, an, cdv, ct, osl, rfl, lk, hcd⟩ := F.ex
  refine z7p lk hcd S len fun A outer s H vs Q E hr hsp => ?_
  obtain ⟨t, h, q⟩ := hbody cdv A outer s H vs Q E hr hsp
  exact ⟨t, h.nox, q⟩
structure Owd (P : Program) (w : World) (K : PySem.W.Frag) (mg : Str -> Option Value) (base : Heap) (x : Str) (ps : List Str) (dvs : List V) (k : Nat) (sp : Sp) : Prop where
  ex : ∃ (f : Addr) (fd : FuncData) (ds : List Value), mg x = some (.ref f) /\ PySem.W.keepIn K (.ref f) = true /\ Binds K fd ps ds /\ Vals dvs ds /\ FnOk P w K mg base CX0 k f fd ps sp
def zCg (sc : Scope) : Bool := sc.kind == .function && sc.names.all (fun y => y.2 != .cell && y.2 != .free && (y.2 != .local || sc.names.lookup y.1 == some .local))
section
variable {X : Cx} {sc : Scope} {cl : List (Str × Addr)} {C : Addr} {N : List Str} {fp : List Addr} {s2 : Shared} {H2 : Hp} {pn : List (Addr × Obj)} {tg l : Expr} {tl : TE}
end
structure DfD (K : PySem.W.Frag) (mg : Str -> Option Value) (x : Str) (st : Stmt) (ps : List Str) (f : Addr) (fd : FuncData) (T : Addr) : Prop where
  F : FunD K x x st f fd T
  b : Binds K fd ps []
  b1 : Binds K fd ps [.none]
  m : mg x = some (.ref f)
theorem DfD.ow {P : Program} {w : World} {K : PySem.W.Frag} {mg : Str -> Option Value} {base : Heap} {x : Str} {st : Stmt} {ps : List Str} {f T : Addr} {fd : FuncData} {k : Nat} {sp : Sp} (D : DfD K mg x st ps f fd T) (F : FnOk P w K mg base CX0 k f fd ps sp) :
    Ow P w K mg base x ps k sp := ⟨f, fd, D.m, D.F.kp, D.b, F⟩
theorem z9R {K : PySem.W.Frag} {x qual : Str} {st : Stmt} {f T : Addr} {oc : Value} {od an : Option Addr} {osl : Array (Option Value)} {kV doc pm cdv ct : Value} (l : K.lookup f = some ⟨oc, od, .func (PySem.W.fnOf x qual (z0F st) (z0C st) (z04 st) (.ref T) kV doc pm an cdv ct), osl⟩)
    (c : PySem.W.codeIn K cdv qual = true) (k : PySem.W.keepIn K (.ref f) = true) : FunD K x qual st f (PySem.W.fnOf x qual (z0F st) (z0C st) (z04 st) (.ref T) kV doc pm an cdv ct) T := ⟨⟨oc, od, kV, doc, pm, an, cdv, ct, osl, rfl, l, c⟩, k⟩
end L2
namespace L2
open PySem PySem.Spec PyProof.Rows G
def zBi : Sp := fun vs H Q _ => ∃ p y w h rows, vs = [.ref p, .int y] /\ PicAt H p w rows /\ Rect w h rows /\ 0 <= y /\ y < h /\ ∀ l H', Same H H' -> H l = none -> H' l = some (.lst ((rows.getD y.toNat []).map z0r)) -> Q (.ref l) H'
def zAw : Sp := fun vs H Q _ => ∃ p w h rows, vs = [.ref p] /\ PicAt H p w rows /\ Rect w h rows /\ ∀ l ps H', RowsB H H' l ps rows -> Q (.ref l) H'
def zCh : Sp := fun vs H Q _ => ∃ m : Int, vs = [.int m] /\ 0 <= m /\ Q (.int (pc m.toNat : Int)) H
def zBj : Sp := fun vs H Q _ => ∃ p w h rows, vs = [.ref p] /\ PicAt H p w rows /\ Rect w h rows /\ ∀ H', Same H H' -> Q (.int ((rows.map fun r => (z9P r : Int)).sum)) H'
def zBk : Sp := fun vs H Q _ => ∃ l ps w h rows, vs = [.ref l] /\ RowsAt H l ps rows /\ Rect w h rows /\ ∀ H', Same H H' -> Q (.int ((rows.map fun r => (z9P r : Int)).sum)) H'
end L2
namespace L2
open PySem PySem.Spec PyProof.Rows G
def zAx : Sp := fun vs H Q _ => ∃ (w h : Int) (c : Option Int), vs = [.int w, .int h, z0r c] /\ 1 <= w /\ w <= 64 /\ 1 <= h /\ h <= 64 /\ Cell c /\ ∀ p H', Same H H' -> PicAt H' p w.toNat (List.replicate h.toNat (List.replicate w.toNat c)) -> Q (.ref p) H'
end L2
namespace G
open PySem
def z4N : Nat -> Int -> Int -> List (Option Int)
  | 0, _, _ => []
  | n + 1, P, M => (if M % 2 = 1 then some (P % 16) else none) :: z4N n (P / 16) (M / 2)
def z2o : Nat -> Int -> Int -> Bool
  | 0, P, M => decide (P = 0) && decide (M = 0)
  | n + 1, P, M => (decide (M % 2 = 1) || decide (P % 16 = 0)) && z2o n (P / 16) (M / 2)
def roomI : Nat -> Int -> Int
  | 0, _ => 0
  | n + 1, M => (if M % 2 = 1 then 15 else 0) + 16 * roomI n (M / 2)
theorem z3M : ∀ (n : Nat) (M : Int), 0 <= roomI n M /\ roomI n M < 16 ^ n
  | 0, _ => ⟨Int.le_refl 0, (show (0 : Int) < 1 by decide)⟩
  | n + 1, M => by
    have ih := z3M n (M / 2)
    show 0 <= (if M % 2 = 1 then 15 else 0) + 16 * roomI n (M / 2) /\ (if M % 2 = 1 then 15 else 0) + 16 * roomI n (M / 2) < (16 : Int) ^ (n + 1)
    rw [z84]
    split <;> omega
theorem z2y : ∀ (n : Nat) (M : Int), roomI (n + 1) M = roomI n M + (if M / 2 ^ n % 2 = 1 then 15 else 0) * 16 ^ n
  | 0, M => by
    show (if M % 2 = 1 then 15 else 0) + 16 * 0 = 0 + (if M / 1 % 2 = 1 then 15 else 0) * 1
    have : M / 1 = M := by omega
    rw [this]
    omega
  | n + 1, M => by
    have ih := z2y n (M / 2)
    have e : roomI (n + 1 + 1) M = (if M % 2 = 1 then 15 else 0) + 16 * roomI (n + 1) (M / 2) := rfl
    have e' : roomI (n + 1) M = (if M % 2 = 1 then 15 else 0) + 16 * roomI n (M / 2) := rfl
    have d : M / 2 / 2 ^ n = M / 2 ^ (n + 1) := by rw [Int.ediv_ediv_of_nonneg (by decide), z9M]
    rw [e, ih, e', d, z84, Int.mul_add, <- Int.mul_assoc, <- Int.mul_assoc, Int.mul_comm 16 (if M / 2 ^ (n + 1) % 2 = 1 then 15 else 0)]
    omega
theorem zBl (P r R : Int) (hP : 0 <= P) (hR : 0 <= R) (hr : r = 0 \/ r = 15) : Builtin.bitAnd P (r + 16 * R) = (if r = 15 then P % 16 else 0) + 16 * Builtin.bitAnd (P / 16) R := by
  obtain ⟨p, rfl⟩ := Int.eq_ofNat_of_zero_le hP
  obtain ⟨q, rfl⟩ := Int.eq_ofNat_of_zero_le hR
  have e1 : ((p : Int) / 16).toNat = p / 16 := by omega
  rw [PyProof.Rows.bitAnd_pp (by omega) (by rcases hr with h | h <;> rw [h] <;> omega), PyProof.Rows.bitAnd_pp (by omega) (by omega), e1, Int.toNat_natCast, Int.toNat_natCast]
  have key : ∀ m : Nat, m < 16 -> ((p &&& (m + 16 * q) : Nat)) = ((p % 16 &&& m)) + 16 * (p / 16 &&& q) := fun m hm => by
    have a := Nat.and_mod_two_pow (a := p) (b := m + 16 * q) (n := 4)
    have b := Nat.and_div_two_pow (a := p) (b := m + 16 * q) (n := 4)
    have c1 : (m + 16 * q) % 2 ^ 4 = m := by show (m + 16 * q) % 16 = m; omega
    have c2 : (m + 16 * q) / 2 ^ 4 = q := by show (m + 16 * q) / 16 = q; omega
    rw [c1] at a
    rw [c2] at b
    have a' : (p &&& (m + 16 * q)) % 16 = p % 16 &&& m := a
    have b' : (p &&& (m + 16 * q)) / 16 = p / 16 &&& q := b
    omega
  rcases hr with h | h
  . subst h
    have t : ((0 : Int) + 16 * (q : Int)).toNat = 0 + 16 * q := by omega
    rw [t, key 0 (by decide), Nat.and_zero, if_neg (by decide)]
    omega
  . subst h
    have t : ((15 : Int) + 16 * (q : Int)).toNat = 15 + 16 * q := by omega
    have m15 : p % 16 &&& 15 = p % 16 := by
      have := Nat.and_two_pow_sub_one_eq_mod (p % 16) 4
      rw [show 2 ^ 4 - 1 = 15 from rfl] at this
      rw [this]
      show p % 16 % 16 = p % 16
      omega
    rw [t, key 15 (by decide), m15, if_pos rfl]
    omega
theorem z2z : ∀ (n : Nat) (P M : Int), 0 <= P -> 0 <= M -> z2o n P M = (decide (M / 2 ^ n = 0) && decide (Builtin.bitAnd P (Builtin.bitNot (roomI n M)) = 0))
  | 0, P, M, hP, hM => by
    show (decide (P = 0) && decide (M = 0)) = (decide (M / 1 = 0) && decide (Builtin.bitAnd P (Builtin.bitNot 0) = 0))
    rw [PyProof.Rows.bitAnd_not, PyProof.Rows.bitAnd_zero, Bool.and_comm]
    have e1 : M / 1 = M := by omega
    have e2 : P - 0 = P := by omega
    rw [e1, e2]
  | n + 1, P, M, hP, hM => by
    have ih := z2z n (P / 16) (M / 2) (by omega) (by omega)
    have hr := z3M n (M / 2)
    have h0 : (if M % 2 = 1 then (15 : Int) else 0) = 0 \/ (if M % 2 = 1 then (15 : Int) else 0) = 15 := by split <;> simp
    have a := zBl P (if M % 2 = 1 then 15 else 0) (roomI n (M / 2)) hP hr.1 h0
    have d : M / 2 / 2 ^ n = M / 2 ^ (n + 1) := by rw [Int.ediv_ediv_of_nonneg (by decide), z9M]
    have le : Builtin.bitAnd (P / 16) (roomI n (M / 2)) <= P / 16 := by
      rw [PyProof.Rows.bitAnd_pp (by omega) hr.1]
      have := Nat.and_le_left (n := (P / 16).toNat) (m := (roomI n (M / 2)).toNat)
      omega
    show ((decide (M % 2 = 1) || decide (P % 16 = 0)) && z2o n (P / 16) (M / 2)) = (decide (M / 2 ^ (n + 1) = 0) && decide (Builtin.bitAnd P (Builtin.bitNot ((if M % 2 = 1 then 15 else 0) + 16 * roomI n (M / 2))) = 0))
    rw [PyProof.Rows.bitAnd_not P, a, ih, d, PyProof.Rows.bitAnd_not (P / 16)]
    generalize Builtin.bitAnd (P / 16) (roomI n (M / 2)) = b at le
    by_cases hm : M % 2 = 1
    . rw [if_pos hm, if_pos rfl, decide_eq_true hm, Bool.true_or, Bool.true_and]
      congr 1
      exact decide_eq_decide.mpr ⟨fun h => by omega, fun h => by omega⟩
    . rw [if_neg hm, if_neg (by decide), decide_eq_false hm, Bool.false_or, <- Bool.and_assoc, Bool.and_comm (decide (P % 16 = 0)), Bool.and_assoc]
      congr 1
      rw [<- Bool.decide_and]
      exact decide_eq_decide.mpr ⟨fun ⟨h1, h2⟩ => by omega, fun h => by constructor <;> omega⟩
end G
namespace L2
open PySem PySem.Spec PyProof.Rows
def zDe (K : PySem.W.Frag) : R2 := fun x y H Q => ∃ a b xs ys, x = .ref a /\ y = .ref b /\ SqT K H a xs /\ SqT K H b ys /\ xs.length + ys.length <= sizeLine /\
  (xs = [] -> Q (.ref b) H) /\ (xs ≠ [] -> ys = [] -> Q (.ref a) H) /\ (xs ≠ [] -> ys ≠ [] -> ∀ p, H p = none -> Q (.ref p) (upd H p (.tup (xs ++ ys))))
section
variable {X : Cx}
def zEM (K : PySem.W.Frag) : R2 := fun x y H Q => ∃ (a b pa pb qa qb : Addr) (w h w' h' : Int) (ns ms ns' ms' : List Int), x = .ref a /\ y = .ref b /\ SqT K H a [.int w, .int h, .ref pa, .ref pb] /\ SqT K H b [.int w', .int h', .ref qa, .ref qb] /\
  SqT K H pa (ns.map V.int) /\ SqT K H pb (ms.map V.int) /\ SqT K H qa (ns'.map V.int) /\ SqT K H qb (ms'.map V.int) /\ Q (.bl ((w == w') && ((h == h') && (decide (ns = ns') && decide (ms = ms'))))) H
def zDf (i j : Int) : Prop := i.natAbs < 2 ^ 1000 /\ j.natAbs < 2 ^ 1000
end
def z8o : Sp := fun vs H Q _ => ∃ w m : Int, vs = [.int w, .int m] /\ 0 <= w /\ w <= 64 /\ 0 <= m /\ Q (.int (G.roomI w.toNat m)) H
end L2
namespace G
def tk : Nat -> List (Option Int) -> List (Option Int)
  | 0, _ => []
  | w + 1, [] => none :: tk w []
  | w + 1, c :: r => c :: tk w r
def zCi (x : Int) (r : List (Option Int)) : List (Option Int) := if 0 <= x then r.drop x.toNat else List.replicate (-x).toNat none ++ r
def zDg (b at' many : Int) : Int := (if 0 <= at' then b / 2 ^ at'.toNat else b * 2 ^ (-at').toNat) % 2 ^ many.toNat
def atR (r : List (Option Int)) (x : Int) : Option Int := if 0 <= x then (r[x.toNat]?).join else none
end G
namespace G
open PySem
def layR : List (Option Int) -> List (Option Int) -> List (Option Int)
  | u :: us, c :: cs => c.or u :: layR us cs
  | _, _ => []
def loI : List (Option Int) -> Nat
  | [] => 0
  | c :: r => if c.isSome = true then 0 else loI r + 1
def hiI : List (Option Int) -> Nat
  | [] => 0
  | c :: r => if hiI r = 0 then (if c.isSome = true then 1 else 0) else hiI r + 1
def isP (r : List (Option Int)) (i : Nat) : Prop := ((r[i]?).join).isSome = true
end G
namespace G
theorem zAR {r : List (Option Int)} {i : Nat} (h : isP r i) : i < r.length := by
  unfold isP at h
  cases hi : r[i]? with
  | none => rw [hi] at h; cases h
  | some c => exact (List.getElem?_eq_some_iff.mp hi).1
def z6m (w : Nat) (rows : List (List (Option Int))) : List (Option Int) := rows.foldl layR (List.replicate w none)
def anyR (rows : List (List (Option Int))) : List (Option Int) := rows.map fun r => if z0Y r = 0 then none else some 0
def zEN (rows : List (List (Option Int))) (n : Nat) : List Nat := (List.range n).filter fun y => decide (zR rows y ≠ 0) where
  zR (rows : List (List (Option Int))) (y : Nat) : Int := z0Y ((rows[y]?).getD [])
end G
namespace L2
open G
abbrev Rws := List (List (Option Int))
def z1x (rows : Rws) (x y : Nat) : Option Int := (((rows[y]?).getD [])[x]?).join
def z3m (w h : Nat) (f : Nat -> Nat -> Option Int) : Rws := (List.range h).map fun y => (List.range w).map fun x => f x y
theorem z85 (w h : Nat) (f : Nat -> Nat -> Option Int) : (z3m w h f).length = h := by unfold z3m; rw [List.length_map, List.length_range]
theorem Rect.cell {w h : Nat} {rows : Rws} (R : Rect w h rows) (x y : Nat) : Cell (z1x rows x y) := by
  unfold z1x
  cases hy : rows[y]? with
  | none => exact fun z e => nomatch e
  | some r =>
    show Cell ((r[x]?).join)
    cases hx : r[x]? with
    | none => exact fun z e => nomatch e
    | some c => exact (R.row r (List.mem_of_getElem? hy)).2 c (List.mem_of_getElem? hx)
theorem z3n {w h : Nat} {f : Nat -> Nat -> Option Int} (h1 : 1 <= h) (h2 : h <= 64) (w1 : 1 <= w) (w2 : w <= 64) (hc : ∀ x y, Cell (f x y)) : Rect w h (z3m w h f) :=
  ⟨z85 w h f, h1, h2, w1, w2, fun r hr => by
    unfold z3m at hr
    obtain ⟨y, _, rfl⟩ := List.mem_map.mp hr
    refine ⟨by rw [List.length_map, List.length_range], fun c hc' => ?_⟩
    obtain ⟨x, _, rfl⟩ := List.mem_map.mp hc'
    exact hc x y⟩
def zAS (w h : Nat) (rows : Rws) : Rws := z3m h w fun x y => z1x rows y (h - 1 - x)
def zDh (w h : Nat) (rows : Rws) : Rws := z3m w h fun x y => z1x rows (w - 1 - x) y
def zCj (w h : Nat) (rows : Rws) : Rws := z3m w h fun x y => z1x rows x (h - 1 - y)
theorem Rect.turn {w h : Nat} {rows : Rws} (R : Rect w h rows) : Rect h w (zAS w h rows) := z3n R.w1 R.w2 R.h1 R.h2 fun _ _ => R.cell _ _
theorem Rect.upd {w h : Nat} {rows : Rws} (R : Rect w h rows) : Rect w h (zCj w h rows) := z3n R.h1 R.h2 R.w1 R.w2 fun _ _ => R.cell _ _
end L2
namespace L2
open PySem PySem.Spec PyProof.Rows G
def zDi (i j : Int) : Prop := 0 <= j /\ j <= 1000000 /\ i.natAbs < 2 ^ 1000
def rowAt (rows : List (List (Option Int))) (y : Int) : List (Option Int) := if 0 <= y then (rows[y.toNat]?).getD [] else []
def zAt (zs : List Int) (y : Int) : Int := if 0 <= y then (zs[y.toNat]?).getD 0 else 0
def zDj (rows : List (List (Option Int))) (x y : Int) (w : Nat) : List (Option Int) := (List.range w).map fun (i : Nat) => atR (rowAt rows y) (x + (i : Int))
def cutRows (rows : List (List (Option Int))) (x y : Int) (w h : Nat) : List (List (Option Int)) := (List.range h).map fun (j : Nat) => zDj rows x (y + (j : Int)) w
def zAT : Sp := fun vs H Q _ => ∃ (t : Addr) (zs : List Int) (y : Int), vs = [.ref t, .int y] /\ H t = some (.tup (zs.map V.int)) /\ Q (.int (zAt zs y)) H
def zAU : Sp := fun vs H Q _ => ∃ b a m : Int, vs = [.int b, .int a, .int m] /\ 0 <= b /\ b < 2 ^ 256 /\ -1000 <= a /\ a <= 1000 /\ 0 <= m /\ m <= 1000 /\ Q (.int (zDg b a m)) H
def zDk : Sp := fun vs H Q _ => ∃ p x y w h rows w' h', vs = [.ref p, .int x, .int y, .int w', .int h'] /\ PicAt H p w rows /\ Rect w h rows /\ 1 <= w' /\ w' <= 64 /\ 1 <= h' /\ h' <= 64 /\
  ∀ q H', Same H H' -> PicAt H' q w'.toNat (cutRows rows x y w'.toNat h'.toNat) -> Q (.ref q) H'
end L2
namespace L2
open PySem PySem.Spec PyProof.Rows G
structure Made (H H2 : Hp) (f : Nat -> List (Option Int)) (i : Nat) (qs : List Addr) : Prop where
  same : Same H H2
  len : qs.length = i
  fr : ∀ q ∈ qs, H q = none
  at' : ∀ (j : Nat) q, qs[j]? = some q -> H2 q = some (.lst ((f j).map z0r))
  nd : qs.Nodup
theorem Made.nil {H : Hp} {f : Nat -> List (Option Int)} : Made H H f 0 [] := ⟨Same.refl _, rfl, (fun _ h => nomatch h), (fun _ _ h => nomatch h), List.nodup_nil⟩
theorem Made.push {H H2 H3 : Hp} {f : Nat -> List (Option Int)} {i : Nat} {qs : List Addr} {l : Addr} (M : Made H H2 f i qs) (s : Same H2 H3) (n : H2 l = none) (g : H3 l = some (.lst ((f i).map z0r))) : Made H H3 f (i + 1) (qs ++ [l]) where
  same := M.same.trans s
  len := by rw [List.length_append, M.len]; rfl
  fr := fun q hq => by
    rcases List.mem_append.mp hq with h | h
    . exact M.fr q h
    . rw [List.mem_singleton.mp h]
      exact M.same.free n
  at' := fun j q e => by
    have hl := M.len
    by_cases hj : j < qs.length
    . rw [List.getElem?_append_left hj] at e
      exact s _ _ (M.at' j q e)
    . rw [List.getElem?_append_right (by omega)] at e
      cases hk : j - qs.length with
      | zero =>
        rw [hk] at e
        cases e
        have ej : j = i := by omega
        rw [ej]
        exact g
      | succ n =>
        rw [hk] at e
        cases e
  nd := by
    refine List.nodup_append.mpr ⟨M.nd, by simp, fun q hq r hr e => ?_⟩
    rw [List.mem_singleton.mp hr] at e
    obtain ⟨j, hj, ej⟩ := List.mem_iff_getElem.mp hq
    have := M.at' j q (by rw [List.getElem?_eq_getElem hj, ej])
    rw [e, n] at this
    cases this
theorem Made.rows {H H2 : Hp} {f : Nat -> List (Option Int)} {n : Nat} {qs : List Addr} {l : Addr} (M : Made H H2 f n qs) (nl : H2 l = none) : RowsB H (upd H2 l (.lst (qs.map V.ref))) l qs ((List.range n).map f) where
  same := M.same.trans (Same.new nl)
  fl := M.same.free nl
  fp := fun p hp => ⟨M.fr p hp, fun e => by
    obtain ⟨j, hj, ej⟩ := List.mem_iff_getElem.mp hp
    have := M.at' j p (by rw [List.getElem?_eq_getElem hj, ej])
    rw [e, nl] at this
    cases this⟩
  rat := ⟨z05, by rw [M.len, List.length_map, List.length_range], fun i p r e1 e2 => by
    have hi : i < n := by
      have := (List.getElem?_eq_some_iff.mp e1).1
      have := M.len
      omega
    rw [List.getElem?_map, List.getElem?_range hi] at e2
    cases e2
    exact (Same.new nl) _ _ (M.at' i p e1)⟩
theorem PicAt.of {H : Hp} {p : Addr} {w : Nat} {rows rows' : List (List (Option Int))} (h : PicAt H p w rows) (e : rows = rows') : PicAt H p w rows' := e ▸ h
def zEO : Sp := fun vs H Q _ => ∃ (l : Addr) (ps : List Addr) (rows : List (List (Option Int))) (w h : Nat), vs = [.int (w : Int), .ref l] /\ RowsAt H l ps rows /\ Rect w h rows /\ ∀ p H', Same H H' -> H p = none -> PicAt H' p w rows -> Q (.ref p) H'
def zBm : Sp := fun vs H Q _ => ∃ (l : Addr) (x : Nat) (ps : List Addr) (rows : List (List (Option Int))) (w h : Nat), vs = [.ref l, .int (x : Int)] /\ RowsAt H l ps rows /\ Rect w h rows /\ x < w /\ ∀ l' H', Same H H' -> H l' = none -> H' l' = some (.lst (((List.range h).map fun i => z1x rows x (h - 1 - i)).map z0r)) -> Q (.ref l') H'
def zAy : Sp := fun vs H Q _ => ∃ p w h rows, vs = [.ref p] /\ PicAt H p w rows /\ Rect w h rows /\ ∀ q H', Same H H' -> PicAt H' q h (zAS w h rows) -> Q (.ref q) H'
def z9t : Sp := fun vs H Q _ => ∃ p w h rows, vs = [.ref p] /\ PicAt H p w rows /\ Rect w h rows /\ ∀ q H', Same H H' -> PicAt H' q w (zDh w h rows) -> Q (.ref q) H'
def zAV : Sp := fun vs H Q _ => ∃ p w h rows, vs = [.ref p] /\ PicAt H p w rows /\ Rect w h rows /\ ∀ q H', Same H H' -> PicAt H' q w (zCj w h rows) -> Q (.ref q) H'
theorem RowsAt.cell {H : Hp} {l : Addr} {ps : List Addr} {rows : List (List (Option Int))} {w h : Nat} (a : RowsAt H l ps rows) (R : Rect w h rows) {x y : Nat} (hx : x < w) (hy : y < h) :
    ∃ p xs, ps[y]? = some p /\ L2.atI (ps.map V.ref) (y : Int) = some (.ref p) /\ H p = some (.lst xs) /\ L2.atI xs (x : Int) = some (z0r (z1x rows x y)) := by
  have hR := R.len
  have hl : y < rows.length := by omega
  obtain ⟨p, e0, g⟩ := a.at hl
  have e1 : L2.atI (ps.map V.ref) (y : Int) = some (.ref p) := z0i (by rw [List.getElem?_map, e0]; rfl)
  have hw := (R.row0 hl).1
  refine ⟨p, _, e0, e1, g, z0i ?_⟩
  have e : z1x rows x y = (rows[y]'hl)[x]'(by omega) := by
    unfold z1x
    rw [List.getElem?_eq_getElem hl]
    show ((rows[y]'hl)[x]?).join = _
    rw [List.getElem?_eq_getElem (by omega)]
    rfl
  rw [List.getElem?_map, List.getElem?_eq_getElem (by omega), e]
  rfl
abbrev zDl (h : Heap) (T : Addr) (x y v : Value) : Prop := h.get? T = some { cls := .type "tuple", data := .seq #[x, y, v] }
structure Ap3 (z TI TO i1 i2 i3 l1 l2 l3 : Addr) : Prop where
  TIz : TI ≠ z
  TOz : TO ≠ z
  i1z : i1 ≠ z
  i2z : i2 ≠ z
  i3z : i3 ≠ z
  TITO : TI ≠ TO
  TIi1 : TI ≠ i1
  TIi2 : TI ≠ i2
  TIi3 : TI ≠ i3
  TOi1 : TO ≠ i1
  TOi2 : TO ≠ i2
  TOi3 : TO ≠ i3
  i12 : i1 ≠ i2
  i13 : i1 ≠ i3
  i23 : i2 ≠ i3
  l1z : l1 ≠ z
  l2z : l2 ≠ z
  l3z : l3 ≠ z
  l2i1 : l2 ≠ i1
  l2TO : l2 ≠ TO
  l3i1 : l3 ≠ i1
  l3i2 : l3 ≠ i2
  l3TO : l3 ≠ TO
section
variable {prog : Program} {w : World} {A : Around} {E : Value -> Shared -> Prop} {s : Shared}
abbrev zw1 (h : Heap) (l1 : Addr) : Heap := h.push { cls := .type "tuple_iterator", data := .fields #[.ref l1, .int 0 0] }
abbrev zw2 (h : Heap) (l1 l2 : Addr) : Heap := (zw1 h l1).push { cls := .type "tuple_iterator", data := .fields #[.ref l2, .int 0 0] }
abbrev zw3 (h : Heap) (l1 l2 l3 : Addr) : Heap := (zw2 h l1 l2).push { cls := .type "tuple_iterator", data := .fields #[.ref l3, .int 0 0] }
abbrev zw4 (h : Heap) (l1 l2 l3 : Addr) : Heap := (zw3 h l1 l2 l3).push { cls := .type "tuple", data := .seq #[.ref h.objs.size, .ref (zw1 h l1).objs.size, .ref (zw2 h l1 l2).objs.size] }
abbrev zw5 (h : Heap) (l1 l2 l3 : Addr) : Heap := (zw4 h l1 l2 l3).push { cls := .type "tuple", data := .seq #[.none, .none, .none] }
abbrev zw6 (h : Heap) (l1 l2 l3 : Addr) : Heap := (zw5 h l1 l2 l3).push { cls := .type "zip", data := .fields #[.none, .bool false, .bool false, .ref (zw3 h l1 l2 l3).objs.size, .ref (zw4 h l1 l2 l3).objs.size] }
end
def Itw (K : PySem.W.Frag) (a b c : Addr) (xs ys zs : List V) : It :=
  ⟨fun i H => SqT K H a xs /\ SqT K H b ys /\ SqT K H c zs /\ i < xs.length /\ i < ys.length /\ i < zs.length, fun i H x H' => ∃ T u v r, H T = none /\ x = .ref T /\ H' = upd H T (.tup [u, v, r]) /\ xs[i]? = some u /\ ys[i]? = some v /\ zs[i]? = some r,
    fun i H => SqT K H a xs /\ xs.length <= i⟩
section
variable {X : Cx}
def zDm (K : PySem.W.Frag) (ta : TA) : TI := fun σ H R => ta σ H fun vs H1 => ∃ a b c xs ys zs, vs = [.ref a, .ref b, .ref c] /\ SqT K H1 a xs /\ SqT K H1 b ys /\ SqT K H1 c zs /\ R (Itw K a b c xs ys zs) H1
end
theorem z30 : ∀ {ns : List Int} {us : List Value}, Vals (ns.map V.int) us -> IntsAre us ns
  | [], _, .nil => .nil
  | n :: ns, _, .cons q t => by
    obtain ⟨k, rfl⟩ := q
    exact .cons n k (z30 t)
section
variable {X : Cx}
def zEP (K : PySem.W.Frag) : R2 := fun x y H Q => ∃ (a b : Addr) (xs : List V), x = .ref a /\ y = .ref b /\ SqL K H a xs /\ SqL K H b [] /\ Q (.bl (decide (xs.length = 0))) H
end
structure Df2 (K : PySem.W.Frag) (mg : Str -> Option Value) (x : Str) (st : Stmt) (ps : List Str) (f : Addr) (fd : FuncData) (T : Addr) (d e : Int) : Prop where
  F : FunD K x x st f fd T
  b : Binds K fd ps []
  b1 : ∃ t, Binds K fd ps [.int e t]
  b2 : ∃ t u, Binds K fd ps [.int d t, .int e u]
  m : mg x = some (.ref f)
section
variable {P : Program} {w : World} {K : PySem.W.Frag} {mg : Str -> Option Value} {base : Heap} {x : Str} {st : Stmt} {ps : List Str} {f T : Addr} {fd : FuncData} {k : Nat} {sp : Sp} {d e : Int}
theorem Df2.ow (D : Df2 K mg x st ps f fd T d e) (F : FnOk P w K mg base CX0 k f fd ps sp) : Ow P w K mg base x ps k sp := ⟨f, fd, D.m, D.F.kp, D.b, F⟩
end
end L2
namespace L2
open PySem PySem.Spec PyProof.Rows G
def z9S : Sp := fun vs H Q _ => ∃ w lo up m : Int, vs = [.int w, .int lo, .int up, .int m] /\ 0 <= w /\ w <= 64 /\ 0 <= m /\ Q (.int (Builtin.bitOr (Builtin.bitAnd lo (Builtin.bitNot (roomI w.toNat m))) up)) H
def z6n (us cs : Rws) : Rws := List.zipWith layR us cs
def llR (w w2 h2 : Nat) (rows rows2 : Rws) (x y : Int) (j : Nat) : List (Option Int) := (List.range w).map fun (i : Nat) => (look w2 h2 rows2 ((i : Int) - x) ((j : Int) - y)).or (z1x rows i j)
def zCk : Sp := fun vs H Q _ => ∃ (p o : Addr) (x y : Int) (w h w2 h2 : Nat) (rows rows2 : Rws), vs = [.ref p, .ref o, .int x, .int y] /\ PicAt H p w rows /\ Rect w h rows /\ PicAt H o w2 rows2 /\ Rect w2 h2 rows2 /\
  ∀ q H', Same H H' -> PicAt H' q w (z6n rows (cutRows rows2 (-x) (-y) w h)) -> Q (.ref q) H'
def zBn : Sp := fun vs H Q _ => ∃ (l m : Addr) (x y : Int) (w h w2 h2 : Nat) (ps ps2 : List Addr) (rows rows2 : Rws), vs = [.ref l, .ref m, .int x, .int y] /\ RowsAt H l ps rows /\ Rect w h rows /\ RowsAt H m ps2 rows2 /\ Rect w2 h2 rows2 /\
  ∀ l' ps' H', Same H H' -> RowsAt H' l' ps' (z6n rows (cutRows rows2 (-x) (-y) w h)) -> Q (.ref l') H'
def zCl : Sp := fun vs H Q _ => ∃ (p : Addr) (w h : Nat) (rows : Rws), vs = [.ref p] /\ PicAt H p w rows /\ Rect w h rows /\ Q (.int (z0Y (z6m w rows))) H
def zCm (w : Nat) (rows : Rws) : Option (List Int) := if z0Y (z6m w rows) = 0 then none else some [(loI (z6m w rows) : Int), (loI (anyR rows) : Int), (hiI (z6m w rows) : Int) - (loI (z6m w rows) : Int), (hiI (anyR rows) : Int) - 1 - (loI (anyR rows) : Int) + 1]
def BoxV (H : Hp) (v : V) : Option (List Int) -> Prop
  | none => v = .non
  | some zs => ∃ t, v = .ref t /\ H t = some (.tup (zs.map V.int))
theorem BoxV.mono {H H' : Hp} {v : V} {b : Option (List Int)} (s : Same H H') (h : BoxV H v b) : BoxV H' v b := by
  cases b with
  | none => exact h
  | some zs => obtain ⟨t, e, g⟩ := h; exact ⟨t, e, s _ _ g⟩
def zDn : Sp := fun vs H Q _ => ∃ (p : Addr) (w h : Nat) (rows : Rws), vs = [.ref p] /\ PicAt H p w rows /\ Rect w h rows /\ ∀ v H', Same H H' -> BoxV H' v (zCm w rows) -> Q v H'
def zCn : Sp := fun vs H Q _ => ∃ (l : Addr) (ps : List Addr) (w h : Nat) (rows : Rws), vs = [.ref l] /\ RowsAt H l ps rows /\ Rect w h rows /\ ∀ v H', Same H H' -> BoxV H' v (zCm w rows) -> Q v H'
def pt (rows : Rws) (x y : Nat) : Prop := (z1x rows x y).isSome = true
theorem zBo {w h : Nat} {rows : Rws} (R : Rect w h rows) {x y : Nat} (p : pt rows x y) : x < w /\ y < h := by
  have hR := R.len
  unfold pt z1x at p
  cases hr : rows[y]? with
  | none =>
    rw [hr] at p
    have p' : ((([] : List (Option Int))[x]?).join).isSome = true := p
    cases x <;> cases p'
  | some r =>
    rw [hr] at p
    have hw := (R.row r (List.mem_of_getElem? hr)).1
    have hy := (List.getElem?_eq_some_iff.mp hr).1
    have hx := zAR (r := r) (i := x) p
    omega
structure Gone (w : Nat) (rows : Rws) (y x : Nat) (A D : List Int) : Prop where
  len : A.length = D.length
  small : A.length <= y * w + x
  a : ∀ z, z ∈ A ↔ ∃ x' y' : Nat, (y' < y \/ (y' = y /\ x' < x)) /\ pt rows x' y' /\ z = (x' : Int)
  d : ∀ z, z ∈ D ↔ ∃ x' y' : Nat, (y' < y \/ (y' = y /\ x' < x)) /\ pt rows x' y' /\ z = (y' : Int)
theorem Gone.nil {w : Nat} {rows : Rws} : Gone w rows 0 0 [] [] :=
  ⟨rfl, Nat.zero_le _, fun z => ⟨(fun h => nomatch h), fun ⟨x', y', h, _⟩ => by omega⟩, fun z => ⟨(fun h => nomatch h), fun ⟨x', y', h, _⟩ => by omega⟩⟩
theorem Gone.hole {w : Nat} {rows : Rws} {y x : Nat} {A D : List Int} (g : Gone w rows y x A D) (n : z1x rows x y = none) : Gone w rows y (x + 1) A D := by
  have np : ¬ pt rows x y := fun p => by unfold pt at p; rw [n] at p; cases p
  have key : ∀ x' y' : Nat, pt rows x' y' -> ((y' < y \/ (y' = y /\ x' < x)) ↔ (y' < y \/ (y' = y /\ x' < x + 1))) := fun x' y' p => by
    constructor
    . rintro (h | ⟨h1, h2⟩)
      . exact .inl h
      . exact .inr ⟨h1, by omega⟩
    . rintro (h | ⟨h1, h2⟩)
      . exact .inl h
      . by_cases e : x' = x
        . rw [e, h1] at p
          exact absurd p np
        . exact .inr ⟨h1, by omega⟩
  refine ⟨g.len, by have := g.small; omega, fun z => (g.a z).trans ⟨?_, ?_⟩, fun z => (g.d z).trans ⟨?_, ?_⟩⟩
  all_goals
    rintro ⟨x', y', h, p, e⟩
    exact ⟨x', y', by first | exact (key x' y' p).mp h | exact (key x' y' p).mpr h, p, e⟩
theorem Gone.put {w : Nat} {rows : Rws} {y x : Nat} {A D : List Int} (g : Gone w rows y x A D) {c : Int} (n : z1x rows x y = some c) : Gone w rows y (x + 1) (A ++ [(x : Int)]) (D ++ [(y : Int)]) := by
  have p0 : pt rows x y := by unfold pt; rw [n]; rfl
  have l := g.len
  refine ⟨by rw [List.length_append, List.length_append, l]; rfl, by rw [List.length_append]; have := g.small; show _ + 1 <= _; omega, fun z => ?_, fun z => ?_⟩
  . rw [List.mem_append, g.a z, List.mem_singleton]
    constructor
    . rintro (⟨x', y', h, p, e⟩ | e)
      . exact ⟨x', y', by omega, p, e⟩
      . exact ⟨x, y, by omega, p0, e⟩
    . rintro ⟨x', y', h, p, e⟩
      by_cases q : y' < y \/ (y' = y /\ x' < x)
      . exact .inl ⟨x', y', q, p, e⟩
      . have : x' = x := by omega
        rw [this] at e
        exact .inr e
  . rw [List.mem_append, g.d z, List.mem_singleton]
    constructor
    . rintro (⟨x', y', h, p, e⟩ | e)
      . exact ⟨x', y', by omega, p, e⟩
      . exact ⟨x, y, by omega, p0, e⟩
    . rintro ⟨x', y', h, p, e⟩
      by_cases q : y' < y \/ (y' = y /\ x' < x)
      . exact .inl ⟨x', y', q, p, e⟩
      . have : y' = y := by omega
        rw [this] at e
        exact .inr e
theorem Gone.row {w h : Nat} {rows : Rws} (R : Rect w h rows) {y : Nat} {A D : List Int} (g : Gone w rows y w A D) : Gone w rows (y + 1) 0 A D := by
  have key : ∀ x' y' : Nat, pt rows x' y' -> ((y' < y \/ (y' = y /\ x' < w)) ↔ (y' < y + 1 \/ (y' = y + 1 /\ x' < 0))) := fun x' y' p => by
    have := (zBo R p).1
    omega
  refine ⟨g.len, by have := g.small; rw [Nat.add_mul]; omega, fun z => (g.a z).trans ⟨?_, ?_⟩, fun z => (g.d z).trans ⟨?_, ?_⟩⟩
  all_goals
    rintro ⟨x', y', h, p, e⟩
    exact ⟨x', y', by first | exact (key x' y' p).mp h | exact (key x' y' p).mpr h, p, e⟩
end L2
namespace L2
open PySem PySem.Spec PyProof.Rows G
def zBp (K : PySem.W.Frag) : Sp := fun vs H Q _ => ∃ (a : Addr) (ns : List Int) (k p m : Int), vs = [.ref a, .int k, .int p, .int m] /\ SqL K H a (ns.map V.int) /\ 0 <= k /\ k < 1000000 /\ 0 < p /\ 0 < m /\ ∀ r, 0 <= r -> r < m -> Q (.int r) H
def z6o (K : PySem.W.Frag) : Sp := fun vs H Q _ => ∃ (a : Addr) (ns : List Int) (k : Int), vs = [.ref a, .int k] /\ SqL K H a (ns.map V.int) /\ 0 <= k /\ k < 100000 /\ ∀ c, Cell c -> Q (z0r c) H
def zBq : Sp := fun vs H Q _ => ∃ (p d : Addr) (w h : Nat) (rows : Rws), vs = [.ref p, .ref d] /\ PicAt H p w rows /\ PicAt H d w rows /\ Rect w h rows /\ ∀ H', Same H H' -> Q (.bl true) H'
def zAW (w h : Nat) (rows : Rws) (dx dy : Int) : Rws := z3m w h fun i j => look w h rows ((i : Int) + dx) ((j : Int) + dy)
def zCo : Sp := fun vs H Q _ => ∃ (p : Addr) (w h : Nat) (rows : Rws) (dx dy : Int), vs = [.ref p, .int dx, .int dy] /\ PicAt H p w rows /\ Rect w h rows /\ ∀ q H', Same H H' -> PicAt H' q w (zAW w h rows dx dy) -> Q (.ref q) H'
def zCp : Sp := fun vs H Q _ => ∃ (l : Addr) (ps : List Addr) (w h : Nat) (rows : Rws) (dx dy : Int), vs = [.ref l, .int dx, .int dy] /\ RowsAt H l ps rows /\ Rect w h rows /\ ∀ q H', Same H H' -> PicAt H' q w (zAW w h rows dx dy) -> Q (.ref q) H'
abbrev Bx := Int × Int × Int × Int
def bxV (b : Bx) : List V := [.int b.1, .int b.2.1, .int b.2.2.1, .int b.2.2.2]
def zDo (b : Bx) (i j : Int) : Bool := (decide (b.1 <= i) && decide (i < b.1 + b.2.2.1)) && (decide (b.2.1 <= j) && decide (j < b.2.1 + b.2.2.2))
def zDp (w h : Nat) (dx dy : Int) (i j : Int) : Bool := !(decide (0 <= i + dx) && decide (i + dx < w)) || !(decide (0 <= j + dy) && decide (j + dy < h))
def zCq (w h : Nat) (b : Bx) : Prop := 1 <= b.2.2.1 /\ 1 <= b.2.2.2 /\ 0 <= b.1 /\ 0 <= b.2.1 /\ b.1 + b.2.2.1 <= w /\ b.2.1 + b.2.2.2 <= h
structure FreshOk (w h : Nat) (dx dy : Int) (bs : List Bx) : Prop where
  len : bs.length <= 2
  box : ∀ b ∈ bs, zCq w h b
  cnt : ∀ i j : Nat, i < w -> j < h -> bs.countP (fun b => zDo b i j) = if zDp w h dx dy i j = true then 1 else 0
structure BxsAt (H : Hp) (l : Addr) (ts : List Addr) (bs : List Bx) : Prop where
  lst : H l = some (.lst (ts.map V.ref))
  len : ts.length = bs.length
  at' : ∀ (i : Nat) t b, ts[i]? = some t -> bs[i]? = some b -> H t = some (.tup (bxV b))
theorem BxsAt.mono {H H' : Hp} {l : Addr} {ts : List Addr} {bs : List Bx} (s : Same H H') (h : BxsAt H l ts bs) : BxsAt H' l ts bs := ⟨s _ _ h.lst, h.len, fun i t b e1 e2 => s _ _ (h.at' i t b e1 e2)⟩
def zBr : Sp := fun vs H Q _ => ∃ (w h : Nat) (dx dy : Int), vs = [.int w, .int h, .int dx, .int dy] /\ 1 <= w /\ w <= 64 /\ 1 <= h /\ h <= 64 /\ ∀ l ts bs H', Same H H' -> H l = none -> BxsAt H' l ts bs -> FreshOk w h dx dy bs -> Q (.ref l) H'
def zAz : Sp := fun vs H Q _ => ∃ (t : Addr) (b : Bx) (w h : Nat), vs = [.ref t, .int w, .int h] /\ H t = some (.tup (bxV b)) /\ zCq w h b /\ ∀ H', Same H H' -> Q (.bl true) H'
def zB0 : Sp := fun vs H Q _ => ∃ (l : Addr) (ts : List Addr) (bs : List Bx) (w h : Nat) (dx dy : Int), vs = [.ref l, .int w, .int h, .int dx, .int dy] /\ w <= 64 /\ h <= 64 /\ BxsAt H l ts bs /\ FreshOk w h dx dy bs /\ ∀ H', Same H H' -> Q (.bl true) H'
def zCr (K : PySem.W.Frag) : Sp := fun vs H Q _ => ∃ (a : Addr) (ns : List Int) (k s : Int), vs = [.ref a, .int k, .int s] /\ SqL K H a (ns.map V.int) /\ 0 <= k /\ k < 1000 /\ 0 <= s /\ s <= 64 /\ ∀ z, Q (.int z) H
end L2
namespace L2
open PySem PySem.Spec PyProof.Rows G
def z9u (z : Int) : Int := if z < 0 then -z else z
def bxA (w h : Nat) (dx : Int) : List Bx := if 0 < z9u dx then [(if 0 < dx then (w : Int) - dx else 0, 0, z9u dx, (h : Int))] else []
def bxB (w h : Nat) (dx dy : Int) : List Bx := if 0 < z9u dy then [(if 0 < dx then 0 else z9u dx, if 0 < dy then (h : Int) - dy else 0, (w : Int) - z9u dx, z9u dy)] else []
def Sc (x : V) : Prop := x = .non \/ (∃ b, x = .bl b) \/ (∃ i, x = .int i) \/ (∃ z, x = .str z) \/ ∃ a, x = .ref a
theorem Sc.int (i : Int) : Sc (.int i) := .inr (.inr (.inl ⟨i, rfl⟩))
theorem Sc.non : Sc .non := .inl rfl
theorem Sc.str (z : Str) : Sc (.str z) := .inr (.inr (.inr (.inl ⟨z, rfl⟩)))
theorem Sc.ref (a : Addr) : Sc (.ref a) := .inr (.inr (.inr (.inr ⟨a, rfl⟩)))
def Eqv : Nat -> Hp -> V -> V -> Prop
  | 0, _, x, y => x = y /\ Sc x
  | n + 1, H, x, y => (x = y /\ Sc x) \/ ∃ a b xs ys, x = .ref a /\ y = .ref b /\ ((H a = some (.lst xs) /\ H b = some (.lst ys)) \/ (H a = some (.tup xs) /\ H b = some (.tup ys))) /\ xs.length = ys.length /\ ∀ (i : Nat) u v, xs[i]? = some u -> ys[i]? = some v -> Eqv n H u v
theorem Eqv.same {n : Nat} {H : Hp} {x : V} (h : Sc x) : Eqv n H x x := by
  cases n with
  | zero => exact ⟨rfl, h⟩
  | succ n => exact .inl ⟨rfl, h⟩
theorem Eqv.mono {H H' : Hp} (s : Same H H') : ∀ {n : Nat} {x y : V}, Eqv n H x y -> Eqv n H' x y
  | 0, _, _, h => h
  | n + 1, _, _, h => by
    rcases h with h | ⟨a, b, xs, ys, e1, e2, e3, e5, e6⟩
    . exact .inl h
    . refine .inr ⟨a, b, xs, ys, e1, e2, ?_, e5, fun i u v h1 h2 => (e6 i u v h1 h2).mono s⟩
      rcases e3 with ⟨p, q⟩ | ⟨p, q⟩
      . exact .inl ⟨s _ _ p, s _ _ q⟩
      . exact .inr ⟨s _ _ p, s _ _ q⟩
theorem z3o : ∀ {xs : List V} {its : List Value} {j : Nat} {v : Value}, Vals xs its -> its[j]? = some v -> ∃ x, xs[j]? = some x /\ RelV x v
  | _, _, _, _, .nil, e => by simp at e
  | _, _, 0, _, .cons r _, e => by
    simp at e
    exact ⟨_, rfl, e ▸ r⟩
  | _, _, j + 1, _, .cons _ rs, e => z3o (j := j) rs (by simpa using e)
theorem zAX {A : Around} {k : Nat} (hr : Room k A) : A.units + 9 < cLine := by
  have := hr.un
  omega
section
variable {X : Cx} {pins : List (Addr × Obj)} {σ : St} {H : Hp} {s : Shared} {A : Around}
theorem z4u {a b : Addr} {xs ys : List V} (hu : A.units < cLine) (I : Inv X pins σ H s) (ha : H a = some (.lst xs)) (hb : H b = some (.lst ys)) (hl : xs.length = ys.length)
    (he : ∀ (j : Nat) x y vx vy, xs[j]? = some x -> ys[j]? = some y -> RelV x vx -> RelV y vy -> SeqAt.EqAt A.in1 s vx vy true) : SeqAt.RcAt A s (.ref a) (.ref b) true /\ SeqAt.RcNeAt A s (.ref a) (.ref b) false := by
  obtain ⟨its, r1, p1, _⟩ := I.list (SqL.of ha)
  obtain ⟨its2, r2, p2, _⟩ := I.list (SqL.of hb)
  have l1 := r1.length
  have l2 := r2.length
  have hsz : its.toArray.size = its2.toArray.size := by rw [List.size_toArray, List.size_toArray]; omega
  have hx : ∀ (j : Nat) (h1 : j < its.toArray.size) (h2 : j < its2.toArray.size), SeqAt.EqAt A.in1 s its.toArray[j] its2.toArray[j] ((fun _ => true) j) := fun j h1 h2 => by
    have i1 : j < its.length := by simpa using h1
    have i2 : j < its2.length := by simpa using h2
    obtain ⟨x, ex, rx⟩ := z3o r1 (List.getElem?_eq_getElem i1)
    obtain ⟨y, ey, ry⟩ := z3o r2 (List.getElem?_eq_getElem i2)
    have := he j x y _ _ ex ey rx ry
    simpa using this
  have e : ((List.range its.toArray.size).all fun _ => true) = true := by simp
  have q1 := SeqAt.RcAt.lists (A := A) (s := s) (e := fun _ => true) p1.isList p2.isList hsz hu hx
  have q2 := SeqAt.RcNeAt.lists (A := A) (s := s) (e := fun _ => true) p1.isList p2.isList hsz hu hx
  rw [e] at q1 q2
  exact ⟨q1, q2⟩
theorem z6p {a b : Addr} {xs ys : List V} (hu : A.units < cLine) (I : Inv X pins σ H s) (ha : H a = some (.tup xs)) (hb : H b = some (.tup ys)) (hl : xs.length = ys.length)
    (he : ∀ (j : Nat) x y vx vy, xs[j]? = some x -> ys[j]? = some y -> RelV x vx -> RelV y vy -> SeqAt.EqAt A.in1 s vx vy true) : SeqAt.RcAt A s (.ref a) (.ref b) true /\ SeqAt.RcNeAt A s (.ref a) (.ref b) false := by
  obtain ⟨its, r1, p1, _⟩ := I.tuple (SqT.of ha)
  obtain ⟨its2, r2, p2, _⟩ := I.tuple (SqT.of hb)
  have l1 := r1.length
  have l2 := r2.length
  have hx : ∀ (j : Nat) (h1 : j < its.toArray.size) (h2 : j < its2.toArray.size), SeqAt.EqAt A.in1 s its.toArray[j] its2.toArray[j] ((fun _ => true) j) := fun j h1 h2 => by
    have i1 : j < its.length := by simpa using h1
    have i2 : j < its2.length := by simpa using h2
    obtain ⟨x, ex, rx⟩ := z3o r1 (List.getElem?_eq_getElem i1)
    obtain ⟨y, ey, ry⟩ := z3o r2 (List.getElem?_eq_getElem i2)
    have := he j x y _ _ ex ey rx ry
    simpa using this
  have e1 : ((List.range (min its.toArray.size its2.toArray.size)).all (fun _ => true) && its.toArray.size == its2.toArray.size) = true := by
    rw [List.size_toArray, List.size_toArray, <- l1, <- l2, hl]
    simp
  have q1 := SeqAt.RcAt.tuples (A := A) (s := s) (e := fun _ => true) p1 p2 hu hx
  have q2 := SeqAt.RcNeAt.tuples (A := A) (s := s) (e := fun _ => true) p1 p2 hu hx
  rw [e1] at q1 q2
  exact ⟨q1, q2⟩
theorem zAY {n : Nat} : ∀ {A : Around} {x y : V} {vx vy : Value}, A.units + n < cLine -> Inv X pins σ H s -> Eqv n H x y -> RelV x vx -> RelV y vy -> SeqAt.EqAt A s vx vy true := by
  have zA7 : ∀ {A : Around} {x : V} {vx vy : Value}, Sc x -> RelV x vx -> RelV x vy -> SeqAt.EqAt A s vx vy true := fun {A x vx vy} h rx ry => by
    rcases h with rfl | ⟨b, rfl⟩ | ⟨i, rfl⟩ | ⟨z, rfl⟩ | ⟨a, rfl⟩
    . cases (show vx = Value.none from rx)
      cases (show vy = Value.none from ry)
      exact SeqAt.EqAt.same _
    . cases (show vx = Value.bool b from rx)
      cases (show vy = Value.bool b from ry)
      exact SeqAt.EqAt.same _
    . obtain ⟨t1, rfl⟩ := rx
      obtain ⟨t2, rfl⟩ := ry
      have := SeqAt.EqAt.int_int (A := A) (s := s) i t1 i t2
      rw [beq_self_eq_true] at this
      exact this
    . obtain ⟨t1, rfl⟩ := rx
      obtain ⟨t2, rfl⟩ := ry
      have := SeqAt.EqAt.str_str (A := A) (s := s) z t1 z t2
      rw [beq_self_eq_true] at this
      exact this
    . cases (show vx = Value.ref a from rx)
      cases (show vy = Value.ref a from ry)
      exact SeqAt.EqAt.same _
  induction n with
  | zero =>
    intro A x y vx vy hu I h rx ry
    obtain ⟨rfl, hs⟩ := h
    exact zA7 hs rx ry
  | succ n ih =>
    intro A x y vx vy hu I h rx ry
    rcases h with ⟨rfl, hs⟩ | ⟨a, b, xs, ys, rfl, rfl, e3, e5, e6⟩
    . exact zA7 hs rx ry
    . cases (show vx = Value.ref a from rx)
      cases (show vy = Value.ref b from ry)
      by_cases e : a = b
      . subst e
        exact SeqAt.EqAt.same _
      . refine SeqAt.EqAt.of_refs e ?_
        have hx : ∀ (j : Nat) x y vx vy, xs[j]? = some x -> ys[j]? = some y -> RelV x vx -> RelV y vy -> SeqAt.EqAt A.in1 s vx vy true := fun j x y vx vy h1 h2 r1 r2 => ih (A := A.in1) (show A.units + 1 + n < cLine by omega) I (e6 j x y h1 h2) r1 r2
        rcases e3 with ⟨p, q⟩ | ⟨p, q⟩
        . exact (z4u (by omega) I p q e5 hx).1
        . exact (z6p (by omega) I p q e5 hx).1
end
def EqT (n : Nat) (H : Hp) (x y : V) : Prop := ∃ a b xs ys, x = .ref a /\ y = .ref b /\ ((H a = some (.lst xs) /\ H b = some (.lst ys)) \/ (H a = some (.tup xs) /\ H b = some (.tup ys))) /\ xs.length = ys.length /\ ∀ (i : Nat) u v, xs[i]? = some u -> ys[i]? = some v -> Eqv n H u v
theorem EqT.mono {n : Nat} {H H' : Hp} {x y : V} (s : Same H H') (h : EqT n H x y) : EqT n H' x y := by
  obtain ⟨a, b, xs, ys, e1, e2, e3, e5, e6⟩ := h
  refine ⟨a, b, xs, ys, e1, e2, ?_, e5, fun i u v h1 h2 => (e6 i u v h1 h2).mono s⟩
  rcases e3 with ⟨p, q⟩ | ⟨p, q⟩
  . exact .inl ⟨s _ _ p, s _ _ q⟩
  . exact .inr ⟨s _ _ p, s _ _ q⟩
theorem EqT.copy {n : Nat} {H : Hp} {a b : Addr} {xs : List V} (ha : H a = some (.lst xs)) (hb : H b = some (.lst xs)) (h : ∀ x ∈ xs, Sc x) : EqT n H (.ref a) (.ref b) := ⟨a, b, _, _, rfl, rfl, .inl ⟨ha, hb⟩, rfl, fun i u v h1 h2 => by
  rw [h1] at h2
  cases h2
  exact Eqv.same (h u (List.mem_of_getElem? h1))⟩
def zEQ (n : Nat) : R2 := fun x y H Q => EqT n H x y /\ Q (.bl true) H
def zCs (n : Nat) : R2 := fun x y H Q => EqT n H x y /\ Q (.bl false) H
section
variable {X : Cx} {n : Nat}
theorem zAZ (hu : X.A.units + 9 < cLine) (hn : n <= 8 := by decide) : OpR X (compareOp .NotEq) (zCs n) := by
  intro pins s σ H x y v u Q I rx ry h0
  obtain ⟨⟨a, b, xs, ys, rfl, rfl, e3, e5, e6⟩, q⟩ := h0
  cases rx
  cases ry
  have hx : ∀ (j : Nat) x y vx vy, xs[j]? = some x -> ys[j]? = some y -> RelV x vx -> RelV y vy -> SeqAt.EqAt X.A.in1 s vx vy true := fun j x y vx vy h1 h2 r1 r2 => zAY (A := X.A.in1) (show X.A.units + 1 + n < cLine by omega) I (e6 j x y h1 h2) r1 r2
  rcases e3 with ⟨p, p2⟩ | ⟨p, p2⟩
  . exact (z4u (by omega) I p p2 e5 hx).2 X.prog X.w X.xe _ ⟨.bl _, H, I, rfl, q⟩
  . exact (z6p (by omega) I p p2 e5 hx).2 X.prog X.w X.xe _ ⟨.bl _, H, I, rfl, q⟩
end
def z27 (z : Str) (lo hi : Option Int) : Str := ⟨((z.cps.toList.drop (HT.sIx z.length 0 lo)).take (HT.sIx z.length z.length hi - HT.sIx z.length 0 lo)).toArray⟩
theorem z6q (n : Nat) (v : Option Int) (d : Nat) : (match v with
    | none => (d : Int)
    | some i => max 0 (min (if i < 0 then i + (n : Int) else i) (n : Int))) = ((HT.sIx n d v : Nat) : Int) := by
  cases v with
  | none => rfl
  | some i =>
    simp only [HT.sIx]
    by_cases h : i < 0
    . simp only [h, if_true] <;> omega
    . simp only [h, if_false] <;> omega
theorem z8p (lo hi : Option Int) (n : Nat) : Builtin.Str.strSliceIndices lo hi 1 n = (List.range (HT.sIx n n hi - HT.sIx n 0 lo)).map (HT.sIx n 0 lo + ·) := by
  have h1 := z6q n lo 0
  have h2 := z6q n hi n
  unfold Builtin.Str.strSliceIndices
  simp only [show (1 : Int) > 0 by decide, if_true]
  rw [<- sliceRange_one]
  congr 1
theorem z3N (z : Str) (lo hi : Option Int) : (z27 z lo hi).length <= z.length := by
  show ((z.cps.toList.drop (HT.sIx z.length 0 lo)).take (HT.sIx z.length z.length hi - HT.sIx z.length 0 lo)).toArray.size <= z.cps.size
  rw [List.size_toArray, List.length_take, List.length_drop, Array.length_toList]
  omega
def zDq : V -> Option Int -> Option Int -> Hp -> VK -> Prop := fun x lo hi H Q => ∃ z, x = .str z /\ z.length <= sizeLine /\ Q (.str (z27 z lo hi)) H
section
variable {X : Cx}
theorem part_of : ∀ {v : Value} {o : Option Int}, IsPart v o -> ∃ p : Option (Int × Tok), v = partValue p /\ p.map (·.1) = o
  | _, _, .none => ⟨none, rfl, rfl⟩
  | _, _, .int i t => ⟨some (i, t), rfl, rfl⟩
theorem z8q : SlR X zDq := by
  intro pins s σ H x v vl vu lo hi sl Q I rx hs pl pu h
  obtain ⟨z, rfl, hz, q⟩ := h
  obtain ⟨t, rfl⟩ := rx
  obtain ⟨l, rfl, rfl⟩ := part_of pl
  obtain ⟨u, rfl, rfl⟩ := part_of pu
  refine ⟨"str", _, F.slot_str_getitem.lookup, typeIs_str _ z t, ?_⟩
  refine wpAny_getItem_str_slice (l := l) (u := u) (st := none) hs rfl ?_
  have e : (slicePicked z l u none).filterMap (z.cps[·]?) = (z.cps.toList.drop (HT.sIx z.length 0 (l.map (·.1)))).take (HT.sIx z.length z.length (u.map (·.1)) - HT.sIx z.length 0 (l.map (·.1))) := by
    unfold slicePicked
    rw [show ((none : Option (Int × Tok)).map (·.1)).getD 1 = 1 from rfl, z8p, pick_run]
  unfold sliceMade
  by_cases c : (((none : Option (Int × Tok)).map (·.1)).getD 1 == 1 && (slicePicked z l u none).length == z.length) = true
  . rw [if_pos c]
    have hl : (slicePicked z l u none).length = z.length := by
      have := (Bool.and_eq_true _ _).mp c
      exact beq_iff_eq.mp this.2
    have e2 : z27 z (l.map (·.1)) (u.map (·.1)) = z := by
      have hl2 : HT.sIx z.length z.length (u.map (·.1)) - HT.sIx z.length 0 (l.map (·.1)) = z.length := by
        unfold slicePicked at hl
        rw [show ((none : Option (Int × Tok)).map (·.1)).getD 1 = 1 from rfl, z8p, List.length_map, List.length_range] at hl
        exact hl
      have hle := HT.sIx_le z.length z.length (Nat.le_refl _) (u.map (·.1))
      have h0 : HT.sIx z.length 0 (l.map (·.1)) = 0 \/ z.length = 0 := by omega
      unfold z27
      rw [hl2]
      have hd : z.cps.toList.drop (HT.sIx z.length 0 (l.map (·.1))) = z.cps.toList := by
        rcases h0 with h0 | h0
        . rw [h0, List.drop_zero]
        . have hnil : z.cps.toList = [] := List.eq_nil_of_length_eq_zero (by rw [Array.length_toList]; exact h0)
          rw [hnil, List.drop_nil]
      rw [hd, show z.length = z.cps.toList.length from (Array.length_toList).symm, List.take_length]
    exact ⟨.str z, H, I, ⟨t, rfl⟩, by rw [e2] at q; exact q⟩
  . rw [if_neg c, e]
    exact ⟨Nat.le_trans (z3N z _ _) hz, .str (z27 z _ _), H, I.tok _, ⟨_, rfl⟩, q⟩
theorem z6r : ∀ {zs : List Str} {us : List Value}, Vals (zs.map V.str) us -> ∃ l : List (Str × Tok), us = strValues l /\ l.map (·.1) = zs
  | [], _, .nil => ⟨[], rfl, rfl⟩
  | z :: zs, _, .cons r t => by
    obtain ⟨l, e1, e2⟩ := z6r t
    obtain ⟨k, rfl⟩ := r
    exact ⟨(z, k) :: l, by rw [e1]; rfl, by rw [List.map_cons, e2]⟩
def joinN (sep : Str) (zs : List Str) : Nat := (zs.map fun z => z.length + sep.length).sum
theorem z31 (sep : Str) : ∀ (zs : List Str) (n : Nat), zs.foldl (fun a z => a + z.length + sep.length) n = n + joinN sep zs
  | [], n => rfl
  | z :: zs, n => by
    rw [List.foldl_cons, z31 sep zs]
    show n + z.length + sep.length + joinN sep zs = n + (z.length + sep.length + joinN sep zs)
    omega
theorem z0Q (a b : Str) : (a ++ b).length = a.length + b.length := by
  show (a.cps ++ b.cps).size = _
  rw [Array.size_append]
  rfl
theorem z3O (sep : Str) : ∀ zs : List Str, (Str.join sep zs).length <= joinN sep zs
  | [] => Nat.zero_le _
  | [z] => by
    show z.length <= z.length + sep.length + 0
    omega
  | z :: y :: zs => by
    have ih := z3O sep (y :: zs)
    show (z ++ sep ++ Str.join sep (y :: zs)).length <= z.length + sep.length + joinN sep (y :: zs)
    rw [z0Q, z0Q]
    omega
theorem z2M {sep : Str} {m : Nat} : ∀ {zs : List Str}, (∀ z ∈ zs, z.length <= m) -> joinN sep zs <= zs.length * (m + sep.length)
  | [], _ => Nat.zero_le _
  | z :: zs, h => by
    have ih := z2M (sep := sep) (m := m) (zs := zs) fun y hy => h y (List.mem_cons_of_mem _ hy)
    have hz := h z List.mem_cons_self
    show z.length + sep.length + joinN sep zs <= (zs.length + 1) * (m + sep.length)
    rw [Nat.add_mul, Nat.one_mul]
    omega
def rJoin (K : PySem.W.Frag) : V -> List V -> Hp -> VK -> Prop := fun x vs H Q => ∃ (sep : Str) (a : Addr) (zs : List Str), x = .str sep /\ vs = [.ref a] /\ SqL K H a (zs.map V.str) /\ joinN sep zs <= sizeLine /\ Q (.str (Str.join sep zs)) H
theorem z4O : MtR X "str.join" (rJoin X.K) := by
  intro pins s σ H x vs v us Q I rx rv h
  obtain ⟨sep, a, zs, rfl, rfl, hS, hz, q⟩ := h
  obtain ⟨t, rfl⟩ := rx
  obtain ⟨u, rfl, ru⟩ := vals1 rv
  cases ru
  obtain ⟨its, r, pl, _⟩ := I.list hS
  obtain ⟨l, rfl, e⟩ := z6r r
  have hl : Builtin.Str.tooLong ((l.map (·.1)).toArray.foldl (· + ·.length + sep.length) 0) = false := by
    rw [e, List.foldl_toArray, z31]
    unfold Builtin.Str.tooLong
    exact decide_eq_false (by omega)
  refine call_meets F.slot_str_join (typeIs_str _ sep t) F.entry_str_join (F.args_str_join_2 _ _) (meets_str_join_list sep t a l hl) ⟨pl.isList, ?_⟩
  have fin : ∀ tk, EP X pins σ Q (.str (Str.join sep zs) tk) { s with toks := s.toks + 1 } := fun tk => ⟨.str _, H, I.tok _, ⟨_, rfl⟩, q⟩
  unfold joinMade
  split
  . rename_i p
    have ez : zs = [p.1] := by rw [<- e]; rfl
    have q' : Q (.str p.1) H := by rw [ez] at q; exact q
    exact ⟨.str p.1, H, I, ⟨p.2, rfl⟩, q'⟩
  . rw [e, PySem.StrLaws.glued_eq_join]
    exact ⟨Nat.le_trans (z3O sep zs) hz, fin _⟩
end
end L2
namespace L2
open PySem PySem.Spec PyProof.Rows G
def z18 (ns : List Int) (k p m : Int) : Int := if ns.length = 0 then 0 else (ns.getD (k % (ns.length : Int)).toNat 0 + k * k) * 48271 % p % m
theorem z0d {ns : List Int} {k p m : Int} (h : 0 < m) : 0 <= z18 ns k p m /\ z18 ns k p m < m := by
  unfold z18
  split
  . exact ⟨Int.le_refl _, h⟩
  . exact ⟨Int.emod_nonneg _ (by omega), Int.emod_lt_of_pos _ h⟩
def z28 (K : PySem.W.Frag) : Sp := fun vs H Q _ => ∃ (a : Addr) (ns : List Int) (k p m : Int), vs = [.ref a, .int k, .int p, .int m] /\ SqL K H a (ns.map V.int) /\ 0 <= k /\ k < 1000000 /\ 0 < p /\ 0 < m /\ Q (.int (z18 ns k p m)) H
theorem z86 {ns : List Int} (h : 0 < ns.length) (k : Int) : atI (ns.map V.int) (k % ((ns.map V.int).length : Int)) = some (.int (ns.getD (k % (ns.length : Int)).toNat 0)) := by
  have e : ((ns.map V.int).length : Int) = (ns.length : Int) := by rw [List.length_map]
  rw [e]
  have h1 := Int.emod_nonneg k (show (ns.length : Int) ≠ 0 by omega)
  have h2 := Int.emod_lt_of_pos k (show (0 : Int) < ns.length by omega)
  have e2 : k % (ns.length : Int) = (((k % (ns.length : Int)).toNat : Nat) : Int) := by omega
  have hj : (k % (ns.length : Int)).toNat < ns.length := by omega
  have e3 : ns.getD (k % (ns.length : Int)).toNat 0 = ns[(k % (ns.length : Int)).toNat] := by rw [List.getD_eq_getElem?_getD, List.getElem?_eq_getElem hj]; rfl
  rw [e3]
  conv => lhs; rw [e2]
  exact z0i (by rw [List.getElem?_map, List.getElem?_eq_getElem hj]; rfl)
def sgnL : List Nat := ((List.range 95).map fun c => c + 32).filter fun c => decide (c ≠ 37)
theorem z2N : sgnL.length = 94 := by decide +kernel
theorem z9T : sgnL.Nodup := by decide +kernel
def one (c : Nat) : Str := ⟨#[c]⟩
theorem one_inj {a b : Nat} (h : one a = one b) : a = b := by
  have := congrArg (fun z : Str => z.cps[0]?) h
  simpa [one] using this
theorem z9U (c : Nat) : (one c).length = 1 := rfl
def z1o (n : Int) : Nat := sgnL.getD (n % 94).toNat 0
def sgn (n : Int) : Str := one (z1o n)
theorem zAa (n : Int) : atI sgnL (n % 94) = some (z1o n) := by
  have h1 := Int.emod_nonneg n (show (94 : Int) ≠ 0 by decide)
  have h2 := Int.emod_lt_of_pos n (show (0 : Int) < 94 by decide)
  have e2 : n % 94 = (((n % 94).toNat : Nat) : Int) := by omega
  have hj : (n % 94).toNat < sgnL.length := by rw [z2N]; omega
  unfold z1o
  rw [List.getD_eq_getElem?_getD, List.getElem?_eq_getElem hj]
  conv => lhs; rw [e2]
  exact z0i (List.getElem?_eq_getElem hj)
theorem z2O {a b : Int} (h : z1o a = z1o b) : a % 94 = b % 94 := by
  have ha1 := Int.emod_nonneg a (show (94 : Int) ≠ 0 by decide)
  have ha2 := Int.emod_lt_of_pos a (show (0 : Int) < 94 by decide)
  have hb1 := Int.emod_nonneg b (show (94 : Int) ≠ 0 by decide)
  have hb2 := Int.emod_lt_of_pos b (show (0 : Int) < 94 by decide)
  have hj : (a % 94).toNat < sgnL.length := by rw [z2N]; omega
  have hk : (b % 94).toNat < sgnL.length := by rw [z2N]; omega
  unfold z1o at h
  rw [List.getD_eq_getElem?_getD, List.getD_eq_getElem?_getD, List.getElem?_eq_getElem hj, List.getElem?_eq_getElem hk] at h
  have := (List.getElem_inj z9T).mp h
  omega
def z6s : Sp := fun vs H Q _ => ∃ n : Int, vs = [.int n] /\ Q (.str (sgn n)) H
structure Sg where
  c : Nat
  w : Nat
  rows : Rws
def SgAt (hg : Nat) (H : Hp) (t : Addr) (S : Sg) : Prop := ∃ rl ps, H t = some (.tup [.str (one S.c), .ref rl]) /\ RowsAt H rl ps S.rows /\ Rect S.w hg S.rows
def PrAt (hg : Nat) (H : Hp) (t : Addr) (S : Sg) : Prop := ∃ p, H t = some (.tup [.str (one S.c), .ref p]) /\ PicAt H p S.w S.rows /\ Rect S.w hg S.rows
theorem SgAt.mono {hg : Nat} {H H' : Hp} {t : Addr} {S : Sg} (s : Same H H') (h : SgAt hg H t S) : SgAt hg H' t S := let ⟨rl, ps, a, b, c⟩ := h; ⟨rl, ps, s _ _ a, b.mono s, c⟩
theorem PrAt.mono {hg : Nat} {H H' : Hp} {t : Addr} {S : Sg} (s : Same H H') (h : PrAt hg H t S) : PrAt hg H' t S := let ⟨p, a, b, c⟩ := h; ⟨p, s _ _ a, b.mono s, c⟩
structure ListS (R : Hp -> Addr -> Sg -> Prop) (H : Hp) (l : Addr) (ts : List Addr) (Ss : List Sg) : Prop where
  lst : H l = some (.lst (ts.map V.ref))
  len : ts.length = Ss.length
  at' : ∀ (i : Nat) t S, ts[i]? = some t -> Ss[i]? = some S -> R H t S
abbrev SgsAt (hg : Nat) := ListS (SgAt hg)
abbrev PrsAt (hg : Nat) := ListS (PrAt hg)
theorem SgsAt.mono {hg : Nat} {H H' : Hp} {l : Addr} {ts : List Addr} {Ss : List Sg} (s : Same H H') (h : SgsAt hg H l ts Ss) : SgsAt hg H' l ts Ss := ⟨s _ _ h.lst, h.len, fun i t S a b => (h.at' i t S a b).mono s⟩
theorem PrsAt.mono {hg : Nat} {H H' : Hp} {l : Addr} {ts : List Addr} {Ss : List Sg} (s : Same H H') (h : PrsAt hg H l ts Ss) : PrsAt hg H' l ts Ss := ⟨s _ _ h.lst, h.len, fun i t S a b => (h.at' i t S a b).mono s⟩
theorem ListS.get {R : Hp -> Addr -> Sg -> Prop} {H : Hp} {l : Addr} {ts : List Addr} {Ss : List Sg} (h : ListS R H l ts Ss) {i : Nat} (hi : i < Ss.length) : ∃ t, ts[i]? = some t /\ R H t (Ss[i]'hi) /\ atI (ts.map V.ref) ((i : Nat) : Int) = some (.ref t) := by
  have h1 : i < ts.length := by rw [h.len]; exact hi
  have e := List.getElem?_eq_getElem h1
  exact ⟨_, e, h.at' i _ _ e (List.getElem?_eq_getElem hi), z0i (by rw [List.getElem?_map, e]; rfl)⟩
theorem z87 {R : Hp -> Addr -> Sg -> Prop} {H H' : Hp} {ts : List Addr} {Ss : List Sg} {t : Addr} (mono : ∀ t S, R H t S -> R H' t S) (h : ∀ (j : Nat) t S, ts[j]? = some t -> Ss[j]? = some S -> R H t S) (hn : ∀ S, Ss[ts.length]? = some S -> R H' t S) :
    ∀ (j : Nat) u S, (ts ++ [t])[j]? = some u -> Ss[j]? = some S -> R H' u S := fun j u S e1 e2 => by
  by_cases hj : j < ts.length
  . rw [List.getElem?_append_left hj] at e1
    exact mono u S (h j u S e1 e2)
  . rw [List.getElem?_append_right (by omega)] at e1
    cases hk : j - ts.length with
    | zero =>
      rw [hk] at e1
      cases e1
      have ej : j = ts.length := by omega
      rw [ej] at e2
      exact hn S e2
    | succ n =>
      rw [hk] at e1
      cases e1
def zBs (K : PySem.W.Frag) : Sp := fun vs H Q _ => ∃ (a : Addr) (ns : List Int) (k m h : Int), vs = [.ref a, .int k, .int m, .int h] /\ SqL K H a (ns.map V.int) /\ 0 <= k /\ k < 1000 /\ 1 <= m /\ m <= 60 /\ 1 <= h /\ h <= 64 /\
  ∀ l ts Ss H', Same H H' -> H l = none -> SgsAt h.toNat H' l ts Ss -> Ss.length = m.toNat -> (∀ (i : Nat) S, Ss[i]? = some S -> S.c = z1o (z18 ns k 10039 94 + 37 * i)) -> Q (.ref l) H'
def zBt : Sp := fun vs H Q _ => ∃ (l : Addr) (ts : List Addr) (Ss : List Sg) (hg : Nat), vs = [.ref l] /\ SgsAt hg H l ts Ss /\ Ss.length <= 60 /\ ∀ m us H', Same H H' -> H m = none -> PrsAt hg H' m us Ss -> Q (.ref m) H'
def known (Ss : List Sg) (c : Nat) : Bool := Ss.any fun S => decide (S.c = c)
def TextOf (Ss : List Sg) (z : Str) : Prop := ∀ c ∈ z.cps.toList, known Ss c = true
def zCt (K : PySem.W.Frag) : Sp := fun vs H Q _ => ∃ (a l : Addr) (ns : List Int) (k n : Int) (ts : List Addr) (Ss : List Sg) (hg : Nat), vs = [.ref a, .int k, .ref l, .int n] /\ SqL K H a (ns.map V.int) /\ SgsAt hg H l ts Ss /\ 1 <= Ss.length /\ 0 <= k /\ k < 10000 /\ 0 <= n /\ n <= 1000 /\
  ∀ z H', Same H H' -> z.length = n.toNat -> TextOf Ss z -> Q (.str z) H'
def wOf (Ss : List Sg) (c : Nat) : Nat := ((Ss.filter fun S => decide (S.c = c)).map (·.w)).sum
def z4P (Ss : List Sg) (gap : Int) (cs : List Nat) (k : Nat) : Int := (((cs.take k).map (wOf Ss)).sum : Nat) + gap * ((k - 1 : Nat) : Int)
def zB1 : Sp := fun vs H Q _ => ∃ (l : Addr) (ts : List Addr) (Ss : List Sg) (hg : Nat) (z : Str) (gap : Int), vs = [.ref l, .str z, .int gap] /\ SgsAt hg H l ts Ss /\ z.length <= 1000 /\ Q (.int (z4P Ss gap z.cps.toList z.length)) H
def SgAtX (l : Addr) (hg : Nat) (H : Hp) (t : Addr) (S : Sg) : Prop := ∃ rl ps, H t = some (.tup [.str (one S.c), .ref rl]) /\ RowsAt H rl ps S.rows /\ Rect S.w hg S.rows /\ rl ≠ l /\ ∀ p ∈ ps, p ≠ l
theorem SgAtX.mono {l : Addr} {hg : Nat} {H H' : Hp} {t : Addr} {S : Sg} (s : Same H H') (h : SgAtX l hg H t S) : SgAtX l hg H' t S := let ⟨rl, ps, a, b, c⟩ := h; ⟨rl, ps, s _ _ a, b.mono s, c⟩
theorem SgAtX.put {l : Addr} {hg : Nat} {H : Hp} {t : Addr} {S : Sg} {xs : List V} {o : HO} (hl : H l = some (.lst xs)) (h : SgAtX l hg H t S) : SgAtX l hg (upd H l o) t S :=
  let ⟨rl, ps, a, b, c, d, e⟩ := h; ⟨rl, ps, (z06 (z1H a hl fun z => nomatch z)).trans a, ⟨(z06 d).trans b.lst, b.len, fun i p r x y => (z06 (e p (List.mem_of_getElem? x))).trans (b.row i p r x y)⟩, c, d, e⟩
theorem SgAtX.at {l : Addr} {hg : Nat} {H : Hp} {t : Addr} {S : Sg} (h : SgAtX l hg H t S) : SgAt hg H t S := let ⟨rl, ps, a, b, c, _⟩ := h; ⟨rl, ps, a, b, c⟩
theorem z6t {R : Hp -> Addr -> Sg -> Prop} {H H' : Hp} {ts : List Addr} {Ss : List Sg} {t : Addr} {S : Sg} (hl : ts.length = Ss.length) (mono : ∀ t S, R H t S -> R H' t S) (h : ∀ (j : Nat) t S, ts[j]? = some t -> Ss[j]? = some S -> R H t S) (hn : R H' t S) :
    ∀ (j : Nat) u T, (ts ++ [t])[j]? = some u -> (Ss ++ [S])[j]? = some T -> R H' u T := fun j u T e1 e2 => by
  by_cases hj : j < ts.length
  . rw [List.getElem?_append_left hj] at e1
    rw [List.getElem?_append_left (by omega)] at e2
    exact mono u T (h j u T e1 e2)
  . rw [List.getElem?_append_right (by omega)] at e1 e2
    cases hk : j - ts.length with
    | zero =>
      rw [hk] at e1
      rw [<- hl, hk] at e2
      cases e1
      cases e2
      exact hn
    | succ n =>
      rw [hk] at e1
      cases e1
theorem z88 {Ss : List Sg} {S : Sg} {f : Nat -> Nat} (h : ∀ (i : Nat) S, Ss[i]? = some S -> S.c = f i) (hn : S.c = f Ss.length) : ∀ (i : Nat) T, (Ss ++ [S])[i]? = some T -> T.c = f i := fun i T e => by
  by_cases hj : i < Ss.length
  . rw [List.getElem?_append_left hj] at e
    exact h i T e
  . rw [List.getElem?_append_right (by omega)] at e
    cases hk : i - Ss.length with
    | zero =>
      rw [hk] at e
      cases e
      have : i = Ss.length := by omega
      rw [this]
      exact hn
    | succ n =>
      rw [hk] at e
      cases e
theorem z3p {Ss : List Sg} {S : Sg} (h : S ∈ Ss) : known Ss S.c = true := List.any_eq_true.mpr ⟨S, h, decide_eq_true rfl⟩
theorem z3q (Ss : List Sg) (gap : Int) (cs : List Nat) : z4P Ss gap cs 0 = 0 := by
  unfold z4P
  simp
def z5X (Ss : List Sg) (c j : Nat) : Nat := (((Ss.take j).filter fun S => decide (S.c = c)).map (·.w)).sum
theorem z5Y {Ss : List Sg} {c j : Nat} {S : Sg} (h : Ss[j]? = some S) : z5X Ss c (j + 1) = z5X Ss c j + if S.c = c then S.w else 0 := by
  unfold z5X
  rw [List.take_succ, h, List.filter_append, List.map_append, List.sum_append]
  congr 1
  show (([S].filter fun S => decide (S.c = c)).map (·.w)).sum = _
  by_cases e : S.c = c
  . rw [List.filter_cons_of_pos (by simpa using e), if_pos e]
    rfl
  . rw [List.filter_cons_of_neg (by simpa using e), if_neg e]
    rfl
theorem z6u (Ss : List Sg) (c : Nat) : z5X Ss c Ss.length = wOf Ss c := by
  unfold z5X wOf
  rw [List.take_length]
theorem z6v {Ss : List Sg} {gap : Int} {cs : List Nat} {k c : Nat} (h : cs[k]? = some c) : z4P Ss gap cs (k + 1) = z4P Ss gap cs k + (if 0 < k then gap else 0) + (wOf Ss c : Nat) := by
  unfold z4P
  rw [List.take_succ, h]
  show ((((cs.take k ++ [c]).map (wOf Ss)).sum : Nat) : Int) + gap * ((k + 1 - 1 : Nat) : Int) = _
  rw [List.map_append, List.sum_append]
  show (((((cs.take k).map (wOf Ss)).sum + (wOf Ss c + 0) : Nat)) : Int) + gap * ((k + 1 - 1 : Nat) : Int) = _
  rw [Nat.add_sub_cancel, Nat.add_zero, Int.natCast_add]
  cases k with
  | zero => simp
  | succ k =>
    rw [if_pos (Nat.succ_pos k), Nat.add_sub_cancel, Int.natCast_add, Int.mul_add]
    simp
    omega
def zER (K : PySem.W.Frag) : R2 := fun x y H Q => ∃ (a b pa pb qa qb : Addr) (w h w' h' : Int) (ns ms ns' ms' : List Int), x = .ref a /\ y = .ref b /\ SqT K H a [.int w, .int h, .ref pa, .ref pb] /\ SqT K H b [.int w', .int h', .ref qa, .ref qb] /\
  SqT K H pa (ns.map V.int) /\ SqT K H pb (ms.map V.int) /\ SqT K H qa (ns'.map V.int) /\ SqT K H qb (ms'.map V.int) /\ Q (.bl (!((w == w') && ((h == h') && (decide (ns = ns') && decide (ms = ms')))))) H
section
variable {X : Cx}
end
section
variable {X : Cx} {pins : List (Addr × Obj)} {σ : St} {H : Hp} {s : Shared}
theorem Inv.adopt {a : Addr} {o : HO} {h' : Heap} {tk : Nat} (I : Inv X pins σ H s) (F : z63 X pins H a) (k : ∀ b u, b ≠ a -> s.heap.get? b = some u -> h'.get? b = some u) (ha : ∃ u, h'.get? a = some u) (new : ObjOk X.prog X.w (upd H a o) h' a o) :
    Inv X pins σ (upd H a o) { s with heap := h', toks := tk } := by
  obtain ⟨f0, f1, f2, f3, f4, f5⟩ := F
  have nH : ∀ {b : Addr} {u : HO}, H b = some u -> b ≠ a := fun e => z08 e f0
  have nch : ∀ {b : Addr}, b ∉ [a] -> b ≠ a := fun h z => h (by simp [z])
  refine I.step (g' := s.gens) (d' := s.drawn) (t' := tk) (ch := [a]) (fun b hb => ?_) (fun b u _ _ c e _ => k b u (nch c) e) (fun b u _ _ c e _ => ⟨u.slots, k b u (nch c) e⟩) (fun b u c _ n => by rw [z06 (nch c)]; exact n) (fun b u c e => ⟨u, k b u (nch c) e⟩)
    (fun b xs e => by rw [z06 (nH e)]; exact e) (fun b u xs e => by rw [z06 (nH e)]; exact e) (fun b ps e => ⟨#[], by rw [z06 (nH e), e]; simp⟩) (fun m hm => ?_) (fun b u e => ?_) I.bare
  . have e : b = a := by simpa using hb
    subst e
    exact ⟨f3, f1, f4, f5⟩
  . obtain ⟨u, es, ep, ho, r⟩ := hm
    exact ⟨u, es, ep, k _ u (Ne.symm f1) ho, r⟩
  . by_cases z : b = a
    . subst z
      rw [z05] at e
      cases e
      exact new
    . rw [z06 z] at e
      refine (I.hok b u e).stay (fun c v hc q => k c v ?_ q) (fun c q => by rw [z06 (nH q)]; exact q) fun c xs q => by rw [z06 (nH q)]; exact q
      rcases hc with rfl | hc
      . exact z
      . exact nH hc
end
structure Fly (P : Program) (w : World) (st : List Env) (H H' : Hp) (B : Heap) (a C t : Addr) (h h' : Heap) : Prop where
  un : Un (frs st) [] H H' h h'
  keep : ∀ b o, h.get? b = some o -> H b = none -> b ∉ frs st -> B.get? b = some o
  thr : ∀ b o, h.get? b = some o -> b ∉ frs st -> ∃ o', B.get? b = some o'
  hok : HOk P w H' B
  fl : Heap.FlyingW B st a (.ref C) (.ref t) h'
def CX1 (P : Program) (w : World) : CXT := fun st H s E e s' => ∃ (a t C : Addr) (B : Heap) (H' : Hp), e = .ref a /\ s'.os = s.os /\ AllBare s'.gens /\ Fly P w st H H' B a C t s.heap s'.heap /\ E (.ref C) none H'
section
variable {X : Cx} {pins : List (Addr × Obj)} {σ : St} {H H' : Hp} {s : Shared}
theorem nin {b : Addr} : b ∉ ([] : List Addr) := fun h => nomatch h
theorem z1y {env : Env} {outer : List Env} {L : Addr} (hf : env.frame = some L) : frs (env :: outer) = L :: frs outer := by
  unfold frs
  rw [List.filterMap_cons, hf]
theorem Fly.leave {B : Heap} {a C t : Addr} {h1 h' : Heap} (I : Inv X pins σ H s) (hst : X.stack = X.env :: X.outer) (hf : X.env.frame = some X.env.locals) (hex : X.ex = []) (F : Fly X.prog X.w X.stack H H' B a C t s.heap h1)
    (fl : Heap.FlyingW B X.outer a (.ref C) (.ref t) h') (sm : h1.UpToSlots h') : Fly X.prog X.w X.outer X.H₀ H' B a C t X.s₀.heap h' := by
  have hS : frs X.stack = X.env.locals :: frs X.outer := by rw [hst]; exact z1y hf
  have hx : ∀ b, b ∉ X.ex := fun b => by rw [hex]; exact nin
  have ne : ∀ b o, X.s₀.heap.get? b = some o -> b ≠ X.env.locals := fun b o e => Nat.ne_of_lt (Nat.lt_of_lt_of_le (Heap.lt_size e) I.ok.above)
  have out : ∀ b o, X.s₀.heap.get? b = some o -> b ∉ frs X.outer -> b ∉ frs X.stack := fun b o e n hb => by
    rw [hS] at hb
    rcases List.mem_cons.mp hb with z | z
    . exact ne b o e z
    . exact n z
  have inn : ∀ b, b ∈ frs X.outer -> b ∈ frs X.stack := fun b hb => by rw [hS]; exact List.mem_cons_of_mem _ hb
  have kB : ∀ b o, X.s₀.heap.get? b = some o -> X.H₀ b = none -> b ∉ frs X.outer -> B.get? b = some o := fun b o e n nb =>
    F.keep b o (I.base.keep b o e n nb (hx b)) (I.base.free b o e n (hx b)) (out b o e nb)
  have tB : ∀ b o, X.s₀.heap.get? b = some o -> b ∉ frs X.outer -> ∃ o', B.get? b = some o' := fun b o e nb => by
    obtain ⟨o', e'⟩ := I.base.there b o e (hx b)
    exact F.thr b o' e' (out b o e nb)
  have sl : ∀ b o, X.s₀.heap.get? b = some o -> X.H₀ b = none -> b ∈ frs X.outer -> ∃ sl, h'.get? b = some { o with slots := sl } := fun b o e n hb => by
    obtain ⟨s1, e1⟩ := I.base.slot b o e n hb (hx b)
    obtain ⟨s2, e2⟩ := F.un.slot b _ e1 (I.base.free b o e n (hx b)) (inn b hb) nin
    obtain ⟨_, o', ho', hd⟩ := I.ok.funs.mem hb
    rw [e] at ho'
    cases ho'
    obtain ⟨s3, e3⟩ := sm b _ e2 hd
    exact ⟨s3, e3⟩
  refine ⟨⟨fun b o e n nb _ => fl.1 b o (kB b o e n nb), fun b o e n hb _ => sl b o e n hb, fun b o e n _ => ?_, fun b o e _ => ?_, fun b xs e => F.un.tups b xs (I.base.tups b xs e), fun b o u e => F.un.frzs b o u (I.base.frzs b o u e), fun b ps e => ?_⟩, kB, tB, F.hok, fl⟩
  . obtain ⟨s1, e1⟩ := I.base.any e n (hx b)
    exact F.un.free b _ e1 (I.base.free b o e n (hx b)) nin
  . by_cases hb : b ∈ frs X.outer
    . obtain ⟨s1, e1⟩ := sl b o e (I.ok.frf b hb) hb
      exact ⟨_, e1⟩
    . obtain ⟨o', e'⟩ := tB b o e hb
      exact ⟨o', fl.1 b o' e'⟩
  . obtain ⟨m1, e1⟩ := I.base.tbls b ps e
    obtain ⟨m2, e2⟩ := F.un.tbls b _ e1
    exact ⟨m1 ++ m2, by rw [e2, Array.append_assoc]⟩
theorem Fly.first {e C t : Addr} {vs : List Value} {h1 h' : Heap} (I : Inv X pins σ H s) (hst : X.stack = X.env :: X.outer) (hf : X.env.frame = some X.env.locals) (hex : X.ex = []) (hx : Heap.MadeExcOf s.heap h1 e (.ref C) vs)
    (fl : Heap.FlyingW (PySem.W.hideAll s.heap (frs X.stack)) X.outer e (.ref C) (.ref t) h') (sm : h1.UpToSlots h') : Fly X.prog X.w X.outer X.H₀ H (PySem.W.hideAll s.heap (frs X.stack)) e C t X.s₀.heap h' := by
  have hS : frs X.stack = X.env.locals :: frs X.outer := by rw [hst]; exact z1y hf
  have hxx : ∀ b, b ∉ X.ex := fun b => by rw [hex]; exact nin
  have ne : ∀ b o, X.s₀.heap.get? b = some o -> b ≠ X.env.locals := fun b o e => Nat.ne_of_lt (Nat.lt_of_lt_of_le (Heap.lt_size e) I.ok.above)
  have out : ∀ b o, X.s₀.heap.get? b = some o -> b ∉ frs X.outer -> b ∉ frs X.stack := fun b o e n hb => by
    rw [hS] at hb
    rcases List.mem_cons.mp hb with z | z
    . exact ne b o e z
    . exact n z
  have kB : ∀ b o, X.s₀.heap.get? b = some o -> X.H₀ b = none -> b ∉ frs X.outer -> (PySem.W.hideAll s.heap (frs X.stack)).get? b = some o := fun b o e n nb => PySem.W.hideAll_get _ (I.base.keep b o e n nb (hxx b)) (out b o e nb)
  have tB : ∀ b o, X.s₀.heap.get? b = some o -> b ∉ frs X.outer -> ∃ o', (PySem.W.hideAll s.heap (frs X.stack)).get? b = some o' := fun b o e nb => by
    obtain ⟨o', e'⟩ := I.base.there b o e (hxx b)
    exact ⟨o', PySem.W.hideAll_get _ e' (out b o e nb)⟩
  have sl : ∀ b o, X.s₀.heap.get? b = some o -> X.H₀ b = none -> b ∈ frs X.outer -> ∃ sl, h'.get? b = some { o with slots := sl } := fun b o e n hb => by
    obtain ⟨s1, e1⟩ := I.base.slot b o e n hb (hxx b)
    obtain ⟨_, o', ho', hd⟩ := I.ok.funs.mem hb
    rw [e] at ho'
    cases ho'
    obtain ⟨s3, e3⟩ := sm b _ (hx.keeps b _ e1) hd
    exact ⟨s3, e3⟩
  refine ⟨⟨fun b o e n nb _ => fl.1 b o (kB b o e n nb), fun b o e n hb _ => sl b o e n hb, fun b o e n _ => I.base.free b o e n (hxx b), fun b o e _ => ?_, fun b xs e => I.base.tups b xs e, fun b o u e => I.base.frzs b o u e, fun b ps e => I.base.tbls b ps e⟩, kB, tB, fun b u q => ?_, fl⟩
  . by_cases hb : b ∈ frs X.outer
    . obtain ⟨s1, e1⟩ := sl b o e (I.ok.frf b hb) hb
      exact ⟨_, e1⟩
    . obtain ⟨o', e'⟩ := tB b o e hb
      exact ⟨o', fl.1 b o' e'⟩
  . refine (I.hok b u q).stay (fun c v hc e => PySem.W.hideAll_get _ e fun hm => ?_) (fun _ z => z) fun _ _ z => z
    have n := I.stkFree c hm
    rcases hc with z | z
    . rw [z, q] at n
      cases n
    . rw [z] at n
      cases n
end
section
variable {P : Program} {w : World} {K : PySem.W.Frag} {mg : Str -> Option Value} {base : Heap} {N : List Str} {qual : Str} {scope : Scope} {f : Addr} {cd : Value} {A : Around} {outer : List Env} {s : Shared} {H : Hp} {E : XK}
end
def zCu (X : Cx) (E : XK) : Prop := ∀ (pins : List (Addr × Obj)) (σ : St) (H : Hp) (s : Shared) (h' : Heap) (e C : Addr) (vs : List Value), Inv X pins σ H s -> Heap.MadeExcOf s.heap h' e (.ref C) vs -> E (.ref C) none H -> X.xe (.ref e) { s with heap := h' }
abbrev z5Z : List Value := [.type "ValueError", .type "Exception", .type "BaseException", .type "object"]
def XCls (K : PySem.W.Frag) (C : Addr) : Prop := PySem.W.excIn K C z5Z "ValueError.__new__" = true
theorem XCls.obj {K : PySem.W.Frag} {C : Addr} {h : Heap} (X : K.In h) (q : XCls K C) : ∃ bm N nm qn bs hdct sn sub ab col dd k0 k1 k2 k3 k5 mN, h.get? C = some (excClassObj nm qn C N bs bm hdct sn sub ab col dd k0 k1 k2 k3 k5 "ValueError.__new__") /\ h.Ns N mN /\ mN "__init__" = none /\ OwnTail h z5Z bm /\
    ∃ c0 d0 cd0 sl0, K.lookup C = some ⟨c0, d0, .cls cd0, sl0⟩ /\ cd0.mro = .ref C :: bm := by
  unfold XCls PySem.W.excIn at q
  split at q
  . rename_i dd cd sl ho
    split at q
    . rename_i C' bm k0 k1 k2 k3 n k5 hm hs
      simp only [Bool.and_eq_true, beq_iff_eq, Bool.not_eq_true'] at q
      obtain ⟨⟨⟨⟨⟨rfl, rfl⟩, hdel⟩, ht⟩, hok⟩, hni⟩ := q
      obtain ⟨nm, bs, mro, ns, qn, hd, sn, sub, ab, col, del⟩ := cd
      dsimp only at hm hdel hok hni
      subst hm hdel
      have hsl : sl = #[k0, k1, k2, k3, some (.builtin "ValueError.__new__"), k5] := by
        obtain ⟨l⟩ := sl
        simp only at hs
        rw [hs]
      subst hsl
      exact ⟨bm, ns, nm, qn, bs, hd, sn, sub, ab, col, dd, k0, k1, k2, k3, k5, _, X _ _ ho, .of_isNs (PySem.W.isNs_of_in X hok), PySem.W.nsMap_none_of_in X hok hni, PySem.W.tail_of_in X ht, _, _, _, _, ho, rfl⟩
    . cases q
  . cases q
section
variable {X : Cx} {E : XK} {x : Str} {np cpos pos : Pos} {e : Expr} {es : List Expr} {t : TA} {C : Addr}
def zCv (C : Addr) (E : XK) (t : TA) : TS := fun _ σ H => t σ H fun vs H1 => vs.length <= 1000 /\ E (.ref C) none H1
end
structure XC (K : PySem.W.Frag) (C : Addr) : Prop where
  cls : XCls K C
  ga : PySem.W.findIn K (.ref C) "__getattribute__" = some (some (.builtin "BaseException.__getattribute__"))
  gn : PySem.W.findIn K (.ref C) "__getattr__" = some none
  kc : PySem.W.findIn K (.ref C) "__class__" = some (some (.builtin "object.__class__"))
  kg : PySem.W.specialIn K (.builtin "object.__class__") "__get__" = some (some (.builtin "getset_descriptor.__get__"))
  kt : PySem.W.takesIn K (.builtin "object.__class__") = some true
  km : PySem.W.mroIn K C (.type "object") = some true
section
variable {prog : Program} {w : World} {A : Around} {E : Value -> Shared -> Prop} {s : Shared} {K : PySem.W.Frag} {x C : Addr} {ox : Obj}
theorem gaSlot : Slot "ValueError" "__getattribute__" "BaseException.__getattribute__" := F.attrBase_ValueError.ga
def ExcAt (x C : Addr) (h : Heap) : Prop := ∃ o, h.get? x = some o /\ o.cls = .ref C
theorem ExcAt.ty {M : Model} {h : Heap} (I : ExcAt x C h) : PySem.W.Looks M h (typeOf (.ref x)) (.ref C) := by
  obtain ⟨o, h1, h2⟩ := I
  have L : PySem.W.Looks M h (typeOf (.ref x)) o.cls := (PySem.W.Looks.ld h1).andThen .now
  rw [h2] at L
  exact L
end
section
variable {M : Model} {A : Around} {E : Value -> Shared -> Prop}
variable {nm q : Str} {C N : Addr} {bs bm : List Value} {hdct : Bool} {sn : List Str} {sub : List Value} {ab : Bool} {col : Option Bool} {dd : Option Addr} {k0 k1 k2 k3 k5 : Option Value} {newId : String}
variable {nm' q' : Str} {G N' : Addr} {bs' bm' : List Value} {hdct' : Bool} {sn' : List Str} {sub' : List Value} {ab' : Bool} {col' : Option Bool} {dd' : Option Addr} {k0' k1' k2' k3' k5' : Option Value} {newId' : String}
theorem z1n {h : Heap} {g : Array GenState} {d : Drawn} {t : Nat} {os : OsState} {e : Addr} {oe : Obj} {Q : Bool -> Shared -> Prop}
    (hC : h.get? C = some (excClassObj nm q C N bs bm hdct sn sub ab col dd k0 k1 k2 k3 k5 newId)) (hG : h.get? G = some (excClassObj nm' q' G N' bs' bm' hdct' sn' sub' ab' col' dd' k0' k1' k2' k3' k5' newId'))
    (he : h.get? e = some oe) (hcls : oe.cls = .ref C) (hbase : bm'.contains (.type "BaseException") = true) (hsub : (Value.ref C :: bm).contains (.ref G) = true)
    (hq : Q true ⟨h, g, d, t, os⟩) : wpAny M A (excMatches (.ref e) (.ref G)) Q E ⟨h, g, d, t, os⟩ := by
  have hcB : (Value.ref G :: bm').contains (.type "BaseException") = true := by rw [List.contains_cons, hbase, Bool.or_true]
  have f := tc_notTuple
  unfold excMatches
  repeat (first | (with_reducible refine wpAny_loadPart_at he ?_; rw [hcls]) | with_reducible refine wpAny_loadPart_at hG ?_ | (with_reducible refine wpAny_isSubtype_exc hG ?_; rw [hcB]) | (with_reducible refine wpAny_isSubtype_exc hC ?_; rw [hsub]) | wp_step)
  exact hq
end
section
variable {X : Cx} {pins : List (Addr × Obj)} {σ : St} {H : Hp} {s : Shared}
theorem z0y {M : Model} {A : Around} {E : Value -> Shared -> Prop} {i : Nat} {n : Str} {pos : Pos} {Q : Unit -> Shared -> Prop} (I : Inv X pins σ H s) (hN : X.N.Nodup) (hi : X.N[i]? = some n) (hk : X.env.scope.names.lookup n = some .local)
    (h : ∀ s', Inv X pins (σ.set i none) H s' -> Q () s') : wpAny M A (do bindName X.env n .none; unbindBehindTheSuite X.env n pos) Q E s := by
  obtain ⟨m, hn, hl⟩ := id I.loc
  have hcls : (X.env.scope.kind == .class || (X.env.scope.kind == .module && X.env.locals != X.env.globals)) = false := by rw [I.ok.kind]; rfl
  refine wpAny_nameGoes_keeps hk hn hcls fun h' v hn' hs => ?_
  obtain ⟨oL, _, _, hoL, _⟩ := id hn
  refine h _ ⟨I.ok, I.os, I.bare, ⟨fun b o e n' hb hx => ?_, fun b o e n' hb hx => ?_, I.base.free, fun b o e hx => ?_, I.base.tups, I.base.frzs, I.base.tbls⟩, ⟨_, hn', fun j y v' e1 e2 e3 => ?_⟩, fun y c e => ?_, I.free, I.freeC, fun p hp => ?_, fun b ob e => ?_, by simpa using I.len⟩
  . exact (hs.2 b (Nat.ne_of_lt (Nat.lt_of_lt_of_le (Heap.lt_size e) I.ok.above))).trans (I.base.keep b o e n' hb hx)
  . obtain ⟨sl, e1⟩ := I.base.slot b o e n' hb hx
    exact ⟨sl, (hs.2 b (Nat.ne_of_lt (Nat.lt_of_lt_of_le (Heap.lt_size e) I.ok.above))).trans e1⟩
  . obtain ⟨o', e1⟩ := I.base.there b o e hx
    exact ⟨o', (hs.2 b (Nat.ne_of_lt (Nat.lt_of_lt_of_le (Heap.lt_size e) I.ok.above))).trans e1⟩
  . have hj : j ≠ i := fun z => by
      rw [z] at e2
      have hiσ : i < σ.length := by rw [I.len]; exact (List.getElem?_eq_some_iff.mp hi).1
      rw [List.getElem?_set_self hiσ] at e2
      cases e2
    rw [List.getElem?_set_ne (Ne.symm hj)] at e2
    obtain ⟨u', r', q⟩ := hl j y v' e1 e2 e3
    refine ⟨u', r', ?_⟩
    rcases q with ⟨k, e⟩ | ⟨k, c, e, o, ho, hd⟩
    . refine .inl ⟨k, ?_⟩
      have : y ≠ n := fun e => hj (z3A hN e1 (e ▸ hi))
      simp [this, e]
    . exact .inr ⟨k, c, e, o, (hs.2 c (I.cne y c e)).trans ho, hd⟩
  . obtain ⟨v', o, ho, hd⟩ := I.cell y c e
    exact ⟨v', o, (hs.2 c (I.cne y c e)).trans ho, hd⟩
  . obtain ⟨e1, n1, ne, nf, d⟩ := I.pin p hp
    exact ⟨(hs.2 p.1 ne).trans e1, n1, ne, nf, d⟩
  . refine (I.hok b ob e).stay (fun c w' hc q => (hs.2 c ?_).trans q) (fun _ q => q) fun _ _ q => q
    rintro rfl
    have hfree := I.free
    rcases hc with z | z
    . rw [<- z, hfree] at e; cases e
    . rw [hfree] at z; cases z
end
theorem Fly.on {P : Program} {w : World} {st : List Env} {H H' : Hp} {B : Heap} {a C t : Addr} {h h1 h2 : Heap} (F : Fly P w st H H' B a C t h h1) (fl : Heap.FlyingW B st a (.ref C) (.ref t) h2) (sm : h1.UpToSlots h2) : Fly P w st H H' B a C t h h2 := by
  have sl : ∀ b o, h.get? b = some o -> H b = none -> b ∈ frs st -> ∃ sl, h2.get? b = some { o with slots := sl } := fun b o e n hb => by
    obtain ⟨s1, e1⟩ := F.un.slot b o e n hb nin
    obtain ⟨_, o', ho', hd⟩ := F.fl.2.2.1.mem hb
    rw [e1] at ho'
    cases ho'
    obtain ⟨s2, e2⟩ := sm b _ e1 hd
    exact ⟨s2, e2⟩
  refine ⟨⟨fun b o e n nb _ => fl.1 b o (F.keep b o e n nb), fun b o e n hb _ => sl b o e n hb, F.un.free, fun b o e _ => ?_, F.un.tups, F.un.frzs, F.un.tbls⟩, F.keep, F.thr, F.hok, fl⟩
  by_cases hb : b ∈ frs st
  . obtain ⟨o', e'⟩ := F.un.there b o e nin
    obtain ⟨_, o2, ho2, hd⟩ := F.fl.2.2.1.mem hb
    obtain ⟨s2, e2⟩ := sm b _ ho2 hd
    exact ⟨_, e2⟩
  . obtain ⟨o', e'⟩ := F.thr b o e hb
    exact ⟨o', fl.1 b o' e'⟩
theorem Fly.free {P : Program} {w : World} {st : List Env} {H H' : Hp} {B : Heap} {a C t : Addr} {h h1 : Heap} (F : Fly P w st H H' B a C t h h1) : H' a = none := by
  cases q : H' a with
  | none => rfl
  | some u =>
    have x := F.hok a u q
    have n : B.get? a = none := F.fl.2.1
    exfalso
    have some_of : ∃ o, B.get? a = some o := by
      clear q
      induction u with
      | lst xs => obtain ⟨_, _, _, _, e⟩ := x; exact ⟨_, e⟩
      | tup xs => obtain ⟨_, _, _, o, e, _⟩ := x; exact ⟨_, e⟩
      | dK kvs => obtain ⟨_, _, _, _, o, _, _, e, _⟩ := x; exact ⟨_, e⟩
      | dT kvs => obtain ⟨_, _, _, _, o, _, _, e, _⟩ := x; exact ⟨_, e⟩
      | set S n => obtain ⟨o, _, _, _, e, _⟩ := x; exact ⟨_, e⟩
      | ins C dx fs => obtain ⟨_, _, _, e, _⟩ := x; exact ⟨_, e⟩
      | own y => exact x
      | xd fs => obtain ⟨_, ⟨_, _, _, e, _⟩, _⟩ := x; exact ⟨_, e⟩
      | rng lo hi => obtain ⟨_, _, _, e⟩ := x; exact ⟨_, e⟩
      | frz ob u ih => obtain ⟨e, _⟩ := x; exact ⟨_, e⟩
      | tbl ps => exact ⟨_, (show B.get? a = some _ from x)⟩
      | met f y => exact ⟨_, (show B.get? a = some _ from x)⟩
      | ext φ => obtain ⟨_, ⟨_, e⟩, _⟩ := x; exact ⟨_, e⟩
    obtain ⟨o, e⟩ := some_of
    rw [n] at e
    cases e
abbrev Xh (X : Cx) (a : Addr) (oe : Obj) : Cx := { X with A := X.A.mark (some (.ref a)), calm := false, pn := X.pn ++ [(a, oe)], xe := fun _ _ => False }
section
variable {X : Cx} {pins : List (Addr × Obj)} {σ : St} {H : Hp} {s : Shared} {a : Addr} {oe : Obj}
theorem Cx.Ok.hand (ok : X.Ok) : (Xh X a oe).Ok :=
  ⟨ok.mod, ok.kind, ok.glob, ok.blt, ok.above, ok.inj, ok.has, ok.cab, (fun z => nomatch z), ok.frames, ok.stk, ok.exf, ok.bs, ok.bsz, ok.noex, ok.exfs, ok.funs, ok.frf⟩
theorem Inv.hand (I : Inv X pins σ H s) (e : s.heap.get? a = some oe) (n : H a = none) (ne : a ≠ X.env.locals) (nf : a ∉ X.fs) (d : ∀ v, oe.data ≠ .cell v) : Inv (Xh X a oe) pins σ H s :=
  ⟨I.ok.hand, I.os, I.bare, I.base, I.loc, I.cell, I.free, I.freeC, fun p hp => by
    rcases List.mem_append.mp hp with hp | hp
    . rcases List.mem_append.mp hp with hp | hp
      . exact I.pin p (List.mem_append_left _ hp)
      . rw [List.mem_singleton.mp hp]
        exact ⟨e, n, ne, nf, d⟩
    . exact I.pin p (List.mem_append_right _ hp), I.hok, I.len⟩
theorem Inv.unhand (ok : X.Ok) (I : Inv (Xh X a oe) pins σ H s) : Inv X pins σ H s :=
  ⟨ok, I.os, I.bare, I.base, I.loc, I.cell, I.free, I.freeC, fun p hp => by
    rcases List.mem_append.mp hp with hp | hp
    . exact I.pin p (List.mem_append_left _ (List.mem_append_left _ hp))
    . exact I.pin p (List.mem_append_right _ hp), I.hok, I.len⟩
def zBu : V -> Option Value
  | .ref a => some (.ref a)
  | .ty n => some (.type n)
  | _ => none
theorem z9V {y : V} {u v : Value} (h : zBu y = some u) (r : RelV y v) : v = u := by
  cases y with
  | ref a => cases h; exact r
  | ty n => cases h; exact r
  | _ => cases h
end
def zES (K : PySem.W.Frag) (G : Addr) (sp : Sp) (dvs : List V) (t : TA) (i : Nat) (th : Addr -> Addr -> TS) : TS := fun D σ H => t σ H fun vs H1 => ∃ E : XK, sp (vs ++ dvs) H1 (fun _ H2 => D.nx σ H2) E /\
  ∀ Cv d H2, E Cv d H2 -> ∃ c, Cv = .ref c /\ XC K c /\ PySem.W.mroIn K c (.ref G) = some true /\ ∀ a, th a c { nx := fun σ' H' => D.nx (σ'.set i none) H', rt := D.rt, bk := fun σ' H' => D.bk (σ'.set i none) H', ct := fun σ' H' => D.ct (σ'.set i none) H' } (σ.set i (some (.ref a))) H2
section
variable {X : Cx} {k : Nat} {fa G : Addr} {fd : FuncData} {ps : List Str} {sp : Sp} {dvs : List V} {ds : List Value} {x gn n : Str} {p cp ep gp hp tp : Pos} {e : Expr} {es : List Expr} {t : TA} {b₀ : Stmt} {suite : List Stmt} {i : Nat} {th : Addr -> Addr -> TS}
theorem z6w {pins : List (Addr × Obj)} {D : Ends} {a : Addr} {oe : Obj} {f : Flow} {s : Shared} {E : Value -> Shared -> Prop} (ok : X.Ok) (hN : X.N.Nodup) (hi : X.N[i]? = some n) (hloc : X.env.scope.names.lookup n = some .local)
    (h : SP (Xh X a oe) pins { nx := fun σ' H' => D.nx (σ'.set i none) H', rt := D.rt, bk := fun σ' H' => D.bk (σ'.set i none) H', ct := fun σ' H' => D.ct (σ'.set i none) H' } f s) :
    wpAny (model X.prog X.w) X.A (do bindName X.env n .none; unbindBehindTheSuite X.env n hp) (fun _ s' => SP X pins D f s') E s := by
  cases f with
  | next => obtain ⟨σ', H', I, q⟩ := h; exact z0y (I.unhand ok) hN hi hloc fun s' I' => ⟨_, H', I', q⟩
  | brk => obtain ⟨σ', H', I, q⟩ := h; exact z0y (I.unhand ok) hN hi hloc fun s' I' => ⟨_, H', I', q⟩
  | cont => obtain ⟨σ', H', I, q⟩ := h; exact z0y (I.unhand ok) hN hi hloc fun s' I' => ⟨_, H', I', q⟩
  | ret u => obtain ⟨v, σ', H', I, r, q⟩ := h; exact z0y (I.unhand ok) hN hi hloc fun s' I' => ⟨v, _, H', I', r, q⟩
theorem zCw {pins : List (Addr × Obj)} {σ : St} {H1 H' : Hp} {s1 s' : Shared} {B : Heap} {a c t' : Addr} {D : Ends} {E : Value -> Shared -> Prop} (I : Inv X pins σ H1 s1) (hst : X.stack = X.env :: X.outer) (hf : X.env.frame = some X.env.locals)
    (hgG : Gl X gn) (hmG : X.mg gn = some (.ref G)) (hG : XC X.K G) (hN : X.N.Nodup) (hi : X.N[i]? = some n) (hloc : X.env.scope.names.lookup n = some .local)
    (hs : ∀ a oe c, oe.cls = .ref c -> XC X.K c -> PSs (Xh X a oe) (b₀ :: suite) (th a c)) (os : s'.os = s1.os) (bare : AllBare s'.gens) (F : Fly X.prog X.w X.stack H1 H' B a c t' s1.heap s'.heap) (Zc : XC X.K c) (ab : PySem.W.mroIn X.K c (.ref G) = some true)
    (q : th a c { nx := fun σ' H' => D.nx (σ'.set i none) H', rt := D.rt, bk := fun σ' H' => D.bk (σ'.set i none) H', ct := fun σ' H' => D.ct (σ'.set i none) H' } (σ.set i (some (.ref a))) H') (hdG : (gn == ("__debug__" : Str)) = false) :
    wpAny (model X.prog X.w) X.A (noteFrame (.ref a) X.env) (fun _ s₂ => wpAny (model X.prog X.w) X.A (setFlight (.ref a) none) (fun _ s₃ =>
      wpAny (model X.prog X.w) X.A (handleBy (.ref a) X.env [.ExceptHandler (some (.Name gn gp)) (some n) (b₀ :: suite) hp]) (SP X pins D) E s₃) E s₂) E s' := by
  have hfr : X.A.frames = some (X.env :: X.outer) := by rw [<- hst]; exact I.ok.frames
  have hfl : Heap.FlyingW B (X.env :: X.outer) a (.ref c) (.ref t') s'.heap := by rw [<- hst]; exact F.fl
  refine wpAny_looks_onW hfr hf hfl fun h₄ held₄ sm₄ => ?_
  refine wpAny_landsW held₄ fun h₅ fl₅ sm₅ => ?_
  have F₅ := F.on (by rw [hst]; exact fl₅) (sm₄.trans sm₅)
  have at5 : ∀ {h : Heap}, Fly X.prog X.w X.stack H1 H' B a c t' s1.heap h -> Inv X pins σ H' { s' with heap := h } := fun {h} Fh => I.call' (s' := { s' with heap := h }) os Fh.un (Fh.hok.kept Fh.fl.1) bare (fun b z => absurd z nin)
  have pinok : ∀ {h : Heap}, Fly X.prog X.w X.stack H1 H' B a c t' s1.heap h -> ∃ oe, h.get? a = some oe /\ oe.cls = .ref c /\ (∀ v, oe.data ≠ .cell v) /\ a ≠ X.env.locals /\ a ∉ X.fs := fun {h} Fh => by
    obtain ⟨_, _, ff, oe, vs, T, oT, ts, he, hcl, hdat, _⟩ := Fh.fl
    have nofr : ∀ b ∈ frs X.stack, b ≠ a := fun b hb z => by
      obtain ⟨_, o, ho, hd⟩ := ff.mem hb
      rw [z, he] at ho
      cases ho
      exact hd vs hdat
    refine ⟨oe, he, hcl.1, (fun v z => by rw [hdat] at z; cases z), fun z => nofr X.env.locals (by rw [hst, z1y hf]; exact List.mem_cons_self) z.symm, fun z => nofr a (by rw [hst, z1y hf]; exact List.mem_cons_of_mem _ z) rfl⟩
  have I₅ := at5 F₅
  obtain ⟨oe₅, e₅, c₅, d₅, l₅, f₅⟩ := pinok F₅
  have J₅ : Inv (Xh X a oe₅) pins σ H' { s' with heap := h₅ } := I₅.hand e₅ F₅.free l₅ f₅ d₅
  refine wpAny_handleBy_cons (codeAny_handlers_test (z1P (X := Xh X a oe₅) J₅ hgG hmG ?_ hdG)) (by intro z; cases z)
  obtain ⟨bm, N, nm, qn, bs, hdct, sn, sub, ab', col, dd, k0, k1, k2, k3, k5, mN, hC, hN', hni, T, c0, d0, cd0, sl0, ho, hmro⟩ := XCls.obj I₅.kIn Zc.cls
  obtain ⟨bm2, N2, nm2, qn2, bs2, hdct2, sn2, sub2, ab2, col2, dd2, j0, j1, j2, j3, j5, mN2, hC2, hN2, hni2, T2, _⟩ := XCls.obj I₅.kIn hG.cls
  have hsub : (Value.ref c :: bm).contains (.ref G) = true := by
    unfold PySem.W.mroIn PySem.W.clsIn at ab
    rw [ho] at ab
    dsimp only [Option.bind] at ab
    rw [hmro, if_neg (by simp)] at ab
    exact Option.some.inj ab
  obtain ⟨sh, sg, sd, stk, sos⟩ := s'
  refine z1n hC hC2 e₅ c₅ (T2.hasType (X := "BaseException") (b := true) (by decide +kernel)) hsub (codeAny_handlers_suite_as ?_)
  refine lands_againW (by rw [hst] at F₅; exact F₅.fl) fun h₆ fl₆ sm₆ => ?_
  have F₆ := F₅.on (by rw [hst]; exact fl₆) sm₆
  have I₆ := at5 F₆
  obtain ⟨oe, e₆, c₆, d₆, l₆, f₆⟩ := pinok F₆
  have J₆ : Inv (Xh X a oe) pins σ H' _ := I₆.hand e₆ F₆.free l₆ f₆ d₆
  refine z2I (X := Xh X a oe) (v := .ref a) J₆ hN hi (.inl hloc) rfl (fun s₇ J₇ => ?_) (.inr hloc)
  refine wpAny_mono (hs a oe c c₆ Zc pins s₇ _ H' _ J₇ q) (fun f s₈ h₈ => ?_) fun _ _ z => z.elim
  exact z6w I.ok hN hi hloc h₈
end
structure Owx (P : Program) (w : World) (K : PySem.W.Frag) (mg : Str -> Option Value) (base : Heap) (x : Str) (ps : List Str) (k : Nat) (sp : Sp) : Prop where
  ex : ∃ (f : Addr) (fd : FuncData), mg x = some (.ref f) /\ PySem.W.keepIn K (.ref f) = true /\ Binds K fd ps [] /\ FnOk P w K mg base (CX1 P w) k f fd ps sp
structure Ec (K : PySem.W.Frag) (mg : Str -> Option Value) (x : Str) (C : Addr) : Prop where
  m : mg x = some (.ref C)
  c : XC K C
section
variable {X : Cx} {k j : Nat} {ps : List Str} {sp : Sp} {x gn n : Str} {G : Addr} {p pos cp ep gp hp tp : Pos} {e : Expr} {es : List Expr} {t : TA} {E : XK} {b₀ : Stmt} {suite : List Stmt} {i : Nat} {th : Addr -> Addr -> TS}
end
section
variable {prog : Program} {w : World} {A : Around} {E : Value -> Shared -> Prop} {h : Heap} {g : Array GenState} {d : Drawn} {t : Nat} {os : OsState}
variable {nm q : Str} {C N : Addr} {bs bm bmB : List Value} {hdct : Bool} {sn : List Str} {sub : List Value} {ab : Bool} {col : Option Bool} {dd : Option Addr} {k0 k1 k2 k3 k5 : Option Value} {B newId initId : String}
abbrev z6x (C t : Addr) : Obj := { cls := .ref C, data := .fields #[.ref t, .none, .none, .none, .bool false, .none] }
end
inductive VeTail : List Value -> Prop
  | base : VeTail z5Z
  | step {c : Addr} {r : List Value} : VeTail r -> VeTail (.ref c :: r)
theorem VeTail.passes (self : Value) {l : List Value} (t : VeTail l) : refuseLoop self "__setattr__" l = pure () := by
  induction t with
  | base => exact PySem.F.store_ValueError.passes self
  | step _ ih => rw [refuseLoop_ref]; exact ih
structure XE (K : PySem.W.Frag) (C : Addr) : Prop where
  ex : ∃ (dd : Option Addr) (cd : ClassData) (k0 k1 k2 k3 k5 : Option Value) (bm : List Value), K.lookup C = some ⟨.type "type", dd, .cls cd, #[k0, k1, k2, k3, some (.builtin "ValueError.__new__"), k5]⟩ /\ cd.mro = .ref C :: bm /\ cd.hasDel = false /\ cd.hasDict = true /\
    VeTail bm /\ PySem.W.tailIn K z5Z bm = true /\ PySem.W.nsOkIn K cd.ns = true
  ga : PySem.W.findIn K (.ref C) "__getattribute__" = some (some (.builtin "BaseException.__getattribute__"))
  gn : PySem.W.findIn K (.ref C) "__getattr__" = some none
  sa : PySem.W.findIn K (.ref C) "__setattr__" = some (some (.builtin "object.__setattr__"))
  kc : PySem.W.findIn K (.ref C) "__class__" = some (some (.builtin "object.__class__"))
  kg : PySem.W.specialIn K (.builtin "object.__class__") "__get__" = some (some (.builtin "getset_descriptor.__get__"))
  kt : PySem.W.takesIn K (.builtin "object.__class__") = some true
  km : PySem.W.mroIn K C (.type "object") = some true
section
variable {K : PySem.W.Frag} {C : Addr}
theorem XE.obj {h : Heap} (X : K.In h) (Z : XE K C) : ∃ bm N nm qn bs sn sub ab col dd k0 k1 k2 k3 k5 mN, h.get? C = some (excClassObj nm qn C N bs bm true sn sub ab col dd k0 k1 k2 k3 k5 "ValueError.__new__") /\ h.Ns N mN /\ OwnTail h z5Z bm /\ VeTail bm /\
    ∃ cd, PySem.W.clsIn K C = some cd /\ cd.mro = .ref C :: bm /\ cd.hasDict = true /\ cd.ns = N /\ ∃ d0 sl0, K.lookup C = some ⟨.type "type", d0, .cls cd, sl0⟩ := by
  obtain ⟨dd, cd, k0, k1, k2, k3, k5, bm, lk, hm, hdel, hdct, vt, ht, hok⟩ := Z.ex
  have hcls : PySem.W.clsIn K C = some cd := by unfold PySem.W.clsIn; rw [lk]
  have lk' := lk
  obtain ⟨nm, bs, mro, ns, qn, hd, sn, sub, ab, col, del⟩ := cd
  dsimp only at hm hdel hok hdct
  subst hm hdel hdct
  exact ⟨bm, ns, nm, qn, bs, sn, sub, ab, col, dd, k0, k1, k2, k3, k5, _, X _ _ lk, (.of_isNs (PySem.W.isNs_of_in X hok)), PySem.W.tail_of_in X ht, vt, _, hcls, rfl, rfl, rfl, _, _, lk'⟩
end
section
variable {prog : Program} {w : World} {A : Around} {E : Value -> Shared -> Prop} {s : Shared} {K : PySem.W.Frag} {x C : Addr}
theorem z5a {R : Result -> Shared -> Prop} (X : K.In s.heap) (Z : XE K C) (I : ExcAt x C s.heap) (h : R (.ok (.ret (.ref C))) s) :
    codeAny (model prog w) A (.call (.builtin "getset_descriptor.__get__") ⟨[.builtin "object.__class__", .ref x, .ref C], []⟩) R s := by
  obtain ⟨hh, g, d, t, os⟩ := s
  obtain ⟨bm, N, nm, qn, bs, sn, sub, ab, col, dd, k0, k1, k2, k3, k5, mN, hC, hN, T, _⟩ := XE.obj X Z
  obtain ⟨ox, hx, hc⟩ := I
  have ow : ".".intercalate ("object.__class__".cutAt '.').dropLast = "object" := by decide +kernel
  have hcO : (Value.ref C :: bm).contains (.type (".".intercalate ("object.__class__".cutAt '.').dropLast)) = true := by
    rw [ow, List.contains_cons, T.hasType (X := "object") (b := true) (by decide +kernel)]
    rfl
  have hT5 : (⟨hh, g, d, t, os⟩ : Shared).TypeIs (.builtin "object.__class__") "getset_descriptor" := F.typeOf_object_class
  refine codeAny_call_builtin F.slot_gs_get.plain F.entry_gs_get
    (F.slot_gs_get.check _ _ _ _ _ _ _ _ hT5 (F.args_gs_get _ _ _) ?_)
  repeat (any_goals (first
    | assumption
    | (with_reducible refine wpAny_loadPart_at hx ?_; rw [hc])
    | (with_reducible refine wpAny_isSubtype_exc hC ?_; rw [hcO])
    | wp_step))
  refine ⟨Code.quiet_builtin _ (by decide +kernel), codeAny_builtin F.entry_object_class ?_⟩
  repeat (any_goals (first
    | assumption
    | (with_reducible refine wpAny_loadPart_at hx ?_; rw [hc])
    | wp_step))
theorem z5b {Q : Option Value -> Shared -> Prop} (X : K.In s.heap) (Z : XE K C) (I : ExcAt x C s.heap) (h : Q (some (.ref C)) { s with toks := s.toks + 1 }) : wpAny (model prog w) A (getAttr? (.ref x) "__class__") Q E s := by
  obtain ⟨hh, g, d, t, os⟩ := s
  obtain ⟨bm, N, nm, qn, bs, sn, sub, ab, col, dd, k0, k1, k2, k3, k5, mN, hC, hN, T, _⟩ := XE.obj X Z
  have L0 := I.ty (M := model prog w)
  have L1 := PySem.W.looks_findIn (M := model prog w) X Z.ga
  have L2' := PySem.W.looks_findIn (M := model prog w) X Z.gn
  have L4 := PySem.W.looks_findIn (M := model prog w) X Z.kc
  have hk : builtinKind "BaseException.__getattribute__" = some .slot := by decide +kernel
  have hsplit : splitId "BaseException.__getattribute__" = some ("BaseException", "__getattribute__") := by decide +kernel
  have hcB : (Value.ref C :: bm).contains (.type "BaseException") = true := by
    rw [List.contains_cons, T.hasType (X := "BaseException") (b := true) (by decide +kernel)]
    rfl
  obtain ⟨ox, hx, hc⟩ := id I
  have ha := F.args_bexc_ga (.ref x) (.str "__class__" t)
  have hT5 : (⟨hh, g, d, t + 1, os⟩ : Shared).TypeIs (.builtin "object.__class__") "getset_descriptor" := F.typeOf_object_class
  have f5 := F.typeOf_object_class
  have f6 := F.slot_gs_get.lookup
  have f7 := F.slot_gs_set.lookup
  unfold getAttr? getAttrBy? getAttrBy
  refine wpAny_bind (wpAny_mkText (wpAny_bind ?_))
  refine wpAny_attempt (wpAny_holding (wpAny_bind ?_))
  refine L0.at (wpAny_bind (L1.at ?_))
  show wpAny _ _ (getAttrByItsOwn _ _ _ _ _ _) _ _ _
  unfold getAttrByItsOwn
  show wpAny _ _ (typeLookup (.ref C) "__getattr__" >>= _) _ _ _
  refine wpAny_bind (L2'.at ?_)
  refine wpAny_bind (wpAny_attempt (wpAny_holding ?_))
  show wpAny _ _ (boundAndCalled (.builtin "BaseException.__getattribute__") (.ref x) _) _ _ _
  unfold boundAndCalled
  refine wpAny_bind (wpAny_of_eq (gaSlot.bind _) ?_)
  refine wpAny_call (codeAny_call_builtin gaSlot.plain F.entry_bexc_ga ?_)
  simp only [checkBuiltinCall, hk, hsplit]
  refine wpAny_bind ?_
  unfold isInstance
  repeat (first
    | (with_reducible refine wpAny_loadPart_at hx ?_; rw [hc])
    | (with_reducible refine wpAny_isSubtype_exc hC ?_; rw [hcB])
    | wp_step)
  refine L4.at ?_
  repeat (any_goals (first | assumption | wp_step))
  refine z5a (s := ⟨hh, g, d, t + 1, os⟩) X Z I ?_
  repeat (any_goals (first | assumption | wp_step))
theorem z89 (Z : XE K C) : PySem.W.KitX K (.ref x) (.ref C) (ExcAt x C) where
  ty := fun _ _ _ I => I.ty
  it := fun M h X _ => by
    obtain ⟨_, _, _, _, _, _, _, _, _, _, _, _, _, _, _, _, _, _, _, _, cd0, _, _, _, _, d0, sl0, ho⟩ := XE.obj X Z
    intro A' Q' E' s' k q
    unfold isType loadHead
    exact wpAny_bind (wpAny_loadPart (k _ _ (X _ _ ho)) (wpAny_pure q))
  ne := fun h tp dd its n sl X htp => by
    obtain ⟨_, _, _, _, _, _, _, _, _, _, _, _, _, _, _, _, _, _, _, _, cd0, _, _, _, _, d0, sl0, ho⟩ := XE.obj X Z
    refine Bool.eq_false_iff.mpr fun q => ?_
    have e : C = tp := Value.ref.inj (beq_iff_eq.mp q)
    subst e
    have z := (X _ _ ho).symm.trans htp
    simp at z
  ca := fun X I k => z5b X Z I k
theorem z8A {name : Str} {v : Value} {expr : Bool} {Q : Value -> Shared -> Prop} {mA : Str -> Option Value} (X : K.In s.heap) (Z : XE K C) (hn : PySem.W.findIn K (.ref C) name = some none) (I : s.heap.Inst x C mA) (hv : mA name = some v) (hh : handedOut v = pure v)
    (h : Q v { s with toks := s.toks + 1 }) : wpAny (model prog w) A (getAttr (.ref x) name expr) Q E s := by
  obtain ⟨hh', g, d, t, os⟩ := s
  obtain ⟨bm, N, nm, qn, bs, sn, sub, ab, col, dd, k0, k1, k2, k3, k5, mN, hC, hN, T, _⟩ := XE.obj X Z
  obtain ⟨ox, hx, hc, hnc, hd⟩ := id I
  have L0 := ExcAt.ty (M := model prog w) ⟨ox, hx, hc⟩
  have L1 := PySem.W.looks_findIn (M := model prog w) X Z.ga
  have L2' := PySem.W.looks_findIn (M := model prog w) X Z.gn
  have L4 := PySem.W.looks_findIn (M := model prog w) X hn
  have hk : builtinKind "BaseException.__getattribute__" = some .slot := by decide +kernel
  have hsplit : splitId "BaseException.__getattribute__" = some ("BaseException", "__getattribute__") := by decide +kernel
  have hcB : (Value.ref C :: bm).contains (.type "BaseException") = true := by
    rw [List.contains_cons, T.hasType (X := "BaseException") (b := true) (by decide +kernel)]
    rfl
  have ha := F.args_bexc_ga (.ref x) (.str name t)
  rcases hd with ⟨_, hmA⟩ | ⟨dx, hdx, hne, hns⟩
  . rw [hmA name] at hv; cases hv
  unfold getAttr getAttrBy
  refine wpAny_bind (wpAny_mkText ?_)
  refine wpAny_holding (wpAny_bind ?_)
  refine L0.at (wpAny_bind (L1.at ?_))
  show wpAny _ _ (getAttrByItsOwn _ _ _ _ _ _) _ _ _
  unfold getAttrByItsOwn
  show wpAny _ _ (typeLookup (.ref C) "__getattr__" >>= _) _ _ _
  refine wpAny_bind (L2'.at ?_)
  refine wpAny_bind (wpAny_attempt (wpAny_holding ?_))
  have e0 : callGetattribute (.ref x) (.str name t) (.builtin "BaseException.__getattribute__") expr = boundAndCalled (.builtin "BaseException.__getattribute__") (.ref x) (.str name t) := by
    unfold callGetattribute
    rw [if_neg (by cases expr <;> simp [onTheHeap])]
  rw [e0]
  unfold boundAndCalled
  refine wpAny_bind (wpAny_of_eq (gaSlot.bind _) ?_)
  refine wpAny_call (codeAny_call_builtin gaSlot.plain F.entry_bexc_ga ?_)
  simp only [checkBuiltinCall, hk, hsplit]
  refine wpAny_bind ?_
  unfold isInstance
  repeat (first
    | (with_reducible refine wpAny_loadPart_at hx ?_; rw [hc])
    | (with_reducible refine wpAny_isSubtype_exc hC ?_; rw [hcB])
    | wp_step)
  refine L4.at ?_
  refine wpAny_bind (wpAny_pure (wpAny_bind (wpAny_pure ?_)))
  show wpAny _ _ (Builtin.ObjectAttr.ownThenClass (Value.ref x) name none none) _ _ _
  unfold Builtin.ObjectAttr.ownThenClass
  refine wpAny_bind ?_
  show wpAny _ _ (Builtin.ObjectAttr.ownDict x >>= Builtin.ObjectAttr.inDict name) _ _ _
  unfold Builtin.ObjectAttr.ownDict loadHead
  refine wpAny_bind (wpAny_bind (wpAny_loadPart hx ?_))
  have key : ∀ {Q' : Option Addr -> Shared -> Prop} {E' : Value -> Shared -> Prop}, Q' (some dx) ⟨hh', g, d, t + 1, os⟩ -> wpAny (model prog w) A.in1 (match ox.data with
      | .cls c => pure (some c.ns)
      | _ => instanceDict x false) Q' E' ⟨hh', g, d, t + 1, os⟩ := fun {Q' E'} q => by
    split
    . rename_i c hcd
      exact absurd hcd (hnc c)
    . unfold instanceDict
      repeat (first | (with_reducible refine wpAny_loadPart_at hx ?_; rw [hc]) | with_reducible refine wpAny_loadPart_at hC ?_ | wp_step)
      rw [hdx]
      exact wpAny_pure q
  refine key ?_
  show wpAny _ _ (nsGet dx name) _ _ _
  refine wpAny_nsGet hns.ns ?_
  rw [hv]
  refine wpAny_bind (wpAny_rule (wpAny_pure ?_))
  refine wpAny_pure ?_
  show wpAny _ _ (handedOut v) _ _ _
  rw [hh]
  exact wpAny_pure h
end
section
variable {prog : Program} {w : World} {A : Around} {E : Value -> Shared -> Prop} {s : Shared} {K : PySem.W.Frag} {x C : Addr}
theorem z3r {name : Str} {v : Value} {Q : Unit -> Shared -> Prop} {mA : Str -> Option Value} {ns : List Str} (X : K.In s.heap) (Z : XE K C) (hn : PySem.W.findIn K (.ref C) name = some none) (I : s.heap.Inst x C mA)
    (hq : ∀ h' tk', h'.Inst x C (fun y => if y = name then some v else mA y) ->
      (∀ b o, b ≠ x -> (∀ o₀ dx, s.heap.get? x = some o₀ -> o₀.dict = some dx -> b ≠ dx) -> s.heap.get? b = some o -> h'.get? b = some o) ->
      (∀ o₀, s.heap.get? x = some o₀ -> ∃ o₁, h'.get? x = some o₁ /\ o₁.cls = o₀.cls /\ o₁.data = o₀.data /\ o₁.slots = o₀.slots /\ (∀ dx, o₀.dict = some dx -> o₁.dict = some dx) /\ (o₀.dict = none -> o₁.dict = some s.heap.objs.size)) -> Q () { s with heap := h', toks := tk' }) (hw : Within mA ns) (hsz : ns.length <= 1000) :
    wpAny (model prog w) A (setAttr (.ref x) name v) Q E s := by
  obtain ⟨h, g, d, t, os⟩ := s
  obtain ⟨bm, N, nm, qn, bs, sn, sub, ab, col, dd, k0, k1, k2, k3, k5, mN, hC, hN, T, vt, cd, hcd, hmro, hdct, _⟩ := XE.obj X Z
  obtain ⟨o, hx, hc, hnc, hd⟩ := I
  have SF := PySem.F.store_ValueError
  have L0 := ExcAt.ty (M := model prog w) (x := x) (C := C) (h := h) ⟨o, hx, hc⟩
  have Ls := PySem.W.looks_findIn (M := model prog w) X Z.sa
  have Ln := PySem.W.looks_findIn (M := model prog w) X hn
  have f3 := SF.slot.bind (.ref x)
  unfold setAttr
  refine wpAny_bind (wpAny_mkText (wpAny_bind ?_))
  unfold callSpecial? specialOf
  refine wpAny_bind (wpAny_bind (L0.at (Ls.at ?_)))
  refine wpAny_holding ?_
  rw [f3]
  refine wpAny_bind (wpAny_pure ?_)
  refine wpAny_bind (wpAny_call ?_)
  have sub : PySem.W.Looks (model prog w) h (isInstance (.ref x) (.type "object")) true := L0.andThen (PySem.W.looks_mroIn X Z.km)
  refine codeAny_call_builtin SF.slot.plain SF.entry (@PySem.W.check_slot (model prog w) _ _ ⟨h, g, d, t + 1, os⟩ "object.__setattr__" "object" "__setattr__" (.ref x) [.str name t, v] [] _ SF.kind SF.split sub (SF.args (.ref x) (.str name t) v) ?_)
  show wpAny _ _ (Builtin.«object.__setattr__» ⟨[.ref x, .str name t, v], []⟩) _ _ _
  rw [PySem.W.osa_eq, refuse_eq]
  have hm : PySem.W.Looks (model prog w) h (mroOf (.ref C)) cd.mro := (PySem.W.looks_clsIn X hcd).andThen .now
  refine wpAny_bind (wpAny_bind (L0.at (wpAny_bind (hm.at ?_))))
  rw [hmro, (VeTail.step vt).passes]
  refine wpAny_pure (wpAny_bind (L0.at (wpAny_bind (Ln.at (wpAny_bind (wpAny_pure ?_))))))
  show wpAny _ _ (Builtin.ObjectAttr.storeInOwnDict (.ref x) (.ref C) (.str name t) name v _) _ _ _
  unfold Builtin.ObjectAttr.storeInOwnDict
  refine wpAny_bind (wpAny_pure ?_)
  show wpAny _ _ (instanceDict x true >>= _) _ _ _
  unfold instanceDict
  rcases hd with ⟨hdn, hmA⟩ | ⟨dx, hdx, hne, hns⟩
  . repeat (first | (with_reducible refine wpAny_loadPart_at hx ?_; rw [hc]) | with_reducible refine wpAny_loadPart_at hC ?_ | wp_step)
    rw [hdn, if_neg (by simp [typeHasDict])]
    have mk : ∀ {Q' : Option Addr -> Shared -> Prop} {E' : Value -> Shared -> Prop}, wpAny (model prog w) A.in1 (do
        let d <- alloc { cls := Value.type "dict", data := Data.dict #[] }
        update x fun o => { cls := o.cls, dict := some d, data := o.data, slots := o.slots }
        dictMade (Value.ref C) x d) Q' E' ⟨h, g, d, t + 1, os⟩ -> wpAny (model prog w) A.in1 (match o.data with
      | .cls c => pure none
      | _ => do
        let d <- alloc { cls := Value.type "dict", data := Data.dict #[] }
        update x fun o => { cls := o.cls, dict := some d, data := o.data, slots := o.slots }
        dictMade (Value.ref C) x d) Q' E' ⟨h, g, d, t + 1, os⟩ := fun {Q' E'} q => by
      split
      . rename_i c hcd'
        exact absurd hcd' (hnc c)
      . exact q
    refine mk ?_
    have hx₁ : (h.push { cls := .type "dict", data := .dict #[] }).get? x = some o := Heap.get?_push_of_some _ hx
    have hxs : x ≠ h.objs.size := Nat.ne_of_lt (Heap.lt_size hx)
    refine wpAny_bind (wpAny_alloc' ?_)
    refine wpAny_bind (wpAny_update' hx₁ ?_)
    refine wpAny_pure ?_
    have gd : ((h.push { cls := .type "dict", data := .dict #[] }).update x fun o => { cls := o.cls, dict := some h.objs.size, data := o.data, slots := o.slots }).get? h.objs.size = some { cls := .type "dict", data := .dict #[] } :=
      (Heap.get?_update_ne _ _ _ _ hxs.symm).trans (Heap.get?_push_at rfl rfl)
    have nd : ((h.push { cls := .type "dict", data := .dict #[] }).update x fun o => { cls := o.cls, dict := some h.objs.size, data := o.data, slots := o.slots }).Ns h.objs.size (fun _ => none) := ⟨_, #[], _, gd, rfl, fun e he => absurd he (by simp), fun _ => rfl⟩
    show wpAny _ _ (Builtin.ObjectAttr.storeInDict h.objs.size (.str name t) name v) _ _ _
    unfold Builtin.ObjectAttr.storeInDict Builtin.ObjectAttr.newKeyGuard
    refine wpAny_bind (wpAny_pure (wpAny_bind (wpAny_nsSet1 (Heap.Ns1.of_empty nd) fun h' hn' hs => ?_)))
    obtain ⟨oD, esD, epD, hoD, hdD, hcD⟩ := hn'.count (Within.cons name v Within.nil)
    refine wpAny_bind (wpAny_lookBehind hoD (by rw [hdD]; exact pastItsLine_dict (Nat.le_trans hcD (by rw [List.length_cons, List.length_nil, sizeLine_eq]; omega))) ?_)
    refine wpAny_pure (wpAny_pure (wpAny_pure ?_))
    have hx' : h'.get? x = some { cls := o.cls, dict := some h.objs.size, data := o.data, slots := o.slots } := by
      refine (hs.2 x hxs).trans (Heap.get?_update_self _ hx₁ ?_)
      have hfr := (Heap.get?_some_iff.mp hx).2
      obtain ⟨oc, od, odt, osl⟩ := o
      cases odt <;> first | rfl | exact hfr
    refine hq h' _ ⟨_, hx', hc, hnc, .inr ⟨h.objs.size, rfl, hxs.symm, ?_⟩⟩ (fun b ob hbx _ hb => (hs.2 b (Nat.ne_of_lt (Heap.lt_size hb))).trans ((Heap.get?_update_ne _ _ _ _ hbx).trans (Heap.get?_push_of_some _ hb))) fun o₀ h₀ => ?_
    . obtain ⟨o', es, ep, e1, e2, e3, eu, e4⟩ := hn'
      exact ⟨o', es, ep, e1, e2, e3, eu, fun y => by rw [e4 y]; by_cases hy : y = name <;> simp [hy, hmA]⟩
    . obtain rfl : o = o₀ := Option.some.inj (hx.symm.trans h₀)
      exact ⟨_, hx', rfl, rfl, rfl, (fun dx e => by rw [hdn] at e; cases e), fun _ => rfl⟩
  . repeat (first | (with_reducible refine wpAny_loadPart_at hx ?_; rw [hc]) | with_reducible refine wpAny_loadPart_at hC ?_ | wp_step)
    rw [hdx]
    refine wpAny_pure ?_
    show wpAny _ _ (Builtin.ObjectAttr.storeInDict dx (.str name t) name v) _ _ _
    unfold Builtin.ObjectAttr.storeInDict Builtin.ObjectAttr.newKeyGuard
    refine wpAny_bind (wpAny_pure (wpAny_bind (wpAny_nsSet1 hns fun h' hn' hs => ?_)))
    obtain ⟨oD, esD, epD, hoD, hdD, hcD⟩ := hn'.count (Within.cons name v hw)
    refine wpAny_bind (wpAny_lookBehind hoD (by rw [hdD]; exact pastItsLine_dict (Nat.le_trans hcD (by rw [List.length_cons, sizeLine_eq]; omega))) ?_)
    refine wpAny_pure (wpAny_pure (wpAny_pure ?_))
    refine hq h' _ ⟨o, (hs.2 x hne.symm).trans hx, hc, hnc, .inr ⟨dx, hdx, hne, hn'⟩⟩ (fun b ob _ hbd hb => (hs.2 b (hbd o dx hx hdx)).trans hb) fun o₀ h₀ => ?_
    obtain rfl : o = o₀ := Option.some.inj (hx.symm.trans h₀)
    exact ⟨o, (hs.2 x hne.symm).trans h₀, rfl, rfl, rfl, fun _ e => e, fun e => by rw [hdx] at e; cases e⟩
end
def Vs0 (vs : Array Value) : Prop := (∃ t, vs[0]? = some (.ref t)) /\ vs[1]? = some .none
def ErrO (x C : Addr) (d : Option Addr) (h : Heap) : Prop := ∃ o vs, h.get? x = some o /\ o.cls = .ref C /\ o.data = .fields vs /\ Vs0 vs /\ o.dict = d
def z4v (x C : Addr) (d : Option Addr) (h : Heap) : Prop := ∃ o vs, h.get? x = some o /\ o.cls = .ref C /\ o.data = .fields vs /\ o.dict = d
theorem ErrO.t {x C : Addr} {d : Option Addr} {h : Heap} (I : ErrO x C d h) : z4v x C d h := let ⟨o, vs, a, b, c, _, e⟩ := I; ⟨o, vs, a, b, c, e⟩
theorem Vs0.pos {vs : Array Value} (h : Vs0 vs) : 0 < vs.size := let ⟨⟨_, e⟩, _⟩ := h; (Array.getElem?_eq_some_iff.mp e).1
theorem Vs0.put {vs : Array Value} (h : Vs0 vs) (t : Addr) : Vs0 (vs.setIfInBounds 0 (.ref t)) := ⟨⟨t, by simp [h.pos]⟩, by rw [Array.getElem?_setIfInBounds_ne (by decide)]; exact h.2⟩
section
variable {prog : Program} {w : World} {A : Around} {E : Value -> Shared -> Prop} {s : Shared} {K : PySem.W.Frag} {x C : Addr}
theorem z6y {rest : List Value} {d : Option Addr} {Q : Value -> Shared -> Prop} (X : K.In s.heap) (Z : XE K C) (I : ErrO x C d s.heap) (hz : rest.length <= sizeLine)
    (h : ∀ h' : Heap, (∀ b o, b ≠ x -> s.heap.get? b = some o -> h'.get? b = some o) -> ErrO x C d h' -> Q .none { s with heap := h' }) : wpAny (model prog w) A (call (.builtin "ValueError.__init__") (.ref x :: rest)) Q E s := by
  obtain ⟨hh, g, dr, t, os⟩ := s
  obtain ⟨bm, N, nm, qn, bs, sn, sub, ab, col, dd, k0, k1, k2, k3, k5, mN, hC, hN, T, _⟩ := XE.obj X Z
  obtain ⟨o, vs, hx, hc, hd, hv0', hdi⟩ := I
  have hvs := hv0'.pos
  have FB := F.excBase_ValueError
  refine wpAny_call (codeAny_call_builtin FB.init.plain FB.initEntry (wpAny_check_init_subU FB T hC hx hc ?_))
  show wpAny _ _ (newTuple rest >>= fun tp => Builtin.BaseException.bexcPut (.ref x) 0 tp >>= fun _ => ret .none) _ _ _
  refine wpAny_bind (wpAny_newTuple ?_ hz)
  have hx1 : (hh.push { cls := .type "tuple", data := .seq rest.toArray }).get? x = some o := Heap.get?_push_of_some _ hx
  refine wpAny_bind ?_
  unfold Builtin.BaseException.bexcPut
  obtain ⟨v0, hv0⟩ : ∃ v0, vs[0]? = some v0 := ⟨_, getElem?_pos vs 0 hvs⟩
  refine wpAny_bind (wpAny_field hx1 hd hv0 ?_)
  refine wpAny_bind (wpAny_setField hx1 hd hvs ?_)
  have hfr : (Obj.mapFields (·.setIfInBounds 0 (.ref hh.objs.size)) o).isFreed = false := by
    obtain ⟨oc, od, odt, osl⟩ := o
    cases (show odt = .fields vs from hd)
    rfl
  have hx2 : ((hh.push { cls := .type "tuple", data := .seq rest.toArray }).update x (Obj.mapFields (·.setIfInBounds 0 (.ref hh.objs.size)))).get? x = some (Obj.mapFields (·.setIfInBounds 0 (.ref hh.objs.size)) o) := Heap.get?_update_self _ hx1 hfr
  have fin : Q .none ⟨(hh.push { cls := .type "tuple", data := .seq rest.toArray }).update x (Obj.mapFields (·.setIfInBounds 0 (.ref hh.objs.size))), g, dr, t, os⟩ := by
    refine h _ (fun b ob hb e => (Heap.get?_update_ne _ _ _ _ hb).trans (Heap.get?_push_of_some _ e)) ⟨_, vs.setIfInBounds 0 (.ref hh.objs.size), hx2, ?_⟩
    obtain ⟨oc, od, odt, osl⟩ := o
    cases (show odt = .fields vs from hd)
    exact ⟨hc, rfl, hv0'.put _, hdi⟩
  cases v0 with
  | ref a => exact wpAny_letGo (wpAny_pure fin)
  | _ => exact wpAny_pure (wpAny_pure fin)
end
section
variable {prog : Program} {w : World} {A : Around} {E : Value -> Shared -> Prop} {s : Shared} {K : PySem.W.Frag} {C : Addr}
abbrev z8B (h : Heap) (C : Addr) (rest : List Value) : Heap := (h.push { cls := .type "tuple", data := .seq rest.toArray }).push (z6x C h.objs.size)
theorem z2h {h : Heap} {rest : List Value} {b : Addr} {o : Obj} (e : h.get? b = some o) : (z8B h C rest).get? b = some o := Heap.get?_push_of_some _ (Heap.get?_push_of_some _ e)
theorem z6z {h : Heap} {rest : List Value} : ErrO (h.objs.size + 1) C none (z8B h C rest) := ⟨z6x C h.objs.size, _, by heap_get, rfl, rfl, ⟨⟨_, rfl⟩, rfl⟩, rfl⟩
theorem z4w {rest : List Value} {fI : Value} {Q : Value -> Shared -> Prop} (X : K.In s.heap) (Z : XE K C) (hi : PySem.W.findIn K (.ref C) "__init__" = some (some fI)) (hb : ∀ x : Addr, PySem.W.Looks (model prog w) (z8B s.heap C rest) (bindSpecial fI (.ref x)) (fI, [.ref x])) (hz : rest.length <= sizeLine)
    (h : wpAny (model prog w) (A.under (.builtin "type.__call__" ⟨.ref C :: rest, []⟩)) (call fI (.ref (s.heap.objs.size + 1) :: rest)) (fun r s' => r = .none /\ Q (.ref (s.heap.objs.size + 1)) s') E { s with heap := z8B s.heap C rest }) :
    wpAny (model prog w) A (call (.ref C) rest) Q E s := by
  obtain ⟨hh, g, dr, t, os⟩ := s
  obtain ⟨bm, N, nm, qn, bs, sn, sub, ab, col, dd, k0, k1, k2, k3, k5, mN, hC, hN, T, _⟩ := XE.obj X Z
  have FB := F.excBase_ValueError
  have f1 := tc_lookup
  have f2 := tc_bind (.ref C)
  have hT : (⟨hh, g, dr, t, os⟩ : Shared).TypeIs (.ref C) "type" := ⟨_, hC, rfl⟩
  have body : ∀ {Q' : PySem.Fin -> Shared -> Prop} {A' : Around}, wpAny (model prog w) A' (call fI (.ref (hh.objs.size + 1) :: rest)) (fun r s' => r = .none /\ Q' (.done (.ret (.ref (hh.objs.size + 1)))) s') E ⟨z8B hh C rest, g, dr, t, os⟩ ->
      wpAny (model prog w) A' (Builtin.«type.__call__» ⟨.ref C :: rest, []⟩) Q' E ⟨hh, g, dr, t, os⟩ := by
    intro Q' A' hq
    repeat (first
      | with_reducible refine wpAny_loadPart_at hC ?_
      | with_reducible refine wpAny_madeBy_exc hC ?_
      | wp_step)
    refine codeAny_call_builtin_code (Code.quiet_builtin _ FB.quiet) (wpAny_check_new_subU FB FB.hasB T hC ?_)
    refine codeAny_exc_new_subU FB FB.hasB FB T hC ?_ hz
    show wpAny _ _ _ _ _ _
    have hC1 := z2h (C := C) (rest := rest) hC
    have X1 : K.In (z8B hh C rest) := X.keeps fun b o e => z2h e
    have hX : (z8B hh C rest).get? (hh.objs.size + 1) = some (z6x C hh.objs.size) := by heap_get
    have hcC : (Value.ref C :: bm).contains (.ref C) = true := by simp
    unfold isInstance
    repeat (first
      | with_reducible refine wpAny_loadPart_at hX ?_
      | (with_reducible refine wpAny_isSubtype_exc hC1 ?_; rw [hcC])
      | wp_step)
    show wpAny _ _ (typeLookup (.ref C) _) _ _ _
    refine (PySem.W.looks_findIn X1 hi).at ?_
    refine wpAny_holding (wpAny_bind ((hb (hh.objs.size + 1)).at ?_))
    refine wpAny_bind (wpAny_mono hq (fun r s' hr => ?_) fun _ _ z => z)
    obtain ⟨rfl, hQ⟩ := hr
    wp_walk
    exact hQ
  refine wpAny_call (codeAny_of_tree ?_)
  show wpAny _ _ (callAny (.ref C) _) _ _ _
  repeat (any_goals (first
    | assumption
    | with_reducible refine wpAny_loadPart_at hC ?_
    | wp_step))
  refine ⟨rfl, ?_⟩
  exact codeAny_call_builtin_at (Code.quiet_builtin _ (by decide +kernel)) entry_typeCall (wpAny_check_type_call_sub hC (body h))
end
def z2G (a : Addr) (fs : List (Str × V)) (h : Heap) : Prop := ∃ mA, h.Ns1 a mA /\ (∀ f, RelO (fs.lookup f) (mA f)) /\ PySem.Within mA (fs.map (·.1))
theorem z2P {prog : Program} {w : World} {H : Hp} {h : Heap} {x C : Addr} {d : Option Addr} (I : ErrO x C d h) : ObjOk prog w H h x (.ext (ErrO x C d)) :=
  ⟨I, (let ⟨o, _, e, _⟩ := I; ⟨o, e⟩), fun _ _ y k => let ⟨o, vs, e, r⟩ := y; ⟨o, vs, k o e, r⟩⟩
theorem z4x {prog : Program} {w : World} {H : Hp} {h : Heap} {a : Addr} {fs : List (Str × V)} (I : z2G a fs h) : ObjOk prog w H h a (.ext (z2G a fs)) :=
  ⟨I, (let ⟨_, ⟨o, _, _, e, _⟩, _⟩ := I; ⟨o, e⟩), fun _ _ y k => let ⟨mA, ⟨o, es, ep, e, r⟩, q⟩ := y; ⟨mA, ⟨o, es, ep, k o e, r⟩, q⟩⟩
theorem z8C {prog : Program} {w : World} {H : Hp} {h : Heap} {x C : Addr} {d : Option Addr} (I : z4v x C d h) : ObjOk prog w H h x (.ext (z4v x C d)) :=
  ⟨I, (let ⟨o, _, e, _⟩ := I; ⟨o, e⟩), fun _ _ y k => let ⟨o, vs, e, r⟩ := y; ⟨o, vs, k o e, r⟩⟩
def HasE (H : Hp) (x C : Addr) (d : Option Addr) : Prop := H x = some (.ext (ErrO x C d)) \/ H x = some (.ext (z4v x C d))
def ErrAt (H : Hp) (x C : Addr) (fs : List (Str × V)) : Prop :=
  (fs = [] /\ HasE H x C none) \/ ∃ dx, dx ≠ x /\ HasE H x C (some dx) /\ H dx = some (.ext (z2G dx fs))
theorem HasE.mono {H H' : Hp} {x C : Addr} {d : Option Addr} (s : Same H H') (h : HasE H x C d) : HasE H' x C d := h.imp (s _ _) (s _ _)
theorem ErrAt.mono {H H' : Hp} {x C : Addr} {fs : List (Str × V)} (s : Same H H') (h : ErrAt H x C fs) : ErrAt H' x C fs := by
  rcases h with ⟨e, h⟩ | ⟨dx, n, h1, h2⟩
  . exact .inl ⟨e, h.mono s⟩
  . exact .inr ⟨dx, n, h1.mono s, s _ _ h2⟩
section
variable {X : Cx} {pins : List (Addr × Obj)} {σ : St} {H : Hp} {s : Shared}
theorem Inv.errO {x C : Addr} {d : Option Addr} (I : Inv X pins σ H s) (e : H x = some (.ext (ErrO x C d))) : ErrO x C d s.heap := (show ObjOk X.prog X.w H s.heap x (.ext (ErrO x C d)) from I.hok x _ e).1
theorem Inv.errT {x C : Addr} {d : Option Addr} (I : Inv X pins σ H s) (e : HasE H x C d) : z4v x C d s.heap := by
  rcases e with e | e
  . exact (I.errO e).t
  . exact (show ObjOk X.prog X.w H s.heap x (.ext (z4v x C d)) from I.hok x _ e).1
theorem Inv.errD {a : Addr} {fs : List (Str × V)} (I : Inv X pins σ H s) (e : H a = some (.ext (z2G a fs))) : z2G a fs s.heap := (show ObjOk X.prog X.w H s.heap a (.ext (z2G a fs)) from I.hok a _ e).1
theorem Inv.err {x C : Addr} {fs : List (Str × V)} (I : Inv X pins σ H s) (h : ErrAt H x C fs) : ∃ mA, s.heap.Inst x C mA /\ (∀ f, RelO (fs.lookup f) (mA f)) /\ PySem.Within mA (fs.map (·.1)) := by
  rcases h with ⟨rfl, h⟩ | ⟨dx, n, h1, h2⟩
  . obtain ⟨o, vs, e, c, d, hd⟩ := I.errT h
    exact ⟨fun _ => none, ⟨o, e, c, (fun z q => by rw [d] at q; cases q), .inl ⟨hd, fun _ => rfl⟩⟩, fun f => trivial, PySem.Within.nil⟩
  . obtain ⟨o, vs, e, c, d, hd⟩ := I.errT h1
    obtain ⟨mA, hn, r, hw⟩ := I.errD h2
    exact ⟨mA, ⟨o, e, c, (fun z q => by rw [d] at q; cases q), .inr ⟨dx, hd, n, hn⟩⟩, r, hw⟩
theorem Inv.excAt {x C : Addr} {fs : List (Str × V)} (I : Inv X pins σ H s) (h : ErrAt H x C fs) : ExcAt x C s.heap := by
  rcases h with ⟨rfl, h⟩ | ⟨dx, n, h, _⟩
  . obtain ⟨o, vs, e, c, _⟩ := I.errT h
    exact ⟨o, e, c⟩
  . obtain ⟨o, vs, e, c, _⟩ := I.errT h
    exact ⟨o, e, c⟩
theorem z70 : CallR X (.builtin "isinstance") (fun xs H Q => ∃ x C fs y u b, xs = [.ref x, y] /\ ErrAt H x C fs /\ XE X.K C /\ zBu y = some u /\ PySem.W.kitOne X.K (.ref C) u = some b /\ Q (.bl b) H) := by
  intro pins s σ H xs us Q I r h
  obtain ⟨x, C, fs, y, u, b, rfl, hx, Z, hy, e, q⟩ := h
  obtain ⟨v, w', rfl, rx, ry⟩ := vals2 r
  cases (show v = Value.ref x from rx)
  cases (z9V hy ry)
  exact PySem.W.kia_one (z89 Z) I.kIn (I.excAt hx) e (fun z => nomatch z) fun tk => ⟨.bl b, H, I.tok tk, rfl, q⟩
def zAb (K : PySem.W.Frag) (te : TE) (f : Str) : TE := fun σ H Q => te σ H fun v H1 => ∃ x C fs z, v = .ref x /\ ErrAt H1 x C fs /\ XE K C /\ PySem.W.findIn K (.ref C) f = some none /\ fs.lookup f = some z /\ Q z H1
theorem z9W {e : Expr} {te : TE} {f : Str} {pos : Pos} (he : PE X e te) (hb : attributeBase e f X.env (eval e X.env) = eval e X.env) : PE X (.Attribute e f pos) (zAb X.K te f) := by
  intro pins s σ H Q I h
  refine z6I hb (thn (he pins s σ H _ I h) fun u s1 ⟨v, H1, I1, rv, x, C, fs, z, ev, hx, Z, hn, hz, q⟩ => ?_)
  subst ev
  obtain rfl : u = Value.ref x := rv
  obtain ⟨mA, hi, rl, _⟩ := I1.err hx
  have r := rl f
  rw [hz] at r
  cases hm : mA f with
  | none => rw [hm] at r; exact r.elim
  | some uz =>
    rw [hm] at r
    have r' : RelV z uz := r
    exact z8A I1.kIn Z hn hi hm (PySem.W.handedOut_of (z3a r')) ⟨z, H1, I1.tok _, r', q⟩
def zBv (K : PySem.W.Frag) (ta tv : TE) (f : Str) : TS := fun D σ H => tv σ H fun y H1 => ta σ H1 fun v H2 => ∃ x C, v = .ref x /\ H2 x = some (.ext (ErrO x C none)) /\ XE K C /\ PySem.W.findIn K (.ref C) f = some none /\
  ∀ d, H2 d = none -> d ≠ x -> D.nx σ (upd (upd H2 x (.ext (ErrO x C (some d)))) d (.ext (z2G d [(f, y)])))
theorem z71 {o value : Expr} {ta tv : TE} {f : Str} {pos pos' : Pos} (ha : PE X o ta) (hv : PE X value tv) (hs : swapsWith value (some (.Attribute o f pos')) pos.line X.env = pure false) : PS X (.Assign [.Attribute o f pos'] value pos) (zBv X.K ta tv f) := by
  intro pins s σ H D I h
  refine plainObj_wpAny_Assign_Attribute (thn (hv pins s σ H _ I h) fun u s1 ⟨y, H1, I1, ry, q⟩ => thn (ha pins s1 σ H1 _ I1 q) fun ov s2 ⟨v, H2, I2, rv, x, C, ev, hx, Z, hn, q2⟩ => ?_) hs
  subst ev
  obtain rfl : ov = Value.ref x := rv
  obtain ⟨mA, hi, rl, hw⟩ := I2.err (.inl ⟨rfl, .inl hx⟩ : ErrAt H2 x C [])
  have hmA : ∀ g, mA g = none := fun g => by
    have r := rl g
    cases hm : mA g with
    | none => rfl
    | some z => rw [hm] at r; exact r.elim
  refine z3r I2.kIn Z hn hi (fun h' tk' hi' hk hso => ?_) hw (by show 0 <= 1000; decide)
  obtain ⟨o0, vs, e0, c0, d0, hvs, hd0⟩ := I2.errO hx
  obtain ⟨o1, g1, g2, g3, _, _, g6⟩ := hso o0 e0
  have g6 := g6 hd0
  have hxlt : x < s2.heap.objs.size := Heap.lt_size e0
  have hdx : s2.heap.objs.size ≠ x := Nat.ne_of_gt hxlt
  have hfree : H2 s2.heap.objs.size = none := I2.hok.fresh (Nat.le_refl _)
  have keep : ∀ b u, b ≠ x -> s2.heap.get? b = some u -> h'.get? b = some u := fun b u hb e => hk b u hb (fun o₀ dx e1 e2 => by
    rw [e0] at e1
    cases e1
    rw [hd0] at e2
    cases e2) e
  have EO : ErrO x C (some s2.heap.objs.size) h' := ⟨o1, vs, g1, g2.trans c0, g3.trans d0, hvs, g6⟩
  have J1 : Inv X pins σ (upd H2 x (.ext (ErrO x C (some s2.heap.objs.size)))) { s2 with heap := h', toks := tk' } := I2.write (x := x) (e := x) (by rw [hx]; trivial) (.inl rfl) keep ⟨_, g1⟩ (z2P EO)
  have ED : z2G s2.heap.objs.size [(f, y)] h' := by
    obtain ⟨o2, k1, k2, _, k4⟩ := hi'
    rw [g1] at k1
    cases k1
    rcases k4 with ⟨z, _⟩ | ⟨dx, z1, z2, z3⟩
    . rw [g6] at z; cases z
    . rw [g6] at z1
      cases z1
      refine ⟨_, z3, fun g => ?_, ?_⟩
      . rw [List.lookup_cons]
        by_cases hg : g = f
        . subst hg
          simp only [beq_self_eq_true, if_true]
          exact ry
        . rw [beq_eq_false_iff_ne.mpr hg]
          simp only [hg, if_false, hmA]
          trivial
      . exact Within.cons f u (ns := []) (by
          have : mA = fun _ => none := funext hmA
          rw [this]
          exact Within.nil)
  have Fd := I2.fpOk (H' := upd H2 x (.ext (ErrO x C (some s2.heap.objs.size)))) (b := s2.heap.objs.size) (Nat.le_refl _) (by rw [z06 hdx]; exact hfree)
  have J2 := J1.adopt (h' := h') (tk := tk') (o := .ext (z2G s2.heap.objs.size [(f, y)])) Fd (fun _ _ _ e => e) (let ⟨_, ⟨o, _, _, e, _⟩, _⟩ := ED; ⟨o, e⟩) (z4x ED)
  exact ⟨σ, _, J2, q2 _ hfree hdx⟩
def zBw (K : PySem.W.Frag) (ta tv : TE) (f : Str) : TS := fun D σ H => tv σ H fun y H1 => ta σ H1 fun v H2 => ∃ x C dx fs, v = .ref x /\ dx ≠ x /\ H2 x = some (.ext (ErrO x C (some dx))) /\ H2 dx = some (.ext (z2G dx fs)) /\ fs.length <= 900 /\ XE K C /\ PySem.W.findIn K (.ref C) f = some none /\
  D.nx σ (upd H2 dx (.ext (z2G dx ((f, y) :: fs))))
theorem z9X {o value : Expr} {ta tv : TE} {f : Str} {pos pos' : Pos} (ha : PE X o ta) (hv : PE X value tv) (hs : swapsWith value (some (.Attribute o f pos')) pos.line X.env = pure false) : PS X (.Assign [.Attribute o f pos'] value pos) (zBw X.K ta tv f) := by
  intro pins s σ H D I h
  refine plainObj_wpAny_Assign_Attribute (thn (hv pins s σ H _ I h) fun u s1 ⟨y, H1, I1, ry, q⟩ => thn (ha pins s1 σ H1 _ I1 q) fun ov s2 ⟨v, H2, I2, rv, x, C, dx, fs, ev, hne, hx, hdx, hfs, Z, hn, q2⟩ => ?_) hs
  subst ev
  obtain rfl : ov = Value.ref x := rv
  obtain ⟨o0, vs, e0, c0, d0, hvs, hd0⟩ := I2.errO hx
  obtain ⟨mA, hns, rl, hw⟩ := I2.errD hdx
  have hi : s2.heap.Inst x C mA := ⟨o0, e0, c0, (fun z q => by rw [d0] at q; cases q), .inr ⟨dx, hd0, hne, hns⟩⟩
  refine z3r I2.kIn Z hn hi (fun h' tk' hi' hk hso => ?_) hw (by rw [List.length_map]; omega)
  obtain ⟨o1, g1, g2, g3, g4, g5, _⟩ := hso o0 e0
  have g5' := g5 dx hd0
  have hx1 : h'.get? x = some o0 := by
    obtain ⟨c1, d1, da1, sl1⟩ := o1
    obtain ⟨c2, d2, da2, sl2⟩ := o0
    have q2' : c1 = c2 := g2
    have q3 : da1 = da2 := g3
    have q4 : sl1 = sl2 := g4
    have q5 : d1 = d2 := (show d1 = some dx from g5').trans (show d2 = some dx from hd0).symm
    subst q2' q3 q4 q5
    exact g1
  have keep : ∀ b u, b ≠ dx -> s2.heap.get? b = some u -> h'.get? b = some u := fun b u hb e => by
    by_cases hbx : b = x
    . subst hbx
      rw [e0] at e
      cases e
      exact hx1
    . exact hk b u hbx (fun o₀ d' e1 e2 => by
        rw [e0] at e1
        cases e1
        rw [hd0] at e2
        cases e2
        exact hb) e
  have ED : z2G dx ((f, y) :: fs) h' := by
    obtain ⟨o2, k1, k2, _, k4⟩ := hi'
    rw [hx1] at k1
    cases k1
    rcases k4 with ⟨z, _⟩ | ⟨d', z1, z2, z3⟩
    . rw [hd0] at z; cases z
    . rw [hd0] at z1
      cases z1
      refine ⟨_, z3, fun g => ?_, Within.cons f u hw⟩
      rw [List.lookup_cons]
      by_cases hg : g = f
      . subst hg
        simp only [beq_self_eq_true, if_true]
        exact ry
      . rw [beq_eq_false_iff_ne.mpr hg]
        simp only [hg, if_false]
        exact rl g
  exact ⟨σ, _, I2.write (x := dx) (e := dx) (by rw [hdx]; trivial) (.inl rfl) keep (let ⟨_, ⟨o, _, _, e, _⟩, _⟩ := ED; ⟨o, e⟩) (z4x ED), q2⟩
end
def PF (X : Cx) (e : Expr) (t : St -> Hp -> Prop) : Prop := ∀ (pins : List (Addr × Obj)) (s : Shared) (σ : St) (H : Hp), Inv X pins σ H s -> t σ H ->
  wpAny (model X.prog X.w) X.A (eval e X.env) (fun v s' => ∃ y u, v = .str y u /\ y.length <= 100000 /\ Inv X pins σ H s') X.xe s
def z9v : V -> Prop
  | .non => True
  | .int a => a.natAbs.log2 < 1920
  | _ => False
section
variable {X : Cx}
theorem z4Q {z : Str} {j : Nat} {pos : Pos} : PF X (.Constant (.str z) j pos) (fun _ _ => z.length <= 100000) := fun pins s σ H I h => Calls.Constant_str ⟨z, _, rfl, h, I.tok _⟩
theorem z8r {e : Expr} {te : TE} {pos : Pos} (he : PE X e te) : PF X (.FormattedValue e (-1) none pos) (fun σ H => te σ H fun v H' => z9v v /\ H' = H) := by
  intro pins s σ H I h
  refine wpAny_FormattedValue_plain (thn (he pins s σ H _ I h) fun u s1 ⟨v, H1, I1, rv, hf, e1⟩ => ?_)
  subst e1
  cases v with
  | non =>
    cases (show u = Value.none from rv)
    exact wpAny_formatField_none ⟨_, _, rfl, by decide, I1.tok _⟩
  | int a =>
    obtain ⟨t, rfl⟩ := rv
    have hl : a.natAbs.log2 < 1920 := hf
    refine wpAny_formatField_int hl ⟨_, _, rfl, ?_, I1.tok _⟩
    have := int_text_length_le (k := 1920) (by decide) hl
    rw [PySem.ofString_length]
    omega
  | _ => exact hf.elim
theorem z9Y {e : Expr} {te : TE} {pos : Pos} (he : PE X e te) : PF X (.FormattedValue e 114 none pos) (fun σ H => te σ H fun v H' => (∃ z, v = .str z /\ (reprText z).length <= 100000) /\ H' = H) := by
  intro pins s σ H I h
  refine wpAny_FormattedValue_repr (thn (he pins s σ H _ I h) fun u s1 ⟨v, H1, I1, rv, ⟨z, ez, hz⟩, e1⟩ => ?_)
  subst e1 ez
  obtain ⟨t, rfl⟩ := (show ∃ t, u = Value.str z t from rv)
  have hz' : (reprText z).length <= sizeLine := Nat.le_trans hz (by decide)
  refine wpAny_pyReprObj_str ?_ hz'
  exact wpAny_formatField_str ⟨_, _, rfl, hz, I1.tok _⟩ ⟨_, _, rfl, hz, I1.tok _⟩ hz'
def PFs (X : Cx) (es : List Expr) (t : St -> Hp -> Prop) : Prop := ∀ (pins : List (Addr × Obj)) (σ : St) (H : Hp), t σ H -> ∀ (s : Shared) (acc : Str) (Q : Str -> Shared -> Prop), Inv X pins σ H s -> acc.length + 100000 * es.length <= sizeLine ->
  (∀ out s', Inv X pins σ H s' -> out.length <= sizeLine -> Q out s') -> Joins (model X.prog X.w) X.A X.xe (evalEach es X.env) acc Q s
theorem z72 : PFs X [] (fun _ _ => True) := fun _ _ _ _ s acc Q I hz h => h acc s I (by simpa using hz)
theorem z1j {e : Expr} {es : List Expr} {t u : St -> Hp -> Prop} (he : PF X e t) (hr : PFs X es u) (hev : evalEach (e :: es) X.env = eval e X.env :: evalEach es X.env := by rfl) : PFs X (e :: es) (fun σ H => t σ H /\ u σ H) := by
  intro pins σ H ⟨h1, h2⟩ s acc Q I hz h
  rw [hev]
  rw [List.length_cons] at hz
  refine thn (he pins s σ H I h1) fun v s1 ⟨y, tk, ev, hy, I1⟩ => ⟨y, tk, ev, ?_, ?_⟩
  . rw [strLen_append]
    omega
  . exact hr pins σ H h2 s1 (acc ++ y) Q I1 (by rw [strLen_append]; omega) h
def zBx (t : St -> Hp -> Prop) : TE := fun σ H Q => t σ H /\ ∀ z, Q (.str z) H
theorem z73 {v₁ v₂ : Expr} {rest : List Expr} {pos : Pos} {t : St -> Hp -> Prop} (h : PFs X (v₁ :: v₂ :: rest) t) (hl : rest.length <= 100 := by decide) : PE X (.JoinedStr (v₁ :: v₂ :: rest) pos) (zBx t) := by
  intro pins s σ H Q I ⟨ht, hq⟩
  refine wpAny_JoinedStr (h pins σ H ht s Str.empty _ I ?_ fun out s' I' ho => ⟨ho, ⟨.str out, H, I'.tok _, ⟨_, rfl⟩, hq out⟩⟩)
  have e0 : Str.empty.length = 0 := by decide
  rw [e0, List.length_cons, List.length_cons, sizeLine_eq]
  omega
structure Gi (K : PySem.W.Frag) (G : Addr) : Prop where
  sp : PySem.W.specialIn K (.ref G) "__getattribute__" = some (some (.builtin "type.__getattribute__"))
  rd : PySem.W.readsIn K G (.type "type") = true
  fd : PySem.W.findCls K (.ref G) (.type "type") "__init__" = some (.val (.builtin "ValueError.__init__"))
def zAc (K : PySem.W.Frag) (t : TA) : TE := fun σ H Q => t σ H fun vs H2 => ∃ x C d y, vs = [.ref x, y] /\ H2 x = some (.ext (ErrO x C d)) /\ XE K C /\ Q .non H2
theorem zAd {H : Hp} {a : Addr} {o : HO} (h : H a = some o) : upd H a o = H := by
  funext b
  unfold upd
  split
  . rename_i e; rw [e, h]
  . rfl
theorem z4y {gn : Str} {G : Addr} {e : Expr} {es : List Expr} {t : TA} {p1 p2 p3 : Pos} {pl : Sem Bool} (hg : Gl X gn) (hm : X.mg gn = some (.ref G)) (Z : Gi X.K G) (ha : PA X (e :: es) t) (hd : (gn == ("__debug__" : Str)) = false := by decide)
    (hs : starEach (e :: es) X.env = (false, eval e X.env) :: starEach es X.env := by rfl) (hplain : (backTo p3 (starEach es X.env)).any (·.1) = false := by rfl)
    (ht : eval (.Call (.Attribute (.Name gn p1) "__init__" p2) (e :: es) [] p3) X.env = (do
      let ov <- eval (.Name gn p1) X.env
      standAt p2.atName
      let (f, first) <- holding [ov] (getMethod ov "__init__" pl)
      callWith p3 f first (backTo p3 (starEach (e :: es) X.env)) (backToKw p3 (keywordEach [] X.env))) := by rfl) :
    PE X (.Call (.Attribute (.Name gn p1) "__init__" p2) (e :: es) [] p3) (zAc X.K t) := by
  intro pins s σ H Q I h
  refine PySem.W.methodCall_KW (pl := pl) (z1P I hg hm ?_ hd) ht
  refine PySem.W.method_cls I.kIn Z.sp ?_
  refine PySem.W.cls_value I.kIn Z.rd Z.fd rfl ?_
  have hA := ha p3 pins _ σ H _ (I.tok (s.toks + 1)) h
  rw [hs] at hA ⊢
  refine Calls.callWith_builtin (by show (false || (backTo p3 (starEach es X.env)).any (·.1)) = false; rw [hplain] <;> rfl) (Calls.evalArgs_plain ?_)
  refine thn hA fun us s1 ⟨vs, H2, I1, r, x, C, d, y, ev, hx, ZC, q⟩ => ?_
  subst ev
  obtain ⟨u1, u2, rfl, r1, r2⟩ := vals2 r
  cases (show u1 = Value.ref x from r1)
  refine z6y I1.kIn ZC (I1.errO hx) (by show 1 <= sizeLine; decide) fun h' hk ho => ?_
  have J := I1.write (x := x) (e := x) (t' := s1.toks) (by rw [hx]; trivial) (.inl rfl) (fun b u hb z => hk b u hb z) (let ⟨o, _, z, _⟩ := ho; ⟨o, z⟩) (z2P ho)
  rw [zAd hx] at J
  exact ⟨.non, H2, J, rfl, q⟩
structure Ei (K : PySem.W.Frag) (C fI : Addr) : Prop where
  x : XE K C
  kp : PySem.W.keepIn K (.ref C) = true
  fi : PySem.W.findIn K (.ref C) "__init__" = some (some (.ref fI))
  fn : PySem.W.typeIn K (.ref fI) = some (.type "function")
def zET (C : Addr) (sp : Sp) (t : TA) : TE := fun σ H Q => t σ H fun vs H1 => vs.length <= 1000 /\ ∀ x, H1 x = none -> sp (.ref x :: vs) (upd H1 x (.ext (ErrO x C none))) (fun v H2 => v = .non /\ Q (.ref x) H2) E0
theorem Inv.newErr {pins : List (Addr × Obj)} {σ : St} {H : Hp} {s : Shared} {C : Addr} {us : List Value} (I : Inv X pins σ H s) : Inv X pins σ (upd H (s.heap.objs.size + 1) (.ext (ErrO (s.heap.objs.size + 1) C none))) { s with heap := z8B s.heap C us, toks := s.toks } :=
  I.laid (t' := s.toks) (fun b u e => z2h e) (Nat.le_succ _) (z2P z6z)
structure Eo (K : PySem.W.Frag) (C : Addr) : Prop where
  x : XE K C
  kp : PySem.W.keepIn K (.ref C) = true
  fi : PySem.W.findIn K (.ref C) "__init__" = some (some (.builtin "ValueError.__init__"))
def zEU (C : Addr) (t : TA) : TE := fun σ H Q => t σ H fun vs H1 => vs.length <= 1000 /\ ∀ x, H1 x = none -> Q (.ref x) (upd H1 x (.ext (ErrO x C none)))
end
section
variable {X : Cx}
def zEV (K : PySem.W.Frag) : R2 := fun x y H Q => ∃ (a b : Addr) (bs : List Bool), x = .ref a /\ y = .ref b /\ SqL K H a (bs.map V.bl) /\ SqL K H b (bs.map V.bl) /\ Q (.bl false) H
end
def veB : List Value -> Bool
  | .ref _ :: r => veB r
  | [.type a, .type b, .type c, .type d] => a == "ValueError" && b == "Exception" && c == "BaseException" && d == "object"
  | _ => false
theorem z4z : ∀ {l : List Value}, veB l = true -> VeTail l
  | .ref c :: r, e => .step (z4z (l := r) e)
  | [.type a, .type b, .type c, .type d], e => by
    simp only [veB, Bool.and_eq_true, beq_iff_eq] at e
    obtain ⟨⟨⟨rfl, rfl⟩, rfl⟩, rfl⟩ := e
    exact .base
def xeB (K : PySem.W.Frag) (C : Addr) : Bool :=
  (match K.lookup C with
  | some ⟨.type "type", _, .cls cd, ⟨[_, _, _, _, some (.builtin n), _]⟩⟩ => (match cd.mro with
    | .ref C' :: bm => decide (C' = C) && (n == "ValueError.__new__" && (cd.hasDel == false && (cd.hasDict && (veB bm && (PySem.W.tailIn K z5Z bm && PySem.W.nsOkIn K cd.ns)))))
    | _ => false)
  | _ => false) &&
  (PySem.W.findIn K (.ref C) "__getattribute__" == some (some (.builtin "BaseException.__getattribute__")) && (PySem.W.findIn K (.ref C) "__getattr__" == some none && (PySem.W.findIn K (.ref C) "__setattr__" == some (some (.builtin "object.__setattr__")) &&
  (PySem.W.findIn K (.ref C) "__class__" == some (some (.builtin "object.__class__")) && (PySem.W.specialIn K (.builtin "object.__class__") "__get__" == some (some (.builtin "getset_descriptor.__get__")) && (PySem.W.takesIn K (.builtin "object.__class__") == some true &&
  (PySem.W.mroIn K C (.type "object") == some true && PySem.W.keepIn K (.ref C))))))))
theorem z50 {K : PySem.W.Frag} {C : Addr} (h : xeB K C = true) : XE K C /\ PySem.W.keepIn K (.ref C) = true := by
  unfold xeB at h
  simp only [Bool.and_eq_true, beq_iff_eq] at h
  obtain ⟨h0, h1, h2, h3, h4, h5, h6, h7, h8⟩ := h
  refine ⟨⟨?_, h1, h2, h3, h4, h5, h6, h7⟩, h8⟩
  split at h0
  . rename_i dd cd k0 k1 k2 k3 n k5 lk
    split at h0
    . rename_i C' bm hm
      simp only [Bool.and_eq_true, beq_iff_eq, decide_eq_true_eq] at h0
      obtain ⟨rfl, rfl, e1, e2, e3, e4, e5⟩ := h0
      exact ⟨dd, cd, k0, k1, k2, k3, k5, bm, lk, hm, e1, e2, z4z e3, e4, e5⟩
    . cases h0
  . cases h0
def z8s (K : PySem.W.Frag) (cs : List Addr) (G : Addr) : Bool :=
  (List.range cs.length).all fun i => ((List.range cs.length).all fun j => PySem.W.kitOne K (.ref (cs.getD i 0)) (.ref (cs.getD j 0)) == some (decide (i = j))) &&
    (PySem.W.kitOne K (.ref (cs.getD i 0)) (.ref G) == some true && PySem.W.kitOne K (.ref (cs.getD i 0)) (.type "ValueError") == some true)
structure Kits (K : PySem.W.Frag) (cs : List Addr) (G : Addr) (i : Nat) : Prop where
  one : ∀ j, j < cs.length -> PySem.W.kitOne K (.ref (cs.getD i 0)) (.ref (cs.getD j 0)) = some (decide (i = j))
  g : PySem.W.kitOne K (.ref (cs.getD i 0)) (.ref G) = some true
  v : PySem.W.kitOne K (.ref (cs.getD i 0)) (.type "ValueError") = some true
theorem z74 {K : PySem.W.Frag} {cs : List Addr} {G : Addr} (h : z8s K cs G = true) : ∀ i, i < cs.length -> Kits K cs G i := fun i hi => by
  have h1 := List.all_eq_true.mp h i (List.mem_range.mpr hi)
  simp only [Bool.and_eq_true, beq_iff_eq] at h1
  exact ⟨fun j hj => by simpa using List.all_eq_true.mp h1.1 j (List.mem_range.mpr hj), h1.2.1, h1.2.2⟩
structure Oe (P : Program) (w : World) (K : PySem.W.Frag) (mg : Str -> Option Value) (base : Heap) (x : Str) (C : Addr) (ps : List Str) (k : Nat) (sp : Sp) : Prop where
  ex : ∃ (fI : Addr) (fd : FuncData), mg x = some (.ref C) /\ Ei K C fI /\ Binds K fd ps [] /\ FnOk P w K mg base CX0 k fI fd ps sp
structure Oo (K : PySem.W.Frag) (mg : Str -> Option Value) (x : Str) (C : Addr) : Prop where
  m : mg x = some (.ref C)
  e : Eo K C
section
variable {X : Cx} {k j : Nat} {ps : List Str} {sp : Sp} {x : Str} {C : Addr} {p pos : Pos} {e : Expr} {es : List Expr} {t : TA}
end
def zB2 (C : Addr) (f : Str) : Sp := fun vs H Q _ => ∃ x v, vs = [.ref x, v] /\ H x = some (.ext (ErrO x C none)) /\ z9v v /\ ∀ d, H d = none -> d ≠ x -> Q .non (upd (upd H x (.ext (ErrO x C (some d)))) d (.ext (z2G d [(f, v)])))
def zB3 (C : Addr) (f g : Str) : Sp := fun vs H Q _ => ∃ x z v, vs = [.ref x, .str z, v] /\ H x = some (.ext (ErrO x C none)) /\ (reprText z).length <= 100000 /\ z9v v /\
  ∀ d, H d = none -> d ≠ x -> Q .non (upd (upd H x (.ext (ErrO x C (some d)))) d (.ext (z2G d [(g, v), (f, .str z)])))
def fld (n : Int) (t : V) (w : Str) : List (List (Str × V)) := [[("row", t)], [("at", .int n), ("sign", .str w)], [("word", .int n)], [("number", .int n)], [("row", .int n)], [("at", t)], [("part", .int n)], [("owed", .int n)], [], [], [], [], [], [], []]
structure Errs (H : Hp) (l : Addr) (xs cs : List Addr) (fs : List (List (Str × V))) : Prop where
  lst : H l = some (.lst (xs.map V.ref))
  len : xs.length = 15
  one : ∀ i, i < 15 -> ErrAt H (xs.getD i 0) (cs.getD i 0) (fs.getD i [])
theorem Errs.mono {H H' : Hp} {l : Addr} {xs cs : List Addr} {fs : List (List (Str × V))} (s : Same H H') (h : Errs H l xs cs fs) : Errs H' l xs cs fs := ⟨s _ _ h.lst, h.len, fun i hi => (h.one i hi).mono s⟩
theorem Errs.get {H : Hp} {l : Addr} {xs cs : List Addr} {fs : List (List (Str × V))} (h : Errs H l xs cs fs) {i : Nat} (hi : i < 15) : atI (xs.map V.ref) ((i : Nat) : Int) = some (.ref (xs.getD i 0)) := by
  refine z0i ?_
  have : i < xs.length := by have := h.len; omega
  rw [List.getElem?_map, List.getElem?_eq_getElem this, List.getD_eq_getElem?_getD, List.getElem?_eq_getElem this]
  rfl
def ths (i : Nat) : List Bool := (List.range 15).map fun j => decide (i = j)
def zCx (cs : List Addr) : Sp := fun vs H Q _ => ∃ n t w, vs = [.int n, t, .str w] /\ z9v (.int n) /\ z9v t /\ (reprText w).length <= 100000 /\ ∀ l xs H', Same H H' -> Errs H' l xs cs (fld n t w) -> Q (.ref l) H'
def zBy (cs : List Addr) : Sp := fun vs H Q _ => ∃ x i fs, vs = [.ref x] /\ i < 15 /\ ErrAt H x (cs.getD i 0) fs /\ ∀ l H', Same H H' -> H' l = some (.lst ((ths i).map V.bl)) -> Q (.ref l) H'
def zB4 (cs : List Addr) : Sp := fun vs H Q _ => ∃ l xs n t w, vs = [.ref l, .int n, t, .str w] /\ Errs H l xs cs (fld n t w) /\ z9v t /\ ∀ H', Same H H' -> Q (.bl true) H'
def DK {α : Type} : Sem α -> Prop
  | .pure _ | .raise _ | .unsupported _ | .finish _ | .register .. | .yield .. | .fork .. | .await .. => True
  | .rule _ k | .at _ k | .point _ k => DK (k ())
  | .load _ _ k => ∀ o, DK (k o)
  | .update _ _ f k => (∀ o : Obj, (f o).dict = o.dict) /\ DK (k ())
  | .loadIfAlive _ k => ∀ o, DK (k o)
  | .alloc _ k => ∀ a, DK (k a)
  | .fresh k => ∀ t, DK (k t)
  | .ask k => ∀ x, DK (k x)
  | .choose _ _ k => ∀ n, DK (k n)
  | .os _ _ k => ∀ r, DK (k r)
  | .call .. | .resume .. => False
  | .handled _ k => ∀ x, DK (k x)
  | .genState _ k => ∀ x, DK (k x)
  | .newGen _ k => ∀ n, DK (k n)
  | .stack k => ∀ l, DK (k l)
  | .thread k => ∀ n, DK (k n)
def RK (h h' : Heap) : Prop := ∀ (b : Addr) (o : Obj), h.objs[b]? = some o -> ∃ o', h'.objs[b]? = some o' /\ o'.dict = o.dict
theorem RK.refl (h : Heap) : RK h h := fun _ o e => ⟨o, e, rfl⟩
theorem RK.trans {a b c : Heap} (x : RK a b) (y : RK b c) : RK a c := fun p o e =>
  let ⟨_, e1, d1⟩ := x p o e; let ⟨o2, e2, d2⟩ := y p _ e1; ⟨o2, e2, d2.trans d1⟩
theorem RK.push (h : Heap) (u : Obj) : RK h (h.push u) := fun b o e => ⟨o, by
  obtain ⟨objs, l⟩ := h
  show (objs.push u)[b]? = some o
  have e' : objs[b]? = some o := e
  have : b < objs.size := (Array.getElem?_eq_some_iff.mp e').1
  rw [Array.getElem?_push_lt this]
  rw [Array.getElem?_eq_getElem this] at e'
  exact e', rfl⟩
theorem RK.update (h : Heap) (a : Addr) (f : Obj -> Obj) (hf : ∀ o : Obj, (f o).dict = o.dict) : RK h (h.update a f) := fun b o e => by
  obtain ⟨objs, l⟩ := h
  have e' : objs[b]? = some o := e
  by_cases z : a = b
  . subst z
    exact ⟨f o, by show (objs.modify a f)[a]? = _; rw [Array.getElem?_modify, if_pos rfl, e']; rfl, hf o⟩
  . exact ⟨o, by show (objs.modify a f)[b]? = _; rw [Array.getElem?_modify, if_neg z]; exact e', rfl⟩
theorem RK.get {h h' : Heap} (r : RK h h') {b : Addr} {o o' : Obj} (e : h.get? b = some o) (e' : h'.get? b = some o') : o'.dict = o.dict := by
  have raw : ∀ {g : Heap} {u : Obj}, g.get? b = some u -> g.objs[b]? = some u := fun {g u} q => by
    unfold Heap.get? at q
    split at q
    . cases q
    . exact q
  obtain ⟨o1, e1, d1⟩ := r b o (raw e)
  rw [raw e'] at e1
  cases e1
  exact d1
theorem zBz {α : Type} {M : Model} {Γ : PySem.Ctx} : ∀ (t : Sem α) {Q : α -> Pos -> Shared -> Prop} {E : Value -> Pos -> Shared -> Prop} {p : Pos} {s : Shared}, DK t -> Sem.wp M Γ t Q E p s ->
    Sem.wp M Γ t (fun a p' s' => Q a p' s' /\ RK s.heap s'.heap) (fun e p' s' => E e p' s' /\ RK s.heap s'.heap) p s := by
  intro t
  induction t with
  | pure a => intro Q E p s _ h; exact ⟨h, RK.refl _⟩
  | raise e => intro Q E p s _ h; exact ⟨h, RK.refl _⟩
  | unsupported w => intro Q E p s _ h; exact h
  | finish e => intro Q E p s _ h; exact h
  | rule t k ih => intro Q E p s d h; exact ih () d h
  | «at» q k ih => intro Q E p s d h; exact ih () d h
  | load a q k ih => intro Q E p s d h; obtain ⟨o, e, h⟩ := h; exact ⟨o, e, ih o (d o) h⟩
  | update a q f k ih =>
    intro Q E p s d h
    refine ⟨h.1, ?_⟩
    have r := RK.update s.heap a f d.1
    exact Sem.wp_mono M Γ _ (fun _ _ _ z => ⟨z.1, r.trans z.2⟩) (fun _ _ _ z => ⟨z.1, r.trans z.2⟩) _ _ (ih () d.2 h.2)
  | alloc o k ih =>
    intro Q E p s d h
    have r := RK.push s.heap o
    exact Sem.wp_mono M Γ _ (fun _ _ _ z => ⟨z.1, r.trans z.2⟩) (fun _ _ _ z => ⟨z.1, r.trans z.2⟩) _ _ (ih _ (d _) h)
  | loadIfAlive a k ih => intro Q E p s d h; exact ih _ (d _) h
  | point l k ih => intro Q E p s d h; exact ih () d h
  | register a k ih => intro Q E p s d h; exact h
  | fresh k ih => intro Q E p s d h; exact ih _ (d _) h
  | ask k ih => intro Q E p s d h; exact ih _ (d _) h
  | choose a n k ih => intro Q E p s d h; exact ⟨h.1, ih _ (d _) h.2⟩
  | os a l k ih => intro Q E p s d h; exact ih _ (d _) h
  | call c a g l k ih => intro Q E p s d h; exact d.elim
  | handled o k ih => intro Q E p s d h; exact ih _ (d _) h
  | newGen c k ih => intro Q E p s d h; exact ih _ (d _) h
  | genState g k ih => intro Q E p s d h; obtain ⟨st, e, h⟩ := h; exact ⟨st, e, ih _ (d _) h⟩
  | resume g r l k ih => intro Q E p s d h; exact d.elim
  | yield v g l k ih => intro Q E p s d h; exact h
  | stack k ih => intro Q E p s d h; exact ih _ (d _) h
  | fork c k ih => intro Q E p s d h; exact h
  | thread k ih => intro Q E p s d h; exact ih _ (d _) h
  | await a k ih => intro Q E p s d h; exact h
theorem z3s {α : Type} {M : Model} {A : Around} {E : Value -> Shared -> Prop} {s : Shared} {t : Sem α} {Q : α -> Shared -> Prop} (d : DK t) (h : wpAny M A t Q E s) : wpAny M A t (fun a s' => Q a s' /\ RK s.heap s'.heap) (fun e s' => E e s' /\ RK s.heap s'.heap) s :=
  fun Γ p hΓ => zBz t d (h Γ p hΓ)
theorem z9Z {α β : Type} : ∀ (t : Sem α) (f : α -> Sem β), DK t -> (∀ a, DK (f a)) -> DK (t.bind f) := by
  intro t f
  induction t with
  | pure a => intro _ h; exact h a
  | raise e => intro _ _; trivial
  | unsupported w => intro _ _; trivial
  | finish e => intro _ _; trivial
  | rule t k ih => intro d h; exact ih () d h
  | «at» q k ih => intro d h; exact ih () d h
  | load a q k ih => intro d h o; exact ih o (d o) h
  | update a q g k ih => intro d h; exact ⟨d.1, ih () d.2 h⟩
  | alloc o k ih => intro d h a; exact ih a (d a) h
  | loadIfAlive a k ih => intro d h o; exact ih o (d o) h
  | point l k ih => intro d h; exact ih () d h
  | register a k ih => intro _ _; trivial
  | fresh k ih => intro d h o; exact ih o (d o) h
  | ask k ih => intro d h o; exact ih o (d o) h
  | choose a n k ih => intro d h o; exact ih o (d o) h
  | os a l k ih => intro d h o; exact ih o (d o) h
  | call c a g l k ih => intro d h; exact d.elim
  | handled o k ih => intro d h o; exact ih o (d o) h
  | newGen c k ih => intro d h o; exact ih o (d o) h
  | genState g k ih => intro d h o; exact ih o (d o) h
  | resume g r l k ih => intro d h; exact d.elim
  | yield v g l k ih => intro _ _; trivial
  | stack k ih => intro d h o; exact ih o (d o) h
  | fork c k ih => intro _ _; trivial
  | thread k ih => intro d h o; exact ih o (d o) h
  | await a k ih => intro _ _; trivial
theorem z0L {α β : Type} {t : Sem α} {f : α -> Sem β} (d : DK t) (h : ∀ a, DK (f a)) : DK (t >>= f) := z9Z t f d h
theorem z0e {α : Type} (a : α) : DK (pure a : Sem α) := trivial
theorem z1z {α : Type} (w : String) : DK (unsupported w : Sem α) := trivial
theorem z4R (a : Addr) : DK (load a) := fun _ => trivial
theorem z51 : DK stack := fun _ => trivial
theorem z2p (f : Array Value -> Array Value) (o : Obj) : (Obj.mapFields f o).dict = o.dict := by
  obtain ⟨c, d, dt, sl⟩ := o
  cases dt <;> rfl
theorem z2Q (v : Value) (i : Nat) : DK (field v i) := by
  unfold field
  refine z0L ?_ fun a => ?_
  . unfold fieldsOf
    split
    . refine z0L (z4R _) fun o => ?_
      split
      . exact z0e _
      . exact z1z _
    . exact z1z _
  . split
    . exact z0e _
    . exact z1z _
theorem z2q (a : Addr) (i : Nat) (v : Value) : DK (updateField a i v) := by
  unfold updateField
  refine z0L (z4R _) fun o => ?_
  split
  . split
    . exact ⟨z2p _, trivial⟩
    . exact z1z _
  . exact z1z _
theorem z1p (v : Value) (i : Nat) (x : Value) : DK (setField v i x) := by
  unfold setField
  split
  . exact z2q _ _ _
  . exact z1z _
theorem z1f (e : Value) (f : Option Addr) : DK (setFlight e f) := by
  unfold setFlight
  refine z0L (z2Q _ _) fun tb => ?_
  split
  . exact z1p _ _ _
  . exact z0e _
theorem z4S (a b c d e : Value) (pl : List Value) : DK (EntryCells.newEntry a b c d e pl) := by
  unfold EntryCells.newEntry newFields newObj
  generalize ([a, b, c, d, e] ++ (if pl.isEmpty then List.replicate 6 Value.none else pl)).toArray = arr
  dsimp only
  by_cases h : arr.size > sizeLine + 2
  . rw [if_pos h]
    trivial
  . rw [if_neg h]
    exact fun _ => trivial
theorem z8D : DK underTheClaimsCaller := fun _ => trivial
theorem z75 (env : Env) (outer : List Env) : DK (behindIsImport env outer) := by
  unfold behindIsImport
  split
  . exact z0e _
  . split
    . exact z0e _
    . exact z0L (z2Q _ _) fun _ => z0e _
theorem z9a (env : Env) (b : Bool) (l : List Env) : DK (keptBack env b l) := by
  cases l with
  | nil =>
    show DK (if env.scope.isGenerator || env.scope.isCoroutine then pure Value.none else do return if <- underTheClaimsCaller then Value.notImplemented else Value.none)
    split
    . exact z0e _
    . exact z0L z8D fun _ => z0e _
  | cons c l => exact z0e _
theorem z52 : ∀ l : List Env, DK (readyFrames l)
  | [] => trivial
  | env :: outer => by
    unfold readyFrames
    split
    . refine z0L (z4R _) fun o => ?_
      split
      . exact z0e _
      . refine z0L (z75 _ _) fun b => z0L (z9a _ _ _) fun v => z0L ?_ fun _ => z52 outer
        exact ⟨fun _ => rfl, trivial⟩
    . exact z1z _
theorem z5c (env : Env) : DK (PySem.frameOf env) := by
  unfold PySem.frameOf
  refine z0L (z0L z51 fun _ => z0e _) fun l => z0L ?_ fun r => ?_
  . generalize l.dropWhile (·.frame != env.frame) = l'
    cases l' with
    | nil => exact z0e _
    | cons e l' => exact z0L (z52 _) fun _ => z0e _
  . split
    . exact z0e _
    . exact z1z _
theorem z8E (f : Addr) (b : Bool) : DK (entryPlaceOf f b) := by
  unfold entryPlaceOf
  refine z0L z51 fun l => ?_
  split <;> exact z0e _
theorem z76 (e : Value) (env : Env) : DK (noteFrame e env) := by
  have tail : ∀ f head, DK (do setField e 1 (<- EntryCells.newEntry head (<- PySem.frameOf env) .none (rawInt f) .none (<- entryPlaceOf f (head != .none)))) := fun f head =>
    z0L (z5c _) fun _ => z0L (z8E _ _) fun _ => z0L (z4S _ _ _ _ _ _) fun _ => z1p _ _ _
  unfold noteFrame
  split
  . refine z0L (z2Q _ _) fun head => ?_
    split
    . refine z0L (z2Q _ _) fun x => ?_
      split
      . exact z0e _
      . exact z0L (z1p _ _ _) fun _ => tail _ _
    . exact tail _ _
  . exact z1z _
theorem z32 (env : Env) (e : Value) : DK (leaving env e) := z0L (z76 _ _) fun _ => z1f _ _
def del (H : Hp) (a : Addr) : Hp := fun b => if b = a then none else H b
theorem z8F {H : Hp} {a : Addr} : del H a a = none := if_pos rfl
theorem z53 {H : Hp} {a b : Addr} (h : b ≠ a) : del H a b = H b := if_neg h
theorem z8G {H : Hp} {a b : Addr} (h : H b = none) : del H a b = none := by
  unfold del
  split
  . rfl
  . exact h
def CX2 (P : Program) (w : World) : CXT := fun st H s E e s' => ∃ (a t C : Addr) (B : Heap) (H' : Hp) (d : Option Addr), e = .ref a /\ s'.os = s.os /\ AllBare s'.gens /\ s.heap.objs.size <= a /\ Fly P w st H H' B a C t s.heap s'.heap /\ (∃ o, s'.heap.get? a = some o /\ o.dict = d) /\ E (.ref C) d H'
section
variable {X : Cx} {pins : List (Addr × Obj)} {σ : St} {H H' : Hp} {s : Shared}
theorem Fly.firstE {x C t : Addr} {d : Option Addr} {h' : Heap} (I : Inv X pins σ H s) (hst : X.stack = X.env :: X.outer) (hf : X.env.frame = some X.env.locals) (hex : X.ex = []) (hx : H x = some (.ext (ErrO x C d))) (hsz : X.s₀.heap.objs.size <= x)
    (fl : Heap.FlyingW (PySem.W.hideAll s.heap (x :: frs X.stack)) X.outer x (.ref C) (.ref t) h') (sm : s.heap.UpToSlots h') : Fly X.prog X.w X.outer X.H₀ (del H x) (PySem.W.hideAll s.heap (x :: frs X.stack)) x C t X.s₀.heap h' := by
  have hS : frs X.stack = X.env.locals :: frs X.outer := by rw [hst]; exact z1y hf
  have hxx : ∀ b, b ∉ X.ex := fun b => by rw [hex]; exact nin
  have ne : ∀ b o, X.s₀.heap.get? b = some o -> b ≠ X.env.locals := fun b o e => Nat.ne_of_lt (Nat.lt_of_lt_of_le (Heap.lt_size e) I.ok.above)
  have nx : ∀ b o, X.s₀.heap.get? b = some o -> b ≠ x := fun b o e => Nat.ne_of_lt (Nat.lt_of_lt_of_le (Heap.lt_size e) hsz)
  have out : ∀ b o, X.s₀.heap.get? b = some o -> b ∉ frs X.outer -> b ∉ x :: frs X.stack := fun b o e n hb => by
    rcases List.mem_cons.mp hb with z | hb
    . exact nx b o e z
    rw [hS] at hb
    rcases List.mem_cons.mp hb with z | z
    . exact ne b o e z
    . exact n z
  have kB : ∀ b o, X.s₀.heap.get? b = some o -> X.H₀ b = none -> b ∉ frs X.outer -> (PySem.W.hideAll s.heap (x :: frs X.stack)).get? b = some o := fun b o e n nb => PySem.W.hideAll_get _ (I.base.keep b o e n nb (hxx b)) (out b o e nb)
  have tB : ∀ b o, X.s₀.heap.get? b = some o -> b ∉ frs X.outer -> ∃ o', (PySem.W.hideAll s.heap (x :: frs X.stack)).get? b = some o' := fun b o e nb => by
    obtain ⟨o', e'⟩ := I.base.there b o e (hxx b)
    exact ⟨o', PySem.W.hideAll_get _ e' (out b o e nb)⟩
  have sl : ∀ b o, X.s₀.heap.get? b = some o -> X.H₀ b = none -> b ∈ frs X.outer -> ∃ sl, h'.get? b = some { o with slots := sl } := fun b o e n hb => by
    obtain ⟨s1, e1⟩ := I.base.slot b o e n hb (hxx b)
    obtain ⟨_, o', ho', hd⟩ := I.ok.funs.mem hb
    rw [e] at ho'
    cases ho'
    obtain ⟨s3, e3⟩ := sm b _ e1 hd
    exact ⟨s3, e3⟩
  have dn : ∀ {b : Addr} {u : HO}, H b = some u -> (∀ φ, u ≠ .ext φ) -> del H x b = some u := fun {b u} e n => by
    rw [z53]
    . exact e
    . rintro rfl
      rw [hx] at e
      cases e
      exact n _ rfl
  refine ⟨⟨fun b o e n nb _ => fl.1 b o (kB b o e n nb), fun b o e n hb _ => sl b o e n hb, fun b o e n _ => z8G (I.base.free b o e n (hxx b)), fun b o e _ => ?_, fun b xs e => dn (I.base.tups b xs e) (fun φ z => nomatch z), fun b o u e => dn (I.base.frzs b o u e) (fun φ z => nomatch z),
    fun b ps e => let ⟨m, q⟩ := I.base.tbls b ps e; ⟨m, dn q (fun φ z => nomatch z)⟩⟩, kB, tB, fun b u q => ?_, fl⟩
  . by_cases hb : b ∈ frs X.outer
    . obtain ⟨s1, e1⟩ := sl b o e (I.ok.frf b hb) hb
      exact ⟨_, e1⟩
    . obtain ⟨o', e'⟩ := tB b o e hb
      exact ⟨o', fl.1 b o' e'⟩
  . have hbx : b ≠ x := fun z => by rw [z, z8F] at q; cases q
    rw [z53 hbx] at q
    refine (I.hok b u q).stay (fun c v hc e => PySem.W.hideAll_get _ e fun hm => ?_) (fun _ z => dn z (fun φ z => nomatch z)) fun _ _ z => dn z (fun φ z => nomatch z)
    rcases List.mem_cons.mp hm with rfl | hm
    . rcases hc with z | z
      . exact hbx z.symm
      . rw [hx] at z; cases z
    . have n := I.stkFree c hm
      rcases hc with z | z
      . rw [z, q] at n
        cases n
      . rw [z] at n
        cases n
end
section
variable {P : Program} {w : World} {K : PySem.W.Frag} {mg : Str -> Option Value} {base : Heap} {N : List Str} {qual : Str} {scope : Scope} {f : Addr} {cd : Value} {A : Around} {outer : List Env} {s : Shared} {H : Hp} {E : XK}
theorem z77 : z1d (CX2 P w) (z6M (CX2 P w) P w K mg base N qual scope f cd A outer s H E) E := by
  intro pins σ H1 s1 e s' I h
  obtain ⟨a, t, C, B, H', d, rfl, os, bare, sz, F, ⟨o, eo, ed⟩, q⟩ := h
  show wpAny (model P w) (A.deeper (envOfC qual scope s.heap.objs.size f cd)) (leaving (envOfC qual scope s.heap.objs.size f cd) (.ref a)) _ _ s'
  refine wpAny_mono (z3s (z32 _ _) (wpAny_leaves_onW (E := fun _ _ => False) (Q := fun _ s'' => ∃ h', s'' = { s' with heap := h' } /\ Heap.FlyingW B outer a (.ref C) (.ref t) h' /\ s'.heap.UpToSlots h') I.ok.frames rfl F.fl fun h' fl sm => ⟨h', rfl, fl, sm⟩)) (fun _ s'' h2 => ?_) fun _ _ z => z.1.elim
  obtain ⟨⟨h', rfl, fl, sm⟩, rk⟩ := h2
  obtain ⟨o', eo', _⟩ := fl.there
  exact ⟨a, t, C, B, H', d, rfl, os.trans I.os, bare, Nat.le_trans I.sz sz, Fly.leave I rfl rfl rfl F fl sm, ⟨o', eo', (rk.get eo eo').trans ed⟩, q⟩
theorem z8t {X : Cx} : z1d (CX2 P w) X E0 := fun _ _ _ _ _ _ _ h => by
  obtain ⟨_, _, _, _, _, _, _, _, _, _, _, _, h⟩ := h
  exact h.elim
def z4T (X : Cx) (E : XK) : Prop := ∀ (pins : List (Addr × Obj)) (σ : St) (H : Hp) (s : Shared) (x C : Addr) (d : Option Addr), Inv X pins σ H s -> H x = some (.ext (ErrO x C d)) -> X.s₀.heap.objs.size <= x -> E (.ref C) d (del H x) -> X.xe (.ref x) s
theorem z1q : z4T (z6M (CX2 P w) P w K mg base N qual scope f cd A outer s H E) E := by
  intro pins σ H1 s1 x C d I hx hsz q
  have hin : ∀ env ∈ (envOfC qual scope s.heap.objs.size f cd :: outer), ∀ b, env.frame = some b -> b ∈ x :: frs (envOfC qual scope s.heap.objs.size f cd :: outer) := fun env he b hb => List.mem_cons_of_mem _ (List.mem_filterMap.mpr ⟨env, he, hb⟩)
  obtain ⟨o, vs, eo, hc, hd, ⟨⟨t, h0⟩, h1⟩, hdi⟩ := I.errO hx
  show wpAny (model P w) (A.deeper (envOfC qual scope s.heap.objs.size f cd)) (leaving (envOfC qual scope s.heap.objs.size f cd) (.ref x)) _ _ s1
  refine wpAny_mono (z3s (z32 _ _) (wpAny_leaving_firstW (E := fun _ _ => False) (base := PySem.W.hideAll s1.heap (x :: frs (envOfC qual scope s.heap.objs.size f cd :: outer)))
    (Q := fun _ s'' => ∃ h', s'' = { s1 with heap := h' } /\ Heap.LeftW (PySem.W.hideAll s1.heap (x :: frs (envOfC qual scope s.heap.objs.size f cd :: outer))) (envOfC qual scope s.heap.objs.size f cd :: outer) x o.cls (.ref t) s1.heap h')
    I.ok.frames (PySem.W.funFrames_hide I.stack hin) rfl eo (fun b o z => PySem.W.of_hideAll _ z) (PySem.W.hideAll_none _ List.mem_cons_self) hd h1 h0 fun h' hL => ⟨h', rfl, hL⟩)) (fun _ s'' h2 => ?_) fun _ _ z => z.1.elim
  obtain ⟨⟨h', rfl, k1, ⟨_, _, k2⟩, k3, k4⟩, rk⟩ := h2
  rw [hc] at k3
  have fl : Heap.FlyingW (PySem.W.hideAll s1.heap (x :: frs (envOfC qual scope s.heap.objs.size f cd :: outer))) outer x (.ref C) (.ref t) h' := ⟨k1, PySem.W.hideAll_none _ List.mem_cons_self, k2, k3⟩
  obtain ⟨o', eo', _⟩ := fl.there
  exact ⟨x, t, C, _, _, d, rfl, I.os, I.bare, hsz, Fly.firstE I rfl rfl rfl hx hsz fl k4, ⟨o', eo', (rk.get eo eo').trans hdi⟩, q⟩
end
section
variable {X : Cx} {pins : List (Addr × Obj)} {σ : St}
theorem z20 {s : Shared} {m : Sem Value} {Q : Flow -> Shared -> Prop} {E : Value -> Shared -> Prop} {M : Model} {A : Around} {env : Env} {K : PySem.W.Frag} (hh : A.handled = none)
    (h : wpAny M A m (fun v s1 => ∃ x C d, v = .ref x /\ K.In s1.heap /\ XE K C /\ ErrO x C d s1.heap /\ E (.ref x) s1) E s) : wpAny M A (raiseStmt env (some m) none) Q E s := by
  unfold raiseStmt
  refine wpAny_bind (wpAny_mono h (fun v s1 h1 => ?_) fun _ _ z => z)
  obtain ⟨x, C, d, rfl, X, Z, ⟨o, vs, eo, hc, hd, ⟨⟨t, h0⟩, h1⟩, hdi⟩, hE⟩ := h1
  obtain ⟨bm, N, nm, qn, bs, sn, sub, ab, col, dd, k0, k1, k2, k3, k5, mN, hC, hN, T, _⟩ := XE.obj X Z
  have hcB : (Value.ref C :: bm).contains (.type "BaseException") = true := by
    rw [List.contains_cons, T.hasType (X := "BaseException") (b := true) (by decide +kernel)]
    rfl
  obtain ⟨hp, g, dr, tk, os⟩ := s1
  obtain ⟨oc, od, odt, osl⟩ := o
  cases (show oc = .ref C from hc)
  cases (show odt = .fields vs from hd)
  have f1 : ∀ {Q' : Unit -> Shared -> Prop}, Q' () ⟨hp, g, dr, tk, os⟩ -> wpAny M A (setFlight (.ref x) none) Q' E ⟨hp, g, dr, tk, os⟩ := fun {Q'} q => by
    unfold setFlight
    refine wpAny_bind (wpAny_field eo rfl h1 ?_)
    rw [if_neg (by decide)]
    exact wpAny_pure q
  repeat (first | with_reducible refine wpAny_loadPart_at eo ?_ | with_reducible refine wpAny_loadPart_at hC ?_ | (with_reducible refine wpAny_isSubtype_exc hC ?_; rw [hcB]) | (with_reducible refine wpAny_bind (f1 ?_)) | wp_step)
  exact wpAny_raiseNew_none hh hE
theorem zAe {x : Str} {C fI : Addr} {k : Nat} {fd : FuncData} {ps : List Str} {sp : Sp} {e : Expr} {es : List Expr} {t : TA} {p pos : Pos} {s : Shared} {H : Hp} {Q' : Addr -> Hp -> Prop} (M : Ei X.K C fI) (F : FnOk X.prog X.w X.K X.mg X.base CX0 k fI fd ps sp) (hr : Room (k + 1) X.A) (hg : Gl X x) (hm : X.mg x = some (.ref C)) (hb : Binds X.K fd ps [])
    (ha : PA X (e :: es) t) (I : Inv X pins σ H s) (h : t σ H fun vs H1 => vs.length <= 1000 /\ ∀ x, H1 x = none -> sp (.ref x :: vs) (upd H1 x (.ext (ErrO x C none))) (fun v H2 => v = .non /\ Q' x H2) E0)
    (hdb : (x == ("__debug__" : Str)) = false := by decide) (he : starEach (e :: es) X.env = (false, eval e X.env) :: starEach es X.env := by rfl) (hpl : (backTo pos (starEach es X.env)).any (·.1) = false := by rfl) :
    wpAny (model X.prog X.w) X.A (eval (.Call (.Name x p) (e :: es) [] pos) X.env) (fun u s' => ∃ a H', u = .ref a /\ X.s₀.heap.objs.size <= a /\ Inv X pins σ H' s' /\ Q' a H') X.xe s := by
  refine wpAny_Call_Name_kw (z1P I hg hm ?_ hdb)
  refine PySem.W.callWith_K (h₀ := X.base) I.ok.mod.kin M.kp (thn (ha pos pins s σ H _ I h) fun us s1 ⟨vs, H1, I1, r, hz, q⟩ => ⟨I1.kIn, ?_⟩) he hpl
  have hq := q (s1.heap.objs.size + 1) (I1.hok.fresh (Nat.le_succ _))
  have I2 := Inv.newErr (C := C) (us := us) I1
  have r2 : Vals (V.ref (s1.heap.objs.size + 1) :: vs) (Value.ref (s1.heap.objs.size + 1) :: us) := .cons rfl r
  have hl : (Value.ref (s1.heap.objs.size + 1) :: us ++ []).length = ps.length := by
    rw [List.append_nil, <- r2.length]
    exact F.len _ _ _ _ hq
  have hb2 := hb _ (Value.ref (s1.heap.objs.size + 1) :: us) I2.kIn hl
  rw [List.append_nil] at hb2
  refine z4w I1.kIn M.x M.fi (fun y => PySem.W.bind_fn I2.kIn (.ref y) M.fn) (by show us.length <= sizeLine; rw [<- r.length]; exact Nat.le_of_lt (z0D hz)) ?_
  refine wpAny_call (codeAny_mono (F.run _ X.stack _ _ ⟨Value.ref (s1.heap.objs.size + 1) :: us, []⟩ (Value.ref (s1.heap.objs.size + 1) :: us) _ _ E0 (hr.make C us []) (I2.env0.make C us []) hb2 r2 hq) fun rr s' hq' => ?_)
  cases rr with
  | error ev => exact (show False from hq').elim
  | ok fl =>
    cases fl with
    | ret u =>
      obtain ⟨v, H', I3, rv, ev, q3⟩ := I2.after hq'
      subst ev
      exact ⟨rv, s1.heap.objs.size + 1, H', rfl, Nat.le_trans I1.sz (Nat.le_succ _), I3, q3⟩
    | next => exact False.elim hq'
    | brk => exact False.elim hq'
    | cont => exact False.elim hq'
def z9b (C : Addr) (sp : Sp) (t : TA) (E : XK) : TS := fun _ σ H => t σ H fun vs H1 => vs.length <= 1000 /\ ∀ x, H1 x = none -> sp (.ref x :: vs) (upd H1 x (.ext (ErrO x C none))) (fun v H2 => v = .non /\ ∃ d, H2 x = some (.ext (ErrO x C d)) /\ E (.ref C) d (del H2 x)) E0
theorem z3t {x : Str} {C : Addr} {k j : Nat} {ps : List Str} {sp : Sp} {e : Expr} {es : List Expr} {t : TA} {p cp pos : Pos} {E : XK} (R : z4T X E) (hc : X.calm = true) (O : Oe X.prog X.w X.K X.mg X.base x C ps k sp) (hr : Room j X.A) (hg : Gl X x) (ha : PA X (e :: es) t) (hk : k + 1 <= j := by decide)
    (hdb : (x == ("__debug__" : Str)) = false := by decide) (he : starEach (e :: es) X.env = (false, eval e X.env) :: starEach es X.env := by rfl) (hpl : (backTo cp (starEach es X.env)).any (·.1) = false := by rfl) :
    PS X (.Raise (some (.Call (.Name x p) (e :: es) [] cp)) none pos) (z9b C sp t E) := by
  obtain ⟨fI, fd, m, M, b, F⟩ := O.ex
  intro pins s σ H D I h
  show wpAny (model X.prog X.w) X.A (do standAt pos; raiseStmt X.env (some (do let v <- eval (.Call (.Name x p) (e :: es) [] cp) X.env; standAt pos; pure v)) none) _ _ s
  refine wpAny_bind (wpAny_standAt (z20 (K := X.K) (I.ok.hd hc) (wpAny_bind (wpAny_mono (zAe M F (hr.mono hk) hg m b ha I h hdb he hpl) (fun v s1 h1 => wpAny_bind (wpAny_standAt (wpAny_pure ?_))) fun _ _ z => z))))
  obtain ⟨a, H', rfl, hsz, I1, d, hx, q⟩ := h1
  exact ⟨a, C, d, rfl, I1.kIn, M.x, I1.errO hx, R _ _ _ _ _ _ _ I1 hx hsz q⟩
def z9c (C : Addr) (t : TA) (E : XK) : TS := fun _ σ H => t σ H fun vs H1 => vs.length <= 1000 /\ E (.ref C) none H1
end
abbrev X2h (X : Cx) (a : Addr) : Cx := { X with A := X.A.mark (some (.ref a)), calm := false, xe := fun _ _ => False }
section
variable {X : Cx} {pins : List (Addr × Obj)} {σ : St} {H : Hp} {s : Shared} {a : Addr}
theorem Cx.Ok.hand2 (ok : X.Ok) : (X2h X a).Ok :=
  ⟨ok.mod, ok.kind, ok.glob, ok.blt, ok.above, ok.inj, ok.has, ok.cab, (fun z => nomatch z), ok.frames, ok.stk, ok.exf, ok.bs, ok.bsz, ok.noex, ok.exfs, ok.funs, ok.frf⟩
theorem Inv.hand2 (I : Inv X pins σ H s) : Inv (X2h X a) pins σ H s := ⟨I.ok.hand2, I.os, I.bare, I.base, I.loc, I.cell, I.free, I.freeC, I.pin, I.hok, I.len⟩
theorem Inv.unhand2 (ok : X.Ok) (I : Inv (X2h X a) pins σ H s) : Inv X pins σ H s := ⟨ok, I.os, I.bare, I.base, I.loc, I.cell, I.free, I.freeC, I.pin, I.hok, I.len⟩
abbrev z9d (D : Ends) (i : Nat) : Ends := { nx := fun σ' H' => D.nx (σ'.set i none) H', rt := D.rt, bk := fun σ' H' => D.bk (σ'.set i none) H', ct := fun σ' H' => D.ct (σ'.set i none) H' }
theorem z5d {D : Ends} {f : Flow} {E : Value -> Shared -> Prop} {i : Nat} {n : Str} {hp : Pos} (ok : X.Ok) (hN : X.N.Nodup) (hi : X.N[i]? = some n) (hloc : X.env.scope.names.lookup n = some .local)
    (h : SP (X2h X a) pins (z9d D i) f s) : wpAny (model X.prog X.w) X.A (do bindName X.env n .none; unbindBehindTheSuite X.env n hp) (fun _ s' => SP X pins D f s') E s := by
  cases f with
  | next => obtain ⟨σ', H', I, q⟩ := h; exact z0y (I.unhand2 ok) hN hi hloc fun s' I' => ⟨_, H', I', q⟩
  | brk => obtain ⟨σ', H', I, q⟩ := h; exact z0y (I.unhand2 ok) hN hi hloc fun s' I' => ⟨_, H', I', q⟩
  | cont => obtain ⟨σ', H', I, q⟩ := h; exact z0y (I.unhand2 ok) hN hi hloc fun s' I' => ⟨_, H', I', q⟩
  | ret u => obtain ⟨v, σ', H', I, r, q⟩ := h; exact z0y (I.unhand2 ok) hN hi hloc fun s' I' => ⟨v, _, H', I', r, q⟩
end
section
variable {X : Cx} {G : Addr} {gn n : Str} {gp hp tp ep : Pos} {b₀ : Stmt} {suite : List Stmt} {i : Nat} {th : TS}
theorem z9e {pins : List (Addr × Obj)} {σ : St} {H1 H' : Hp} {s1 s' : Shared} {B : Heap} {a c t' : Addr} {d : Option Addr} {D : Ends} {E : Value -> Shared -> Prop} (I : Inv X pins σ H1 s1) (hst : X.stack = X.env :: X.outer) (hf : X.env.frame = some X.env.locals)
    (hgG : Gl X gn) (hmG : X.mg gn = some (.ref G)) (hG : XE X.K G) (hN : X.N.Nodup) (hi : X.N[i]? = some n) (hloc : X.env.scope.names.lookup n = some .local)
    (hs : ∀ a, PSs (X2h X a) (b₀ :: suite) th) (os : s'.os = s1.os) (bare : AllBare s'.gens) (sz : s1.heap.objs.size <= a) (F : Fly X.prog X.w X.stack H1 H' B a c t' s1.heap s'.heap) (hdct : ∃ o, s'.heap.get? a = some o /\ o.dict = d)
    (Zc : XE X.K c) (ab : PySem.W.mroIn X.K c (.ref G) = some true) (q : th (z9d D i) (σ.set i (some (.ref a))) (upd H' a (.ext (z4v a c d)))) (hdG : (gn == ("__debug__" : Str)) = false) :
    wpAny (model X.prog X.w) X.A (noteFrame (.ref a) X.env) (fun _ s₂ => wpAny (model X.prog X.w) X.A (setFlight (.ref a) none) (fun _ s₃ =>
      wpAny (model X.prog X.w) X.A (handleBy (.ref a) X.env [.ExceptHandler (some (.Name gn gp)) (some n) (b₀ :: suite) hp]) (SP X pins D) E s₃) E s₂) E s' := by
  have hfr : X.A.frames = some (X.env :: X.outer) := by rw [<- hst]; exact I.ok.frames
  have hfl : Heap.FlyingW B (X.env :: X.outer) a (.ref c) (.ref t') s'.heap := by rw [<- hst]; exact F.fl
  obtain ⟨o0, eo0, ed0⟩ := hdct
  refine wpAny_mono (z3s (z76 _ _) (wpAny_looks_onW (E := fun _ _ => False) (Q := fun _ s'' => ∃ h', s'' = { s' with heap := h' } /\ Heap.HeldW B (X.env :: X.outer) a (.ref c) (.ref t') X.env.locals h' /\ s'.heap.UpToSlots h') hfr hf hfl fun h' x y => ⟨h', rfl, x, y⟩)) (fun _ s'' h2 => ?_) fun _ _ z => z.1.elim
  obtain ⟨⟨h₄, rfl, held₄, sm₄⟩, rk₄⟩ := h2
  refine wpAny_mono (z3s (z1f _ _) (wpAny_landsW (E := fun _ _ => False) (s := { s' with heap := h₄ }) (Q := fun _ s'' => ∃ h', s'' = { s' with heap := h' } /\ Heap.FlyingW B (X.env :: X.outer) a (.ref c) (.ref t') h' /\ h₄.UpToSlots h') held₄ fun h' x y => ⟨h', rfl, x, y⟩)) (fun _ s'' h2 => ?_) fun _ _ z => z.1.elim
  obtain ⟨⟨h₅, rfl, fl₅, sm₅⟩, rk₅⟩ := h2
  have F₅ := F.on (by rw [hst]; exact fl₅) (sm₄.trans sm₅)
  have at5 : ∀ {h : Heap}, Fly X.prog X.w X.stack H1 H' B a c t' s1.heap h -> Inv X pins σ H' { s' with heap := h } := fun {h} Fh => I.call' (s' := { s' with heap := h }) os Fh.un (Fh.hok.kept Fh.fl.1) bare (fun b z => absurd z nin)
  have I₅ := at5 F₅
  obtain ⟨oe₅, e₅, c₅⟩ := F₅.fl.there
  have J₅ : Inv (X2h X a) pins σ H' { s' with heap := h₅ } := I₅.hand2
  refine wpAny_handleBy_cons (codeAny_handlers_test (z1P (X := X2h X a) J₅ hgG hmG ?_ hdG)) (by intro z; cases z)
  obtain ⟨bm, N, nm, qn, bs, sn, sub, ab', col, dd, k0, k1, k2, k3, k5, mN, hC, hN', T, _, cd0, hcd, hmro, _⟩ := XE.obj I₅.kIn Zc
  obtain ⟨bm2, N2, nm2, qn2, bs2, sn2, sub2, ab2, col2, dd2, j0, j1, j2, j3, j5, mN2, hC2, hN2, T2, _⟩ := XE.obj I₅.kIn hG
  have hsub : (Value.ref c :: bm).contains (.ref G) = true := by
    unfold PySem.W.mroIn at ab
    rw [hcd] at ab
    dsimp only [Option.bind] at ab
    rw [hmro, if_neg (by simp)] at ab
    exact Option.some.inj ab
  obtain ⟨sh, sg, sd, stk, sos⟩ := s'
  refine z1n hC hC2 e₅ c₅ (T2.hasType (X := "BaseException") (b := true) (by decide +kernel)) hsub (codeAny_handlers_suite_as ?_)
  refine wpAny_mono (z3s (z1f _ _) (lands_againW (E := fun _ _ => False) (s := ⟨h₅, sg, sd, stk, sos⟩) (Q := fun _ s'' => ∃ h', s'' = ⟨h', sg, sd, stk, sos⟩ /\ Heap.FlyingW B (X.env :: X.outer) a (.ref c) (.ref t') h' /\ h₅.UpToSlots h') (by rw [hst] at F₅; exact F₅.fl) fun h' x y => ⟨h', rfl, x, y⟩)) (fun _ s'' h2 => ?_) fun _ _ z => z.1.elim
  obtain ⟨⟨h₆, rfl, fl₆, sm₆⟩, rk₆⟩ := h2
  have F₆ := F₅.on (by rw [hst]; exact fl₆) sm₆
  have I₆ := at5 F₆
  obtain ⟨_, _, _, oe, vs, _, _, _, e₆, c₆, d₆, _⟩ := F₆.fl
  have rk := (rk₄.trans rk₅).trans rk₆
  have ET : z4v a c d h₆ := ⟨oe, vs, e₆, c₆.1, d₆, (rk.get eo0 e₆).trans ed0⟩
  have J₆ : Inv X pins σ (upd H' a (.ext (z4v a c d))) ⟨h₆, sg, sd, stk, sos⟩ := I₆.adopt (I.fpOk sz F₆.free) (fun _ _ _ e => e) ⟨oe, e₆⟩ (z8C ET)
  refine z2I (X := X2h X a) (v := .ref a) J₆.hand2 hN hi (.inl hloc) rfl (fun s₇ J₇ => ?_) (.inr hloc)
  refine wpAny_mono (hs a pins s₇ _ _ _ J₇ q) (fun f s₈ h₈ => ?_) fun _ _ z => z.elim
  exact z5d I.ok hN hi hloc h₈
abbrev TEx := St -> Hp -> VK -> XK -> Prop
def PEx (X : Cx) (e : Expr) (t : TEx) : Prop := ∀ (pins : List (Addr × Obj)) (s : Shared) (σ : St) (H : Hp) (Q : VK) (E : XK), Inv X pins σ H s -> t σ H Q E ->
  wpAny (model X.prog X.w) X.A (eval e X.env) (EP X pins σ Q) (fun ev s' => ∃ H1 s1, Inv X pins σ H1 s1 /\ CX2 X.prog X.w X.stack H1 s1 E ev s') s
def z8u (sp : Sp) (dvs : List V) (t : TA) : TEx := fun σ H Q E => t σ H fun vs H1 => sp (vs ++ dvs) H1 Q E
theorem z8H {k : Nat} {fa : Addr} {fd : FuncData} {ps : List Str} {sp : Sp} {dvs : List V} {ds : List Value} {x : Str} {p cp : Pos} {e : Expr} {es : List Expr} {t : TA} (F : FnOk X.prog X.w X.K X.mg X.base (CX2 X.prog X.w) k fa fd ps sp) (hr : Room k X.A) (hg : Gl X x) (hm : X.mg x = some (.ref fa)) (hk : PySem.W.keepIn X.K (.ref fa) = true) (hb : Binds X.K fd ps ds) (hd : Vals dvs ds)
    (ha : PA X.nox (e :: es) t) (hdb : (x == ("__debug__" : Str)) = false := by decide) (he : starEach (e :: es) X.env = (false, eval e X.env) :: starEach es X.env := by rfl) (hpl : (backTo cp (starEach es X.env)).any (·.1) = false := by rfl) :
    PEx X (.Call (.Name x p) (e :: es) [] cp) (z8u sp dvs t) := by
  intro pins s σ H Q E I h
  refine wpAny_Call_Name_kw (z1P I hg hm ?_ hdb)
  refine PySem.W.callWith_K (h₀ := X.base) I.ok.mod.kin hk ?_ he hpl
  refine wpAny_mono (ha cp pins s σ H _ (I.wish _) h) (fun us s1 ⟨vs, H1, I1, r, hsp⟩ => ⟨I1.kIn, ?_⟩) fun _ _ z => z.elim
  have I1' : Inv X pins σ H1 s1 := I1.unwish
  have r2 : Vals (vs ++ dvs) (us ++ ds) := r.append hd
  have hl : (us ++ ds).length = ps.length := by rw [<- r2.length]; exact F.len _ _ _ _ hsp
  refine wpAny_call (codeAny_mono (F.run X.A X.stack s1 H1 ⟨us, []⟩ (us ++ ds) (vs ++ dvs) _ E hr I1'.env0 (hb s1 us I1'.kIn hl) r2 hsp) fun rr s' hr' => ?_)
  cases rr with
  | error ev => exact ⟨H1, s1, I1', hr'⟩
  | ok fl =>
    cases fl with
    | ret u => exact I1'.after hr'
    | next => exact False.elim hr'
    | brk => exact False.elim hr'
    | cont => exact False.elim hr'
def hE (K : PySem.W.Frag) (G : Addr) (i : Nat) (th : TS) (D : Ends) (σ : St) (E : XK) : Prop := ∀ Cv d H2, E Cv d H2 -> ∃ c, Cv = .ref c /\ XE K c /\ PySem.W.mroIn K c (.ref G) = some true /\ ∀ a, H2 a = none -> th (z9d D i) (σ.set i (some (.ref a))) (upd H2 a (.ext (z4v a c d)))
def zC0 (K : PySem.W.Frag) (G : Addr) (t : TEx) (i : Nat) (th : TS) : TS := fun D σ H => ∃ E : XK, t σ H (fun _ H2 => D.nx σ H2) E /\ hE K G i th D σ E
def zDr (K : PySem.W.Frag) (G : Addr) (t : TEx) (j i : Nat) (th : TS) : TS := fun D σ H => ∃ E : XK, t σ H (fun v H2 => D.nx (σ.set j (some v)) H2) E /\ hE K G i th D σ E
structure Gc (K : PySem.W.Frag) (mg : Str -> Option Value) (x : Str) (G : Addr) : Prop where
  m : mg x = some (.ref G)
  e : XE K G
variable {e : Expr} {t : TEx}
theorem z9f (ht : PEx X e t) (hst : X.stack = X.env :: X.outer) (hf : X.env.frame = some X.env.locals) (hgG : Gl X gn) (Z : Gc X.K X.mg gn G) (hN : X.N.Nodup) (hi : X.N[i]? = some n) (hloc : X.env.scope.names.lookup n = some .local)
    (hs : ∀ a, PSs (X2h X a) (b₀ :: suite) th) (hdG : (gn == ("__debug__" : Str)) = false := by decide) (hsw : swapsWith e none ep.line X.env = pure false := by rfl) :
    PS X (.Try [.Expr e ep] [.ExceptHandler (some (.Name gn gp)) (some n) (b₀ :: suite) hp] [] [] tp) (zC0 X.K G t i th) := by
  intro pins s σ H D I h
  obtain ⟨E, h, hh⟩ := h
  refine wpAny_Try_except (wpAny_execs_cons (wpAny_Expr_any ?_ I.quiet hsw))
  refine wpAny_mono (ht pins s σ H _ E I h) (fun u s1 ⟨v, H1, I1, _, q⟩ => wpAny_execs_nil (wpAny_execs_nil ⟨σ, H1, I1, q⟩)) fun ev s' ⟨H1, s1, I1, h2⟩ => ?_
  obtain ⟨a, t', C, B, H', d, rfl, os, bare, sz, Fl, hd, q⟩ := h2
  obtain ⟨c, ec, Zc, ab, q⟩ := hh _ _ _ q
  cases ec
  exact z9e I1 hst hf hgG Z.m Z.e hN hi hloc hs os bare sz Fl hd Zc ab (q a Fl.free) hdG
end
structure Ow2 (P : Program) (w : World) (K : PySem.W.Frag) (mg : Str -> Option Value) (base : Heap) (x : Str) (ps : List Str) (k : Nat) (sp : Sp) : Prop where
  ex : ∃ (f : Addr) (fd : FuncData), mg x = some (.ref f) /\ PySem.W.keepIn K (.ref f) = true /\ Binds K fd ps [] /\ FnOk P w K mg base (CX2 P w) k f fd ps sp
theorem Df.ow2 {P : Program} {w : World} {K : PySem.W.Frag} {mg : Str -> Option Value} {base : Heap} {x : Str} {st : Stmt} {ps : List Str} {f : Addr} {fd : FuncData} {k : Nat} {sp : Sp} (D : Df K mg x st ps f fd) (F : FnOk P w K mg base (CX2 P w) k f fd ps sp) :
    Ow2 P w K mg base x ps k sp := ⟨f, fd, D.m, D.F.kp, D.b, F⟩
theorem Fun.ok2 {P : Program} {w : World} {K : PySem.W.Frag} {mg : Str -> Option Value} {base : Heap} {x qual : Str} {st : Stmt} {f : Addr} {fd : FuncData} {N ps : List Str} {k : Nat} {sp : Sp} (F : Fun K x qual st f fd) (S : FnScope N ps (z04 st)) (len : ∀ vs H Q E, sp vs H Q E -> vs.length = ps.length)
    (hbody : ∀ (cdv : Value) (A : Around) (outer : List Env) (s : Shared) (H : Hp) (vs : List V) (Q : VK) (E : XK), Room k (A.deeper (envOfC qual (z04 st) s.heap.objs.size f cdv)) -> sp vs H Q E ->
      ∃ t, PSs (z6M (CX2 P w) P w K mg base N qual (z04 st) f cdv A outer s H E) (z0C st) t /\ t { nx := fun _ H' => Q .non H', rt := Q } (start N vs) H) : FnOk P w K mg base (CX2 P w) (k + 1) f fd ps sp := by
  obtain ⟨oc, od, kV, doc, pm, an, cdv, ct, osl, rfl, lk, hcd⟩ := F.ex
  exact z7p lk hcd S len fun A outer s H vs Q E hr hsp => hbody cdv A outer s H vs Q E hr hsp
section
variable {X : Cx} {k j : Nat} {ps : List Str} {sp : Sp} {x : Str} {p pos : Pos} {e : Expr} {es : List Expr} {t : TA} {E : XK}
theorem z8I (O : Ow2 X.prog X.w X.K X.mg X.base x ps k sp) (hr : Room j X.A) (hg : Gl X x) (ha : PA X (e :: es) t) (hk : k <= j := by decide) (hdb : (x == ("__debug__" : Str)) = false := by decide)
    (he : starEach (e :: es) X.env = (false, eval e X.env) :: starEach es X.env := by rfl) (hpl : (backTo pos (starEach es X.env)).any (·.1) = false := by rfl) :
    PE X (.Call (.Name x p) (e :: es) [] pos) (z7n sp [] E0 t) := by
  obtain ⟨f, fd, m, kp, b, F⟩ := O.ex
  exact z4I F (hr.mono hk) hg m kp b .nil z8t ha hdb he hpl
theorem z8J (O : Ow2 X.prog X.w X.K X.mg X.base x ps k sp) (hr : Room j X.A) (hx : z1d (CX2 X.prog X.w) X E) (hg : Gl X x) (ha : PA X (e :: es) t) (hk : k <= j := by decide) (hdb : (x == ("__debug__" : Str)) = false := by decide)
    (he : starEach (e :: es) X.env = (false, eval e X.env) :: starEach es X.env := by rfl) (hpl : (backTo pos (starEach es X.env)).any (·.1) = false := by rfl) :
    PE X (.Call (.Name x p) (e :: es) [] pos) (z7n sp [] E t) := by
  obtain ⟨f, fd, m, kp, b, F⟩ := O.ex
  exact z4I F (hr.mono hk) hg m kp b .nil hx ha hdb he hpl
theorem z8K (O : Ow2 X.prog X.w X.K X.mg X.base x ps k sp) (hr : Room j X.A) (hg : Gl X x) (ha : PA X.nox (e :: es) t) (hk : k <= j := by decide) (hdb : (x == ("__debug__" : Str)) = false := by decide)
    (he : starEach (e :: es) X.env = (false, eval e X.env) :: starEach es X.env := by rfl) (hpl : (backTo pos (starEach es X.env)).any (·.1) = false := by rfl) :
    PEx X (.Call (.Name x p) (e :: es) [] pos) (z8u sp [] t) := by
  obtain ⟨f, fd, m, kp, b, F⟩ := O.ex
  exact z8H F (hr.mono hk) hg m kp b .nil ha hdb he hpl
end
theorem z33 {H : Hp} {x d C : Addr} {fs : List (Str × V)} (nx : H x = none) (nd : (upd H x (.ext (ErrO x C none))) d = none) (hd : d ≠ x) :
    (upd (upd (upd H x (.ext (ErrO x C none))) x (.ext (ErrO x C (some d)))) d (.ext (z2G d fs))) x = some (.ext (ErrO x C (some d))) /\
    Same H (del (upd (upd (upd H x (.ext (ErrO x C none))) x (.ext (ErrO x C (some d)))) d (.ext (z2G d fs))) x) /\
    (del (upd (upd (upd H x (.ext (ErrO x C none))) x (.ext (ErrO x C (some d)))) d (.ext (z2G d fs))) x) d = some (.ext (z2G d fs)) := by
  rw [z06 hd] at nd
  refine ⟨by rw [z06 (Ne.symm hd), z05], fun b o e => ?_, by rw [z53 hd, z05]⟩
  rw [z53 (z08 e nx), z06 (z08 e nd), z06 (z08 e nx), z06 (z08 e nx)]
  exact e
theorem z34 {H : Hp} {a d C : Addr} {fs : List (Str × V)} (na : H a = none) (hd : H d = some (.ext (z2G d fs))) : Same H (upd H a (.ext (z4v a C (some d)))) /\ ErrAt (upd H a (.ext (z4v a C (some d)))) a C fs :=
  ⟨Same.new na, .inr ⟨d, z08 hd na, .inr z05, by rw [z06 (z08 hd na)]; exact hd⟩⟩
section
variable {X : Cx} {pins : List (Addr × Obj)} {σ : St}
theorem z9g {H : Hp} {a : Addr} {o : HO} (h : H a = none) : del (upd H a o) a = H := by
  funext b
  unfold del
  split
  . rename_i e; rw [e, h]
  . rename_i e; exact z06 e
theorem z1g {x : Str} {C : Addr} {e : Expr} {es : List Expr} {t : TA} {p cp pos : Pos} {E : XK} (R : z4T X E) (hc : X.calm = true) (O : Oo X.K X.mg x C) (hg : Gl X x) (ha : PA X (e :: es) t)
    (hdb : (x == ("__debug__" : Str)) = false := by decide) (he : starEach (e :: es) X.env = (false, eval e X.env) :: starEach es X.env := by rfl) (hpl : (backTo cp (starEach es X.env)).any (·.1) = false := by rfl) :
    PS X (.Raise (some (.Call (.Name x p) (e :: es) [] cp)) none pos) (z9c C t E) := by
  intro pins s σ H D I h
  have h' : t σ H fun vs H1 => vs.length <= 1000 /\ E (.ref C) none H1 := h
  show wpAny (model X.prog X.w) X.A (do standAt pos; raiseStmt X.env (some (do let v <- eval (.Call (.Name x p) (e :: es) [] cp) X.env; standAt pos; pure v)) none) _ _ s
  refine wpAny_bind (wpAny_standAt (z20 (K := X.K) (I.ok.hd hc) (wpAny_bind ?_)))
  refine wpAny_Call_Name_kw (z1P I hg O.m ?_ hdb)
  refine PySem.W.callWith_K (h₀ := X.base) I.ok.mod.kin O.e.kp (thn (ha cp pins s σ H _ I h') fun us s1 ⟨vs, H1, I1, r, hz, q⟩ => ⟨I1.kIn, ?_⟩) he hpl
  have hf := I1.hok.fresh (Nat.le_succ s1.heap.objs.size)
  have hus : us.length <= sizeLine := by rw [<- r.length]; exact Nat.le_of_lt (z0D hz)
  have I2 := Inv.newErr (C := C) (us := us) I1
  refine z4w I1.kIn O.e.x O.e.fi (fun y => PySem.W.Looks.of_pure (F.excBase_ValueError.init.bind _)) hus ?_
  refine z6y (s := { s1 with heap := z8B s1.heap C us }) I2.kIn O.e.x z6z hus fun h' hk ho => ⟨rfl, wpAny_bind (wpAny_standAt (wpAny_pure ?_))⟩
  have J := I2.write (x := s1.heap.objs.size + 1) (e := s1.heap.objs.size + 1) (t' := s1.toks) (by rw [z05]; trivial) (.inl rfl) (fun b u hb z => hk b u hb z) (let ⟨o, _, z, _⟩ := ho; ⟨o, z⟩) (z2P ho)
  rw [z4G] at J
  refine ⟨s1.heap.objs.size + 1, C, none, rfl, J.kIn, O.e.x, ho, R _ _ _ _ _ _ _ J z05 (Nat.le_trans I1.sz (Nat.le_succ _)) ?_⟩
  rw [z9g hf]
  exact q
end
structure Om (P : Program) (w : World) (K : PySem.W.Frag) (mg : Str -> Option Value) (base : Heap) (CX : CXT) (C : Addr) (m : Str) (ps : List Str) (dvs : List V) (k : Nat) (sp : Sp) : Prop where
  ex : ∃ (f : Addr) (fd : FuncData) (ds : List Value), Cls K C /\ Meth K C m f /\ Binds K fd ps ds /\ Vals dvs ds /\ FnOk P w K mg base CX k f fd ps sp
structure Oc (P : Program) (w : World) (K : PySem.W.Frag) (mg : Str -> Option Value) (base : Heap) (CX : CXT) (x : Str) (C : Addr) (ps : List Str) (dvs : List V) (k : Nat) (sp : Sp) : Prop where
  ex : ∃ (f : Addr) (fd : FuncData) (ds : List Value), mg x = some (.ref C) /\ Mk K C f /\ Binds K fd ps ds /\ Vals dvs ds /\ FnOk P w K mg base CX k f fd ps sp
def zCy (C : Addr) (m : Str) (sp : Sp) (dvs : List V) (ta : TE) (t : TA) : TEx := fun σ H Q E => ta σ H fun x H1 => ∃ a dx fs, x = .ref a /\ H1 a = some (.ins C dx fs) /\ fs.lookup m = none /\ t σ H1 fun vs H2 => sp (x :: (vs ++ dvs)) H2 Q E
def zCz (C : Addr) (sp : Sp) (dvs : List V) (t : TA) : TEx := fun σ H Q E => t σ H fun vs H1 => ∀ x dx, H1 x = none -> H1 dx = none -> dx ≠ x ->
  sp (.ref x :: (vs ++ dvs)) (upd (upd H1 dx (.own x)) x (.ins C dx [])) (fun v H2 => v = .non /\ Q (.ref x) H2) E
section
variable {X : Cx} {CX : CXT} {k j : Nat} {C : Addr} {ps : List Str} {sp : Sp} {dvs : List V} {E : XK} {x m : Str} {p pos apos : Pos} {e o : Expr} {es : List Expr} {ta : TE} {t : TA}
theorem z8L {pl : Sem Bool} (O : Om X.prog X.w X.K X.mg X.base CX C m ps dvs k sp) (hr : Room j X.A) (hx : z1d CX X E) (he : PE X o ta) (ha : PA X (e :: es) t) (hk : k <= j := by decide)
    (hst : starEach (e :: es) X.env = (false, eval e X.env) :: starEach es X.env := by rfl) (hpl : (backTo pos (starEach es X.env)).any (·.1) = false := by rfl)
    (ht : eval (.Call (.Attribute o m apos) (e :: es) [] pos) X.env = (do
      let ov <- eval o X.env
      standAt apos.atName
      let (f, first) <- holding [ov] (getMethod ov m pl)
      callWith pos f first (backTo pos (starEach (e :: es) X.env)) (backToKw pos (keywordEach [] X.env))) := by rfl) :
    PE X (.Call (.Attribute o m apos) (e :: es) [] pos) (zAB C m sp dvs E ta t) := by
  obtain ⟨f, fd, ds, c, hm, hb, hd, F⟩ := O.ex
  exact z96 he c hm F (hr.mono hk) hb hd hx ha hst hpl ht
theorem zC1 (O : Oc X.prog X.w X.K X.mg X.base CX x C ps dvs k sp) (hr : Room j X.A) (hx : z1d CX X E) (hg : Gl X x) (ha : PA X (e :: es) t) (hk : k + 1 <= j := by decide)
    (hdb : (x == ("__debug__" : Str)) = false := by decide) (he : starEach (e :: es) X.env = (false, eval e X.env) :: starEach es X.env := by rfl) (hpl : (backTo pos (starEach es X.env)).any (·.1) = false := by rfl) :
    PE X (.Call (.Name x p) (e :: es) [] pos) (zAC C sp dvs E t) := by
  obtain ⟨f, fd, ds, m, M, hb, hd, F⟩ := O.ex
  exact z97 M F (hr.mono hk) hg m hb hd hx ha hdb he hpl
end
theorem FunD.ok2 {P : Program} {w : World} {K : PySem.W.Frag} {mg : Str -> Option Value} {base : Heap} {x qual : Str} {st : Stmt} {f T : Addr} {fd : FuncData} {N ps : List Str} {k : Nat} {sp : Sp} (F : FunD K x qual st f fd T) (S : FnScope N ps (z04 st)) (len : ∀ vs H Q E, sp vs H Q E -> vs.length = ps.length)
    (hbody : ∀ (cdv : Value) (A : Around) (outer : List Env) (s : Shared) (H : Hp) (vs : List V) (Q : VK) (E : XK), Room k (A.deeper (envOfC qual (z04 st) s.heap.objs.size f cdv)) -> sp vs H Q E ->
      ∃ t, PSs (z6M (CX2 P w) P w K mg base N qual (z04 st) f cdv A outer s H E) (z0C st) t /\ t { nx := fun _ H' => Q .non H', rt := Q } (start N vs) H) : FnOk P w K mg base (CX2 P w) (k + 1) f fd ps sp := by
  obtain ⟨oc, od, kV, doc, pm, an, cdv, ct, osl, rfl, lk, hcd⟩ := F.ex
  exact z7p lk hcd S len fun A outer s H vs Q E hr hsp => hbody cdv A outer s H vs Q E hr hsp
section
variable {X : Cx} {a : Addr}
theorem z3P {e : Expr} {te : TE} {f : Str} {pos : Pos} (he : PE (X2h X a) e te) (hb : attributeBase e f (X2h X a).env (eval e (X2h X a).env) = eval e (X2h X a).env) : PE (X2h X a) (.Attribute e f pos) (zAb X.K te f) := z9W he hb
theorem z1k : CallR (X2h X a) (.builtin "isinstance") (fun xs H Q => ∃ x C fs y u b, xs = [.ref x, y] /\ ErrAt H x C fs /\ XE X.K C /\ zBu y = some u /\ PySem.W.kitOne X.K (.ref C) u = some b /\ Q (.bl b) H) := z70
end
end L2
namespace L2
open PySem PySem.Spec PyProof.Rows G
theorem z1K {H H' : Hp} (s : Same H H') {x : V} {T : String} (h : tyS H x = some T) : tyS H' x = some T := by
  cases x with
  | ref a =>
    simp only [tyS] at h ⊢
    split at h
    . rename_i e; rw [s _ _ e]; exact h
    . rename_i e; rw [s _ _ e]; exact h
    . rename_i e; rw [s _ _ e]; exact h
    . rename_i e; rw [s _ _ e]; exact h
    . rename_i e; rw [s _ _ e]; exact h
    . cases h
  | _ => exact h
def Ty (H : Hp) (x : V) : Prop := ∃ T, tyS H x = some T
theorem Ty.mono {H H' : Hp} {x : V} (s : Same H H') (h : Ty H x) : Ty H' x := by
  obtain ⟨T, h⟩ := h
  exact ⟨T, z1K s h⟩
def zC2 (x : V) : Int := match x with
  | .int i => i
  | _ => 0
def zC3 (x : V) : Bool := match x with
  | .int i => decide (0 <= i)
  | _ => false
def z4U (w : Nat) (P M : V) : Bool := match P, M with
  | .int p, .int m => decide (0 <= p) && (decide (0 <= m) && z2o w p m)
  | _, _ => false
def View (H : Hp) (c : V) : Option (List V) -> Prop
  | none => ∃ T, tyS H c = some T /\ (T == "tuple") = false
  | some xs => ∃ q, c = .ref q /\ H q = some (.tup xs) /\ xs.length <= 100 /\ ∀ x ∈ xs, Ty H x
theorem View.mono {H H' : Hp} {c : V} {cv : Option (List V)} (s : Same H H') (h : View H c cv) : View H' c cv := by
  cases cv with
  | none =>
    obtain ⟨T, h1, h2⟩ := h
    exact ⟨T, z1K s h1, h2⟩
  | some xs =>
    obtain ⟨q, h1, h2, h3, h4⟩ := h
    exact ⟨q, h1, s _ _ h2, h3, fun x hx => (h4 x hx).mono s⟩
theorem View.ty {H : Hp} {c : V} {cv : Option (List V)} (h : View H c cv) : ∃ T, tyS H c = some T /\ (T == "tuple") = cv.isSome := by
  cases cv with
  | none => exact h
  | some xs =>
    obtain ⟨q, rfl, h2, _⟩ := h
    exact ⟨"tuple", by simp only [tyS, h2], rfl⟩
def z2r (a b : V) (cv dv : Option (List V)) : Bool := inB a 1 64 && (inB b 1 64 && match cv, dv with
  | some ps, some ms => decide ((ps.length : Int) = zC2 b) && decide ((ms.length : Int) = zC2 b)
  | _, _ => false)
def z5e (a b : V) (cv dv : Option (List V)) : Bool := z2r a b cv dv && match cv, dv with
  | some ps, some ms => (ps.zip ms).all fun z => z4U (zC2 a).toNat z.1 z.2
  | _, _ => false
inductive IsP (H : Hp) (x : V) : Bool -> Prop
  | no (T : String) : tyS H x = some T -> (T == "tuple") = false -> IsP H x false
  | few (p : Addr) (xs : List V) : x = .ref p -> H p = some (.tup xs) -> xs.length ≠ 4 -> IsP H x false
  | four (p : Addr) (a b c d : V) (cv dv : Option (List V)) : x = .ref p -> H p = some (.tup [a, b, c, d]) -> Ty H a -> Ty H b -> View H c cv -> View H d dv -> IsP H x (z5e a b cv dv)
theorem IsP.mono {H H' : Hp} {x : V} {k : Bool} (s : Same H H') (h : IsP H x k) : IsP H' x k := by
  cases h with
  | no T h1 h2 => exact .no T (z1K s h1) h2
  | few p xs h1 h2 h3 => exact .few p xs h1 (s _ _ h2) h3
  | four p a b c d cv dv h1 h2 h3 h4 h5 h6 => exact .four p a b c d cv dv h1 (s _ _ h2) (h3.mono s) (h4.mono s) (h5.mono s) (h6.mono s)
theorem z4V {x : V} {a b : Int} (h : inB x a b = true) : ∃ i, x = .int i /\ a <= i /\ i <= b := by
  cases x with
  | int i =>
    simp only [inB, Bool.and_eq_true, decide_eq_true_eq] at h
    exact ⟨i, rfl, h.1, h.2⟩
  | _ => exact absurd (show false = true from h) Bool.false_ne_true
theorem z9h : ∀ T ∈ z8j, z5U T "tuple" = (T == "tuple") := by decide
theorem z3Q {H : Hp} {x : V} {T : String} (h : tyS H x = some T) : z5U T "tuple" = (T == "tuple") := z9h T (z3K h)
theorem z78 {w : Nat} {P M : V} (h : zC3 P = false) : z4U w P M = false := by
  cases P with
  | int p =>
    cases M with
    | int m =>
      show (decide (0 <= p) && _) = false
      rw [show decide (0 <= p) = false from h, Bool.false_and]
    | _ => rfl
  | _ => rfl
theorem z79 {w : Nat} {P M : V} (h : zC3 M = false) : z4U w P M = false := by
  cases P with
  | int p =>
    cases M with
    | int m =>
      show (decide (0 <= p) && (decide (0 <= m) && _)) = false
      rw [show decide (0 <= m) = false from h, Bool.false_and, Bool.and_false]
    | _ => rfl
  | _ => rfl
def zB5 (w : Nat) (ns ms : List Int) : List (List (Option Int)) := (ns.zip ms).map fun z => z4N w z.1 z.2
theorem z35 : ∀ {r : List (Option Int)}, Cells r -> z2o r.length (z0M r) (z0Y r) = true
  | [], _ => rfl
  | c :: r, h => by
    have ih := z35 (r := r) fun x hx => h x (List.mem_cons_of_mem _ hx)
    have hc := h c (List.mem_cons_self ..)
    show ((decide (((if c.isSome = true then 1 else 0) + 2 * z0Y r) % 2 = 1) || decide ((c.getD 0 + 16 * z0M r) % 16 = 0)) && z2o r.length ((c.getD 0 + 16 * z0M r) / 16) (((if c.isSome = true then 1 else 0) + 2 * z0Y r) / 2)) = true
    cases c with
    | none =>
      have e1 : ((none : Option Int).getD 0 + 16 * z0M r) / 16 = z0M r := by show (0 + 16 * z0M r) / 16 = _; omega
      have e2 : ((if (none : Option Int).isSome = true then (1 : Int) else 0) + 2 * z0Y r) / 2 = z0Y r := by rw [if_neg (by simp)]; omega
      have e3 : ((none : Option Int).getD 0 + 16 * z0M r) % 16 = 0 := by show (0 + 16 * z0M r) % 16 = _; omega
      rw [e1, e2, ih, decide_eq_true e3, Bool.or_true]
      rfl
    | some z =>
      obtain ⟨z0, z1⟩ := hc z rfl
      have e1 : ((some z : Option Int).getD 0 + 16 * z0M r) / 16 = z0M r := by show (z + 16 * z0M r) / 16 = _; omega
      have e2 : ((if (some z : Option Int).isSome = true then (1 : Int) else 0) + 2 * z0Y r) / 2 = z0Y r := by rw [if_pos (show (some z).isSome = true from rfl)]; omega
      have e3 : ((if (some z : Option Int).isSome = true then (1 : Int) else 0) + 2 * z0Y r) % 2 = 1 := by rw [if_pos (show (some z).isSome = true from rfl)]; omega
      rw [e1, e2, ih, decide_eq_true e3, Bool.true_or]
      rfl
theorem z54 {w : Nat} : ∀ {rows : List (List (Option Int))}, (∀ r ∈ rows, r.length = w /\ Cells r) -> (((rows.map z0M).map V.int).zip ((rows.map z0Y).map V.int)).all (fun z => z4U w z.1 z.2) = true
  | [], _ => rfl
  | r :: rows, h => by
    have ih := z54 (w := w) (rows := rows) fun x hx => h x (List.mem_cons_of_mem _ hx)
    obtain ⟨hw, hc⟩ := h r (List.mem_cons_self ..)
    have hp := z4s hc
    have hm := z6k r
    have ho := z35 hc
    rw [hw] at ho
    show ((decide (0 <= z0M r) && (decide (0 <= z0Y r) && z2o w (z0M r) (z0Y r))) && (((rows.map z0M).map V.int).zip ((rows.map z0Y).map V.int)).all (fun z => z4U w z.1 z.2)) = true
    rw [ih, ho, decide_eq_true hp.1, decide_eq_true hm.1]
    rfl
theorem View.ints {H : Hp} {q : Addr} {ns : List Int} (h : H q = some (.tup (ns.map V.int))) (hn : ns.length <= 100) : View H (.ref q) (some (ns.map V.int)) :=
  ⟨q, rfl, h, by rw [List.length_map]; exact hn, fun x hx => by
    obtain ⟨n, _, rfl⟩ := List.mem_map.mp hx
    exact ⟨"int", rfl⟩⟩
theorem PicAt.isP {H : Hp} {p : Addr} {w h : Nat} {rows : List (List (Option Int))} (R : Rect w h rows) (P : PicAt H p w rows) : IsP H (.ref p) true := by
  obtain ⟨pp, pm, h1, h2, h3⟩ := P
  have hl := R.len
  have hh := R.h2
  have k1 := R.h1
  have w1 := R.w1
  have w2 := R.w2
  have q := IsP.four p _ _ _ _ _ _ rfl h1 ⟨"int", rfl⟩ ⟨"int", rfl⟩ (View.ints (ns := rows.map z0M) h2 (by rw [List.length_map]; omega)) (View.ints (ns := rows.map z0Y) h3 (by rw [List.length_map]; omega))
  have e : z5e (.int (w : Int)) (.int (rows.length : Int)) (some ((rows.map z0M).map V.int)) (some ((rows.map z0Y).map V.int)) = true := by
    show ((decide ((1 : Int) <= (w : Int)) && decide ((w : Int) <= 64)) && ((decide ((1 : Int) <= (rows.length : Int)) && decide ((rows.length : Int) <= 64)) && (decide ((((rows.map z0M).map V.int).length : Int) = (rows.length : Int)) && decide ((((rows.map z0Y).map V.int).length : Int) = (rows.length : Int))))
      && (((rows.map z0M).map V.int).zip ((rows.map z0Y).map V.int)).all (fun z => z4U ((w : Int)).toNat z.1 z.2)) = true
    have e0 : ((w : Int)).toNat = w := by omega
    rw [e0, z54 R.row, List.length_map, List.length_map, List.length_map, List.length_map, decide_eq_true (by omega), decide_eq_true (by omega), decide_eq_true (by omega), decide_eq_true (by omega), decide_eq_true rfl]
    rfl
  rw [e] at q
  exact q
def z8v : Sp := fun vs H Q _ => ∃ (w : Int) (P M : V), vs = [.int w, P, M] /\ 1 <= w /\ w <= 64 /\ Ty H P /\ Ty H M /\ Q (.bl (z4U w.toNat P M)) H
def z8w : Sp := fun vs H Q _ => ∃ x, vs = [x] /\ ((∃ T, tyS H x = some T /\ (T == "tuple") = false /\ Q (.bl false) H) \/ (∃ p xs, x = .ref p /\ H p = some (.tup xs) /\ xs.length ≠ 4 /\ Q (.bl false) H) \/
  ∃ p a b c d cv dv, x = .ref p /\ H p = some (.tup [a, b, c, d]) /\ Ty H a /\ Ty H b /\ View H c cv /\ View H d dv /\ Q (.bl (z2r a b cv dv)) H)
def zAf : Sp := fun vs H Q _ => ∃ x k, vs = [x] /\ IsP H x k /\ ∀ H', Same H H' -> Q (.bl k) H'
def zB6 : Sp := fun vs H Q _ => ∃ c m cv, vs = [c, .int m] /\ View H c cv /\ ∀ H', Same H H' -> Q (.bl (match cv with | some xs => decide ((xs.length : Int) = m) && xs.all zC3 | none => false)) H'
def zD0 : Sp := fun vs H Q _ => ∃ p m w : Int, vs = [.int p, .int m, .int w] /\ 1 <= w /\ w <= 64 /\ ∀ l, H l = none -> ∀ H', Same H H' -> H' l = some (.lst ((z4N w.toNat p m).map z0r)) -> Q (.ref l) H'
def zD1 : Sp := fun vs H Q _ => ∃ (a : Addr) (xs : List V) (i : Int) (x : V), vs = [.ref a, .int i, x] /\ H a = some (.tup xs) /\ 0 <= i /\ i < xs.length /\ xs.length <= 100 /\ ∀ p H', Same H H' -> H' p = some (.tup (xs.set i.toNat x)) -> Q (.ref p) H'
def zD2 (K : PySem.W.Frag) : Sp := fun vs H Q _ => ∃ (a : Addr) (ns : List Int) (k w z : Int), vs = [.ref a, .int k, .int w, .int z] /\ SqL K H a (ns.map V.int) /\ 0 <= k /\ k < 10000 /\ 1 <= w /\ w <= 256 /\ ∀ x H', Same H H' -> Ty H' x -> Q x H'
def zC4 (K : PySem.W.Frag) : Sp := fun vs H Q _ => ∃ (a : Addr) (ns : List Int) (k : Int) (p : Addr) (w h : Nat) (rows : List (List (Option Int))), vs = [.ref a, .int k, .ref p] /\ SqL K H a (ns.map V.int) /\ 0 <= k /\ k < 9000 /\ PicAt H p w rows /\ Rect w h rows /\ ∀ x kk H', Same H H' -> IsP H' x kk -> Q x H'
def Its (z : Str) : It := ⟨fun i _ => i < z.cps.size, fun i H x H' => H' = H /\ ∃ c, z.cps[i]? = some c /\ x = .str ⟨#[c]⟩, fun i _ => z.cps.size <= i⟩
theorem z21 (z : Str) : (z.cps.all (· < 128) = true /\ strIterType z = "str_ascii_iterator") \/ (z.cps.all (· < 128) = false /\ strIterType z = "str_iterator") := by
  unfold strIterType
  cases z.cps.all (· < 128) with
  | true => exact .inl ⟨rfl, rfl⟩
  | false => exact .inr ⟨rfl, rfl⟩
theorem z5f (z : Str) : ["enumerate", "zip", "dict_itemiterator", "dict_reverseitemiterator", "odict_iterator", "itertools.zip_longest", "itertools.pairwise"].contains (strIterType z) = false := by
  rcases z21 z with ⟨_, e⟩ | ⟨_, e⟩ <;> rw [e] <;> decide
section
variable {prog : Program} {w : World} {A : Around} {E : Value -> Shared -> Prop} {s : Shared}
theorem z5g {it : Addr} {z : Str} {t : Tok} {i c : Nat} {Q : Option Value -> Shared -> Prop} (hit : s.heap.IsStrIter it (strIterType z) z t i) (hx : z.cps[i]? = some c)
    (k : ∀ h', h'.IsStrIter it (strIterType z) z t (i + 1) -> Heap.SameBut it s.heap h' -> Q (some (.str ⟨#[c]⟩ s.toks)) { s with heap := h', toks := s.toks + 1 }) : wpAny (model prog w) A (pyNext (.ref it)) Q E s := by
  rcases z21 z with ⟨_, e⟩ | ⟨_, e⟩
  . rw [e] at hit k
    exact wpAny_pyNext_ascii_item hit hx k
  . rw [e] at hit k
    exact wpAny_pyNext_wide_item hit hx k
theorem z7A {it : Addr} {z : Str} {t : Tok} {i : Nat} {Q : Option Value -> Shared -> Prop} (hh : A.handled = none) (hit : s.heap.IsStrIter it (strIterType z) z t i) (hx : z.cps[i]? = none)
    (k : ∀ h', Heap.ExtBut it s.heap h' -> Q none { s with heap := h' }) : wpAny (model prog w) A (pyNext (.ref it)) Q E s := by
  rcases z21 z with ⟨_, e⟩ | ⟨_, e⟩
  . rw [e] at hit
    exact wpAny_pyNext_ascii_end hh hit hx k
  . rw [e] at hit
    exact wpAny_pyNext_wide_end hh hit hx k
theorem z5h {it : Addr} {z : Str} {t : Tok} {i : Nat} {Q : Value -> Shared -> Prop} (hit : s.heap.IsStrIter it (strIterType z) z t i) (h : Q (.ref it) s) : wpAny (model prog w) A (pyIter (.ref it)) Q E s := by
  rcases z21 z with ⟨_, e⟩ | ⟨_, e⟩
  . rw [e] at hit
    exact wpAny_pyIter_striter_ascii hit h
  . rw [e] at hit
    exact wpAny_pyIter_striter_wide hit h
end
theorem z3u {prog : Program} {w : World} {A : Around} (hh : A.handled = none) (it : Addr) (z : Str) (t : Tok) :
    Draws prog w A it [it] z.cps.size (fun i v => ∃ c u, z.cps[i]? = some c /\ v = .str ⟨#[c]⟩ u) (fun i h => h.IsStrIter it (strIterType z) z t i) := by
  rcases z21 z with ⟨_, e⟩ | ⟨_, e⟩
  . rw [e]
    exact Draws.strAscii hh it z t
  . rw [e]
    exact Draws.strWide hh it z t
theorem z29 {h h' : Heap} {it : Addr} {ty : String} {z : Str} {t : Tok} {i : Nat} (x : h.IsStrIter it ty z t i) (k : ∀ o, h.get? it = some o -> h'.get? it = some o) : h'.IsStrIter it ty z t i := let ⟨o, e, r⟩ := x; ⟨o, k o e, r⟩
theorem z8M {P : Program} {w : World} {K : PySem.W.Frag} {tg : Expr} (it : Addr) (z : Str) (t : Tok) : Turn P w K tg (Its z) [it] it (fun i h => h.IsStrIter it (strIterType z) z t i) where
  mem := by simp
  obj := fun i h st b hb => by
    have e : b = it := by simpa using hb
    subst e
    obtain ⟨o, e, c, d⟩ := st
    exact ⟨o, e, fun v q => by rw [d] at q; cases q⟩
  keep := fun i h h' st k => z29 st fun o e => k it (by simp) o e
  item := by
    intro X hP hw hK hc i pins s σ H E I hf st hg
    subst hP hw hK
    have hg' : i < z.cps.size := hg
    have hx : z.cps[i]? = some z.cps[i] := by simp [hg']
    obtain ⟨f0, f1, f2, f3, f4, f5⟩ := hf it (by simp)
    refine z5g st hx fun h' st' sb => ?_
    have I1 : Inv X pins σ H { s with heap := h', toks := s.toks + 1 } := I.turned (t' := s.toks + 1) (fun b o hb e => (sb.2 b hb).trans e) f0 f1 f3 f4 f5
    obtain ⟨o, e, c, d⟩ := id st'
    exact ⟨_, rfl, z5I (s := { s with heap := h', toks := s.toks + 1 }) e c d (z5f z) ⟨.str ⟨#[z.cps[i]]⟩, H, I1, ⟨_, rfl⟩, ⟨rfl, _, hx, rfl⟩, st', fun b hb => (hf b hb).1⟩⟩
  done := by
    intro X hP hw hK hc i pins s σ H E I hf st hg
    subst hP hw hK
    have hg' : z.cps.size <= i := hg
    obtain ⟨f0, f1, f2, f3, f4, f5⟩ := hf it (by simp)
    exact z7A (I.ok.hd hc) st (by simp [hg']) fun h' eb => ⟨rfl, I.turned (t' := s.toks) (fun b o hb e => eb b o hb e) f0 f1 f3 f4 f5⟩
  self := fun _ _ _ _ _ st h => z5h st h
def zAg (z : Str) : It :=
  ⟨fun i _ => i < z.cps.size, fun i H x H' => ∃ T c, H T = none /\ x = .ref T /\ H' = upd H T (.tup [.int i, .str ⟨#[c]⟩]) /\ z.cps[i]? = some c, fun i _ => i = z.cps.size⟩
theorem z5i {P : Program} {w : World} {K : PySem.W.Frag} {es : List Expr} {k : Nat} {pos : Pos} (e it : Addr) (z : Str) (t : Tok) (hei : e ≠ it) :
    Turn P w K (.Tuple es k pos) (zAg z) [e, it] e (fun i h => (∃ old, IsEnum h e it (i : Nat) old) /\ h.IsStrIter it (strIterType z) z t i) where
  mem := List.mem_cons_self
  obj := fun i h st b hb => by
    obtain ⟨⟨old, he⟩, o, hi, hc, hd⟩ := st
    rcases List.mem_cons.mp hb with rfl | hb
    . exact ⟨_, he, fun v z => by cases z⟩
    . rw [List.mem_singleton.mp hb]
      exact ⟨o, hi, fun v z => by rw [hd] at z; cases z⟩
  keep := fun i h h' st k => ⟨let ⟨old, he⟩ := st.1; ⟨old, k e List.mem_cons_self _ he⟩, z29 st.2 fun o q => k it (List.mem_cons_of_mem _ List.mem_cons_self) o q⟩
  item := by
    intro X hP hw hK hc i pins s σ H E I hf st hg
    subst hP hw hK
    have hg' : i < z.cps.size := hg
    obtain ⟨⟨old, he⟩, hit⟩ := st
    obtain ⟨f0, f1, f2, f3, f4, f5⟩ := hf e List.mem_cons_self
    obtain ⟨g0, g1, g2, g3, g4, g5⟩ := hf it (List.mem_cons_of_mem _ List.mem_cons_self)
    have hh : X.A.in1.handled = none := I.ok.hd hc
    refine wpAny_pyNext_enum_itemD (z3u hh it z t) he hit hg' hei (by simp [hei]) fun x h' tk hP ho hit' hT hsz hk => ?_
    obtain ⟨c, u, hx, rfl⟩ := hP
    refine ⟨.ref s.heap.objs.size, rfl, wpAny_letOwnedTupleGo_enum ho fun h'' he'' sb => ?_⟩
    have nT : H s.heap.objs.size = none := I.hok.fresh (Nat.le_refl _)
    have kk : ∀ b o, b ≠ e -> b ≠ it -> s.heap.get? b = some o -> h''.get? b = some o := fun b o b1 b2 q => (sb.2 b b1).trans (hk b o b1 b2 q)
    have hTe : s.heap.objs.size ≠ e := Nat.ne_of_gt (Heap.lt_size he)
    have nb : ∀ b u, H b = some u -> b ≠ e /\ b ≠ it := fun b u q => ⟨fun y => (by rw [y, f0] at q; cases q), fun y => (by rw [y, g0] at q; cases q)⟩
    have gT : h''.get? s.heap.objs.size = some { cls := .type "tuple", data := .seq #[.int i tk, .str ⟨#[c]⟩ u] } := (sb.2 _ hTe).trans hT
    have I1 : Inv X pins σ (upd H s.heap.objs.size (.tup [.int i, .str ⟨#[c]⟩])) { s with heap := h'', toks := tk + 1 } := by
      refine I.step (g' := s.gens) (d' := s.drawn) (ch := [e, it]) (fun b hb => ?_) (fun b o _ _ hb q _ => kk b o (fun y => hb (by simp [y])) (fun y => hb (by simp [y])) q) (fun b o _ _ hb q _ => ⟨o.slots, kk b o (fun y => hb (by simp [y])) (fun y => hb (by simp [y])) q⟩) (fun b o _ q n => ?_)
        (fun b o hb q => ⟨o, kk b o (fun y => hb (by simp [y])) (fun y => hb (by simp [y])) q⟩) (fun b ys q => ?_) (fun b ob y q => ?_) (fun b ps q => ⟨#[], ?_⟩) (fun m hm => ?_) (fun b y q => ?_) I.bare
      . rcases List.mem_cons.mp hb with rfl | hb
        . exact ⟨f3, f1, f4, f5⟩
        . rw [List.mem_singleton.mp hb]
          exact ⟨g3, g1, g4, g5⟩
      . rw [z06 (Nat.ne_of_lt (Heap.lt_size q))]
        exact n
      . rw [z06 (z08 q nT)]
        exact q
      . rw [z06 (z08 q nT)]
        exact q
      . rw [z06 (z08 q nT), q]
        simp
      . obtain ⟨o, es', ep, ho', r⟩ := hm
        exact ⟨o, es', ep, kk _ o (Ne.symm f1) (Ne.symm g1) ho', r⟩
      . by_cases hb : b = s.heap.objs.size
        . subst hb
          rw [z05] at q
          cases q
          exact ⟨by show 2 <= sizeLine; decide, [.int i tk, .str ⟨#[c]⟩ u], .cons ⟨_, rfl⟩ (.cons ⟨_, rfl⟩ .nil), _, gT, rfl, _, rfl⟩
        . rw [z06 hb] at q
          refine (I.hok b y q).stay (fun c v hc' r => ?_) (fun c r => by rw [z06 (z08 r nT)]; exact r) fun c ys r => by rw [z06 (z08 r nT)]; exact r
          rcases hc' with z' | z'
          . subst z'
            exact kk c v (nb c y q).1 (nb c y q).2 r
          . exact kk c v (nb c _ z').1 (nb c _ z').2 r
    refine ⟨.ref s.heap.objs.size, _, I1, rfl, ⟨_, c, nT, rfl, rfl, hx⟩, ⟨⟨_, by simpa using he''⟩, z29 hit' fun o q => (sb.2 it (Ne.symm hei)).trans q⟩, fun b hb => ?_⟩
    have hn := (hf b hb).1
    have lt : b < s.heap.objs.size := by
      rcases List.mem_cons.mp hb with rfl | hb
      . exact Heap.lt_size he
      . rw [List.mem_singleton.mp hb]
        obtain ⟨o, q, _⟩ := hit
        exact Heap.lt_size q
    rw [z06 (Nat.ne_of_lt lt)]
    exact hn
  done := by
    intro X hP hw hK hc i pins s σ H E I hf st hg
    subst hP hw hK
    have hg' : i = z.cps.size := hg
    subst hg'
    obtain ⟨⟨old, he⟩, hit⟩ := st
    obtain ⟨g0, g1, g2, g3, g4, g5⟩ := hf it (List.mem_cons_of_mem _ List.mem_cons_self)
    have hh : X.A.in1.handled = none := I.ok.hd hc
    exact wpAny_pyNext_enum_endD (z3u hh it z t) he hit fun h' eb => ⟨rfl, I.turned (t' := s.toks) (fun b o hb q => eb b o hb q) g0 g1 g3 g4 g5⟩
  self := fun _ _ _ _ _ st h => let ⟨_, he⟩ := st.1; wpAny_pyIter_enum he h
section
variable {X : Cx} {tg : Expr}
def zDs (tl : TE) : TI := fun σ H R => tl σ H fun x H1 => ∃ z, x = .str z /\ R (Its z) H1
theorem zAh {l : Expr} {tl : TE} (hl : PE X l tl) : PI X tg l (zDs tl) := by
  intro pins s σ H R I h
  refine thn (hl pins s σ H _ I h) fun v s1 ⟨x, H1, I1, r1, q1⟩ => ?_
  obtain ⟨z, e, q⟩ := q1
  subst e
  obtain ⟨t, rfl⟩ := r1
  refine wpAny_pyIter_strU ?_
  refine ⟨s1.heap.objs.size, [s1.heap.objs.size], _, _, H1, rfl, I1.kept (t' := s1.toks) fun b o e => Heap.get?_push_of_some _ e, z8M _ z t, ⟨_, Heap.get?_push_size _ rfl, rfl, rfl⟩, fun b hb => ?_, q⟩
  have e : b = s1.heap.objs.size := by simpa using hb
  subst e
  exact I1.fpOk (Nat.le_refl _) (I1.hok.fresh (Nat.le_refl _))
def zAi (ta : TA) : TI := fun σ H R => ta σ H fun vs H1 => ∃ z, vs = [.str z] /\ R (zAg z) H1
theorem z8N {l : Expr} {ta : TA} {p pos : Pos} {es : List Expr} {k : Nat} {tp : Pos} (hg : Gl X "enumerate") (hm : X.mg "enumerate" = none) (ha : PA X [l] ta) (hs : starEach [l] X.env = [(false, eval l X.env)] := by rfl) :
    PI X (.Tuple es k tp) (.Call (.Name "enumerate" p) [l] [] pos) (zAi ta) := by
  intro pins s σ H R I h
  refine Call_ (z1u I hg hm boot_enumerate (PyProof.Rows.callWith_type1 (thn (ha pos pins s σ H _ I h) fun us s1 ⟨vs, H1, I1, r1, q1⟩ => ?_) hs rfl))
  obtain ⟨z, e, q⟩ := q1
  subst e
  obtain ⟨u, rfl, ru⟩ := vals1 r1
  obtain ⟨t, rfl⟩ := (show ∃ t, u = Value.str z t from ru)
  refine call_enumerate_str fun h' he hit hsz hk => ?_
  refine wpAny_pyIter_enum (s := { s1 with heap := h' }) he ?_
  have n1 : H1 s1.heap.objs.size = none := I1.hok.fresh (Nat.le_refl _)
  have n2 : H1 (s1.heap.objs.size + 1) = none := I1.hok.fresh (Nat.le_succ _)
  refine ⟨s1.heap.objs.size + 1, [s1.heap.objs.size + 1, s1.heap.objs.size], _, _, H1, rfl, I1.kept (t' := s1.toks) hk, z5i _ _ z t (Nat.succ_ne_self _), ⟨⟨_, by simpa using he⟩, hit⟩, fun b hb => ?_, q⟩
  rcases List.mem_cons.mp hb with rfl | hb
  . exact I1.fpOk (Nat.le_succ _) n2
  . rw [List.mem_singleton.mp hb]
    exact I1.fpOk (Nat.le_refl _) n1
end
section
variable {X : Cx} {pins : List (Addr × Obj)} {σ : St} {H : Hp} {s : Shared} {a : Addr} {ob : Obj} {kvs : List (Key × V)}
theorem z8x {P : Program} {w : World} {h : Heap} {u u' : HO} (ok : HOk P w H h) (e : H a = some u') (n1 : ∀ y, u' ≠ .own y) (n2 : ∀ xs, u' ≠ .tup xs) (new : ∀ H', (∀ b y, H b = some (.own y) -> H' b = some (.own y)) -> (∀ b xs, H b = some (.tup xs) -> H' b = some (.tup xs)) -> ObjOk P w H' h a u) : HOk P w (upd H a u) h := fun b v q => by
  have o1 : ∀ b y, H b = some (.own y) -> (upd H a u) b = some (.own y) := fun b y z => by
    rw [z06 fun k => ?_]
    . exact z
    . subst k
      rw [e] at z
      exact n1 y (Option.some.inj z)
  have o2 : ∀ b xs, H b = some (.tup xs) -> (upd H a u) b = some (.tup xs) := fun b y z => by
    rw [z06 fun k => ?_]
    . exact z
    . subst k
      rw [e] at z
      exact n2 y (Option.some.inj z)
  by_cases hb : b = a
  . subst hb
    rw [z05] at q
    cases q
    exact new _ o1 o2
  . rw [z06 hb] at q
    exact (ok b v q).stay (fun _ _ _ z => z) (fun c z => o1 c b z) o2
theorem Inv.freeze (I : Inv X pins σ H s) (e : H a = some (.dK kvs)) (ho : s.heap.get? a = some ob) : Inv X pins σ (upd H a (.frz ob (.dK kvs))) s := by
  refine I.un (t' := s.toks) (h' := s.heap) ⟨fun b o q _ _ _ => q, fun b o q _ _ _ => ⟨o.slots, q⟩, fun b o _ n _ => ?_, fun b o q _ => ⟨o, q⟩, fun b xs q => ?_, fun b o u q => ?_, fun b ps q => ⟨#[], ?_⟩⟩ ?_
  . rw [z06 fun z => by subst z; rw [e] at n; cases n]
    exact n
  . rw [z06 (z1H q e fun z => nomatch z)]
    exact q
  . rw [z06 (z1H q e fun z => nomatch z)]
    exact q
  . rw [z06 (z1H q e fun z => nomatch z), q]
    simp
  . exact z8x I.hok e (fun _ z => nomatch z) (fun _ z => nomatch z) fun H' k1 k2 => ⟨ho, (I.hok a _ e).stay (fun _ _ _ z => z) (fun c z => k1 c a z) k2⟩
theorem Inv.thaw (I : Inv X pins σ H s) (e : H a = some (.frz ob (.dK kvs))) (h0 : ∀ o u, X.H₀ a ≠ some (.frz o u)) : Inv X pins σ (upd H a (.dK kvs)) s := by
  have ne : ∀ {b : Addr}, H b = none -> b ≠ a := fun {b} n z => by subst z; rw [e] at n; cases n
  refine { I with base := { I.base with free := fun b o q n hx => ?_, tups := fun b xs q => ?_, frzs := fun b o u q => ?_, tbls := fun b ps q => ?_ }, free := ?_, freeC := fun x c q => ?_, pin := fun p hp => ?_, hok := ?_ }
  . have := I.base.free b o q n hx
    rw [z06 (ne this)]
    exact this
  . have := I.base.tups b xs q
    rw [z06 (z1H this e fun z => nomatch z)]
    exact this
  . have := I.base.frzs b o u q
    rw [z06 fun z => by subst z; exact h0 o u q]
    exact this
  . obtain ⟨m, r⟩ := I.base.tbls b ps q
    exact ⟨m, by rw [z06 (z1H r e fun z => nomatch z)]; exact r⟩
  . rw [z06 (ne I.free)]
    exact I.free
  . rw [z06 (ne (I.freeC x c q))]
    exact I.freeC x c q
  . obtain ⟨q1, q2, q3⟩ := I.pin p hp
    exact ⟨q1, by rw [z06 (ne q2)]; exact q2, q3⟩
  . exact z8x I.hok e (fun _ z => nomatch z) (fun _ z => nomatch z) fun H' k1 k2 => (I.hok a _ e).2.stay (fun _ _ _ z => z) (fun c z => k1 c a z) k2
def zC5 (t : TE) : TE := fun σ H Q => ∃ a kvs, H a = some (.dK kvs) /\ t σ H fun v H' => ∃ ob, H' a = some (.frz ob (.dK kvs)) /\ Q v (upd H' a (.dK kvs))
theorem z7B {e : Expr} {t : TE} (h : PE X e t) : PE X e (zC5 t) := by
  intro pins s σ H Q I ⟨a, kvs, ha, q⟩
  have h0 : ∀ o u, X.H₀ a ≠ some (.frz o u) := fun o u z => by
    have := I.base.frzs a o u z
    rw [ha] at this
    cases this
  refine thn (h pins s σ H _ I q) fun v s1 ⟨x, H1, I1, r1, ob, e1, q1⟩ => ⟨x, _, I1.thaw e1 h0, r1, q1⟩
end
def zD3 (a : Addr) (ob : Obj) (kvs : List (Key × V)) : It :=
  ⟨fun i H => H a = some (.frz ob (.dK kvs)) /\ i < kvs.length, fun i H x H' => H' = H /\ ∃ k, kvs[i]? = some (k, x), fun i H => H a = some (.frz ob (.dK kvs)) /\ kvs.length <= i⟩
theorem z7C {κ : Type} : ∀ {kvs : List (κ × V)} {vs : List (κ × Value)} {i : Nat} {k : κ} {x : V}, KV kvs vs -> kvs[i]? = some (k, x) -> ∃ u, vs[i]? = some (k, u) /\ RelV x u
  | _, _, _, _, _, .nil, e => by simp at e
  | (k', x') :: _, (k2, u) :: _, 0, k, x, .cons r _, e => by
    simp at e
    obtain ⟨rfl, rfl⟩ := e
    have r1 : k' = k2 := r.1
    subst r1
    exact ⟨u, rfl, r.2⟩
  | _ :: _, _ :: _, i + 1, k, x, .cons _ t, e => by
    have := z7C (i := i) t (by simpa using e)
    simpa using this
theorem z7D {P : Program} {w : World} {K : PySem.W.Frag} {tg : Expr} (it a : Addr) (ob : Obj) (kvs : List (Key × V)) (hia : it ≠ a) :
    Turn P w K tg (zD3 a ob kvs) [it] it (fun i h => ∃ es ep, ob.data = .dict es ep /\ h.IsValIter it a i kvs.length ep) where
  mem := by simp
  obj := fun i h st b hb => by
    have e : b = it := by simpa using hb
    subst e
    obtain ⟨_, _, _, o, e, c, d⟩ := st
    exact ⟨o, e, fun v q => by rw [d] at q; cases q⟩
  keep := fun i h h' st k => let ⟨es, ep, d, q⟩ := st; ⟨es, ep, d, q.at fun o e => k it (by simp) o e⟩
  item := by
    intro X hP hw hK hc i pins s σ H E I hf st hg
    subst hP hw hK
    obtain ⟨ha, hi⟩ := hg
    obtain ⟨es, ep, hd, hit⟩ := st
    obtain ⟨go, _, _, vs, rel, o, es', ep', g1, g2, g3, g4⟩ := I.hok a _ ha
    rw [go] at g1
    cases g1
    rw [hd] at g3
    cases g3
    have hl := rel.length
    have dat : s.heap.DictAt (z0R X.prog X.w) a vs ep := ⟨ob, es, go, g2, hd, g4⟩
    rw [hl] at hit
    have hx : kvs[i]? = some kvs[i] := List.getElem?_eq_getElem hi
    obtain ⟨u, hu, ru⟩ := z7C (k := kvs[i].1) (x := kvs[i].2) rel hx
    obtain ⟨f0, f1, f2, f3, f4, f5⟩ := hf it (by simp)
    refine wpAny_pyNext_values_item hit dat hu fun h' st' sb => ?_
    have I1 : Inv X pins σ H { s with heap := h' } := I.turned (t' := s.toks) (fun b o hb e => (sb.2 b hb).trans e) f0 f1 f3 f4 f5
    obtain ⟨o, e, c, d⟩ := id st'
    exact ⟨u, rfl, z5I (s := { s with heap := h' }) e c d (by decide) ⟨kvs[i].2, H, I1, ru, ⟨rfl, kvs[i].1, hx⟩, ⟨es, ep, hd, by rw [hl]; exact st'⟩, fun b hb => (hf b hb).1⟩⟩
  done := by
    intro X hP hw hK hc i pins s σ H E I hf st hg
    subst hP hw hK
    obtain ⟨ha, hi⟩ := hg
    obtain ⟨es, ep, hd, hit⟩ := st
    obtain ⟨go, _, _, vs, rel, o, es', ep', g1, g2, g3, g4⟩ := I.hok a _ ha
    rw [go] at g1
    cases g1
    rw [hd] at g3
    cases g3
    have hl := rel.length
    have dat : s.heap.DictAt (z0R X.prog X.w) a vs ep := ⟨ob, es, go, g2, hd, g4⟩
    rw [hl] at hit
    obtain ⟨f0, f1, f2, f3, f4, f5⟩ := hf it (by simp)
    exact wpAny_pyNext_values_end (I.ok.hd hc) hit dat (List.getElem?_eq_none (by omega)) fun h' eb => ⟨rfl, I.turned (t' := s.toks) (fun b o hb e => eb b o hb e) f0 f1 f3 f4 f5⟩
  self := fun _ _ _ _ _ st h => let ⟨_, _, _, q⟩ := st; wpAny_pyIter_valiter q h
section
variable {X : Cx} {tg : Expr}
def zC6 (td : TE) : TI := fun σ H R => td σ H fun x H1 => ∃ a kvs, x = .ref a /\ H1 a = some (.dK kvs) /\ ∀ ob, R (zD3 a ob kvs) (upd H1 a (.frz ob (.dK kvs)))
theorem z9i {o : Expr} {td : TE} {apos cpos : Pos} (ho : PE X o td) (hbase : attributeBase o ("values" : Str) X.env (eval o X.env) = eval o X.env := by rfl) (hline : (apos.endLine == cpos.line) = true := by rfl) :
    PI X tg (.Call (.Attribute o "values" apos) [] [] cpos) (zC6 td) := by
  intro pins s σ H R I h
  refine wpAny_Call_method0_late hbase hline (thn (ho pins s σ H _ I h) fun v s1 ⟨x, H1, I1, r1, a, kvs, ex, ha, q1⟩ => ?_)
  subst ex
  cases r1
  have ty : tyV X.K "dict" (.ref a) H1 := .inr (.inr (.inl ⟨rfl, .inl ⟨kvs, ha⟩⟩))
  obtain ⟨h1, h2⟩ := z8g I1 (show RelV (.ref a) (.ref a) from rfl) ty
  obtain ⟨z, hd, vs, rel, dd⟩ := z9C I1.hok ha
  refine ⟨"dict", "dict.values", PySem.F.plainAttrs_dict, PySem.F.slot_dict_values, PySem.F.type_dict_values, h1, h2, Calls.callWith_builtin rfl (PySem.evalArgs_none ?_)⟩
  refine call_meetsIn PySem.F.slot_dict_values dd.typeIs PySem.F.entry_dict_values (PySem.F.args_dict_values_1 _) (meets_dict_values (z0R X.prog X.w) a hd) ⟨⟨vs, dd⟩, ?_⟩
  obtain ⟨ob, es, ep, g1, g2, g3, g4⟩ := id dd
  have lt : a < s1.heap.objs.size := Heap.lt_size g1
  have dv : (s1.heap.push { cls := .type "dict_values", data := .fields #[.ref a] }).IsValuesView s1.heap.objs.size a := ⟨_, Heap.get?_push_size _ rfl, rfl, rfl⟩
  have da : (s1.heap.push { cls := .type "dict_values", data := .fields #[.ref a] }).DictAt (z0R X.prog X.w) a vs ep := ⟨ob, es, Heap.get?_push_of_some _ g1, g2, g3, g4⟩
  refine wpAny_pyIter_values (s := { s1 with heap := s1.heap.push { cls := .type "dict_values", data := .fields #[.ref a] } }) dv da ?_
  have hz : (s1.heap.push { cls := .type "dict_values", data := .fields #[.ref a] }).objs.size = s1.heap.objs.size + 1 := Heap.size_push ..
  have I2 := I1.kept (t' := s1.toks) (h' := (s1.heap.push { cls := .type "dict_values", data := .fields #[.ref a] }).push { cls := .type "dict_valueiterator", data := .fields #[.ref a, .int 0 0, .int vs.length 0, .int ep 0] }) fun b o e => Heap.get?_push_of_some _ (Heap.get?_push_of_some _ e)
  have I3 := I2.freeze ha (ob := ob) (Heap.get?_push_of_some _ (Heap.get?_push_of_some _ g1))
  have hl := rel.length
  refine ⟨(s1.heap.push { cls := .type "dict_values", data := .fields #[.ref a] }).objs.size, [(s1.heap.push { cls := .type "dict_values", data := .fields #[.ref a] }).objs.size], _, _, _, rfl, I3, z7D _ a ob kvs (by rw [hz]; exact Nat.ne_of_gt (Nat.lt_succ_of_lt lt)), ⟨es, ep, g3, _, Heap.get?_push_size _ rfl, rfl, by rw [hl]; rfl⟩, fun b hb => ?_, q1 ob⟩
  have e : b = (s1.heap.push { cls := .type "dict_values", data := .fields #[.ref a] }).objs.size := by simpa using hb
  subst e
  have le : s1.heap.objs.size <= (s1.heap.push { cls := .type "dict_values", data := .fields #[.ref a] }).objs.size := by rw [hz]; exact Nat.le_succ _
  refine I1.fpOk le ?_
  rw [z06 (by rw [hz]; exact Nat.ne_of_gt (Nat.lt_succ_of_lt lt))]
  exact I1.hok.fresh le
end
theorem z7E {z : Str} {g : TG} {tb : TS} {D : Ends} {σ : St} {H : Hp} (Pv : Nat -> St -> Hp -> Prop) (h0 : Pv 0 σ H)
    (hs : ∀ i c σ H T, z.cps[i]? = some c -> Pv i σ H -> H T = none -> g (.ref T) σ (upd H T (.tup [.int i, .str ⟨#[c]⟩])) fun σ2 H2 => tb { D with nx := Pv (i + 1), ct := Pv (i + 1), bk := D.nx } σ2 H2) (hd : ∀ σ H, Pv z.cps.size σ H -> D.nx σ H) :
    ∃ W : Nat -> Nat -> St -> Hp -> Prop, (∃ m, W 0 m σ H) /\ ∀ i m σ H, W i m σ H ->
      ((zAg z).stop i H /\ D.nx σ H) \/ ((zAg z).go i H /\ ∃ N : St -> Hp -> Prop, (∀ σ' H', N σ' H' -> ∃ m', m' < m /\ W (i + 1) m' σ' H') /\ ∀ x H', (zAg z).yld i H x H' -> g x σ H' fun σ2 H2 => tb { D with nx := N, ct := N, bk := D.nx } σ2 H2) := by
  refine ⟨fun i m σ H => m = z.cps.size - i /\ i <= z.cps.size /\ Pv i σ H, ⟨z.cps.size, by simp, Nat.zero_le _, h0⟩, ?_⟩
  rintro i m σ H ⟨rfl, hi, p⟩
  by_cases hlt : i < z.cps.size
  . refine .inr ⟨hlt, Pv (i + 1), fun σ' H' p' => ⟨z.cps.size - (i + 1), by omega, rfl, hlt, p'⟩, fun x H' y => ?_⟩
    obtain ⟨T, c, nT, rfl, rfl, hc⟩ := y
    exact hs i c σ H T hc p nT
  . have e : i = z.cps.size := by omega
    subst e
    exact .inl ⟨rfl, hd σ H p⟩
theorem z7F : typeLookup (.type "list") "keys" = pure none := am_miss_of_fast (by decide +kernel)
theorem z5j {prog : Program} {w : World} {A : Around} {E : Value -> Shared -> Prop} {s : Shared} {a : Addr} {o : Obj} {xs : Array Value} {k : Nat} {Q : Option Value -> Shared -> Prop}
    (hx : s.heap.get? a = some o) (hc : o.cls = .type "list") (hdat : o.data = .seq xs k) (hd : o.dict = none) (hA : A.handled = none)
    (h : ∀ h' tk e, Heap.NewExcOf s.heap h' e "AttributeError" -> Q none { s with heap := h', toks := tk }) :
    wpAny (model prog w) A (getAttr? (.ref a) "keys") Q E s := by
  obtain ⟨c, dc, dt, sl⟩ := o
  simp only at hc hdat hd
  subst hc hdat hd
  obtain ⟨hp, gs, dr, tk, os⟩ := s
  have hT : ∀ tk', (⟨hp, gs, dr, tk', os⟩ : Shared).TypeIs (.ref a) "list" := fun _ => ⟨_, hx, rfl⟩
  have y1 := sub_AttributeError
  have y3 := F.slot_list_getattribute.lookup
  have y4 := F.slot_list_getattribute.bind (.ref a)
  have y5 := am_list_getattr_none
  unfold getAttr? getAttrBy? getAttrBy
  repeat (any_goals (first | assumption | exact hT _ | ((with_reducible show wpAny _ _ (call (Value.builtin "list.__getattribute__") _ _) _ _ _); refine call_meets F.slot_list_getattribute (hT _) am_entry_list_getattribute (F.args_list_getattribute_2 _ _) (meets_getattribute_miss_list a xs k sl "keys" _ z7F (by decide +kernel) (by size_fits)) ⟨hx, hA, fun h' tk' e hx' => ?_⟩) | wp_step))
  obtain ⟨t', u', he⟩ := hx'.there
  show wpAny (model prog w) _ (getattributeRaised _ _ _ _ _ _ _) _ _ _
  unfold getattributeRaised
  repeat (any_goals first | assumption | wp_step)
  exact h _ _ _ hx'.of
theorem z22 : plainId "dict.update.loop" = true := by decide +kernel
theorem z3v : entryFor table "dict.update.loop" = some Builtin.«dict.update.loop» := entryFor_of_tree (by kernel_rfl)
section
variable {prog : Program} {w : World} {K : Type} [DecidableEq K] {knd : KeyKind prog w K} {A : Around}
def z4W (m kv : List (K × Value)) : List (K × Value) := kv.foldl (fun m p => stored m p.1 p.2) m
theorem z8O {R : Result -> Shared -> Prop} (hh : A.handled = none) {d l it : Addr} (hdi : d ≠ it) (hdl : d ≠ l) (hli : l ≠ it) {items : Array Value} {kv : List (K × Value)} (hkl : kv.length = items.size) :
    ∀ (n i : Nat) (z : Int) (s : Shared) (m : List (K × Value)), items.size - i = n -> i <= items.size -> s.heap.IsListIter it l i -> s.heap.IsList l items -> s.heap.DictOf knd d m -> m.length + n <= sizeLine ->
    (∀ j, i <= j -> (hj : j < items.size) -> ∃ T key, items[j]? = some (.ref T) /\ T ≠ d /\ T ≠ it /\ s.heap.IsTuple T #[key, (kv[j]'(by omega)).2] /\ knd.is (kv[j]'(by omega)).1 key = true) ->
    (∀ h' tk, h'.DictOf knd d (z4W m (kv.drop i)) -> (∀ b o, b ≠ d -> b ≠ it -> s.heap.get? b = some o -> h'.get? b = some o) -> R (.ok (.ret .none)) { s with heap := h', toks := tk }) ->
    codeAny (model prog w) A (.builtin "dict.update.loop" ⟨[.ref d, .ref it, rawInt z, .none], []⟩) R s := by
  intro n
  have hh1 : A.in1.handled = none := hh
  induction n with
  | zero =>
    intro i z s m hn hi hit hl hd hm hT k
    have e : i = items.size := by omega
    subst e
    refine codeAny_builtin z3v ?_
    rw [Around.under_plainId z22 _]
    show wpAny _ A.in1 (pyNext (.ref it) >>= _) _ _ s
    refine wpAny_bind (wpAny_pyNext_list_end hh1 hit hl (by simp) fun h' eb => ?_)
    show wpAny _ A.in1 (Builtin.Dict.addKeywords d [] >>= _) _ _ _
    refine wpAny_bind (wpAny_pure ?_)
    refine wpAny_pure (k h' s.toks ?_ fun b o _ b2 e => eb b o b2 e)
    rw [List.drop_of_length_le (by omega)]
    exact hd.extBut eb hdi
  | succ n ih =>
    intro i z s m hn hi hit hl hd hm hT k
    have hlt : i < items.size := by omega
    obtain ⟨T, key, e1, e2, e3, e4, e5⟩ := hT i (Nat.le_refl _) hlt
    refine codeAny_builtin z3v ?_
    rw [Around.under_plainId z22 _]
    show wpAny _ A.in1 (pyNext (.ref it) >>= _) _ _ s
    refine wpAny_bind (wpAny_pyNext_list_item hit hl e1 fun h' hit' sb => ?_)
    have t1 : h'.IsTuple T #[key, (kv[i]'(by omega)).2] := e4.extBut sb.extBut e3
    have d1 : h'.DictOf knd d m := hd.extBut sb.extBut hdi
    have l1 : h'.IsList l items := hl.extBut sb.extBut hli
    obtain ⟨o, g1, g2, n1, g3⟩ := id t1
    show wpAny _ A.in1 (holding [Value.ref T] _ >>= _) _ _ _
    refine wpAny_bind (wpAny_holding (wpAny_bind (wpAny_tryCatch ?_)))
    unfold Builtin.Dict.pairItems
    refine wpAny_bind (wpAny_typeOf (T := "tuple") ⟨o, g1, g2⟩ ?_)
    simp only [beq_self_eq_true, Bool.or_true, if_true]
    refine wpAny_bind (wpAny_seqItems g1 g3 (wpAny_pure ?_))
    show wpAny _ A.in1 (holding [key, (kv[i]'(by omega)).2] (dictSet d key (kv[i]'(by omega)).2)) _ _ _
    refine wpAny_holding (wpAny_dictSet_pairs (hsz := by omega) e5 d1 fun h2 d2 sb2 => ?_)
    refine wpAny_pure ⟨plainId_quiet z22 _, ?_⟩
    have ke : kv.drop i = kv[i]'(by omega) :: kv.drop (i + 1) := List.drop_eq_getElem_cons (by omega)
    refine ih (i + 1) (z + 1) _ (stored m (kv[i]'(by omega)).1 (kv[i]'(by omega)).2) (by omega) hlt (hit'.extBut sb2.extBut hdi.symm) (l1.extBut sb2.extBut hdl.symm) d2 ?_ (fun j hj hj2 => ?_) fun h3 tk d3 kk => ?_
    . have : (stored m (kv[i]'(by omega)).1 (kv[i]'(by omega)).2).length <= m.length + 1 := by
        unfold stored
        split
        . rw [List.length_map]; omega
        . rw [List.length_append]; exact Nat.le_refl _
      omega
    . obtain ⟨T', key', f1, f2, f3, f4, f5⟩ := hT j (by omega) hj2
      exact ⟨T', key', f1, f2, f3, (f4.extBut sb.extBut f3).extBut sb2.extBut f2, f5⟩
    . refine k h3 tk ?_ fun b o b1 b2 e => kk b o b1 b2 (sb2.extBut b o b1 (sb.extBut b o b2 e))
      rw [ke]
      exact d3
theorem z2i {E : Value -> Shared -> Prop} {s : Shared} {Q : Value -> Shared -> Prop} (hh : A.handled = none) {l : Addr} {items : Array Value} {o : Obj} {c : Nat}
    (hx : s.heap.get? l = some o) (hc : o.cls = .type "list") (hdat : o.data = .seq items c) (hdn : o.dict = none) {kv : List (K × Value)} (hkl : kv.length = items.size) (hsz : items.size <= sizeLine)
    (hT : ∀ j, (hj : j < items.size) -> ∃ T key, items[j]? = some (.ref T) /\ s.heap.IsTuple T #[key, (kv[j]'(by omega)).2] /\ knd.is (kv[j]'(by omega)).1 key = true)
    (k : ∀ h' tk, h'.DictOf knd s.heap.objs.size (z4W [] kv) -> (∀ b o, s.heap.get? b = some o -> h'.get? b = some o) -> Q (.ref s.heap.objs.size) { s with heap := h', toks := tk }) :
    wpAny (model prog w) A (call (.type "dict") [.ref l]) Q E s := by
  refine callType_codes (Q₁ := fun ob sa => ob = .ref s.heap.objs.size /\ sa = { s with heap := s.heap.push { cls := .type "dict", data := .dict #[] } }) F.kt_called_dict (F.kt_typeCall_dict_1 _) F.entry_dict_init (kt_code_dict_new _ ⟨rfl, rfl⟩) ?_
  rintro obj sa ⟨rfl, rfl⟩
  have n0 : (s.heap.push { cls := .type "dict", data := .dict #[] }).DictOf knd s.heap.objs.size [] := Heap.DictOf.new s.heap
  have hx' : (s.heap.push { cls := .type "dict", data := .dict #[] }).get? l = some o := Heap.get?_push_of_some _ hx
  have llt : l < s.heap.objs.size := Heap.lt_size hx
  refine ⟨n0.typeIs, F.args_dict_init_2 _ _, ?_⟩
  unfold Builtin.«dict.__init__» Builtin.Dict.selfAndRest
  refine wpAny_bind ?_
  refine wpAny_bind (wpAny_notOrdered_dict n0.typeIs ?_)
  show wpAny _ _ (pure (s.heap.objs.size, [Value.ref l])) _ _ _
  refine wpAny_pure ?_
  show wpAny _ _ (Builtin.Dict.updateFrom "dict.__init__" s.heap.objs.size (.ref l) [] .none) _ _ _
  unfold Builtin.Dict.updateFrom
  refine wpAny_bind (wpAny_typeOf (T := "list") ⟨o, hx', hc⟩ ?_)
  rw [if_pos (by decide)]
  refine wpAny_bind (z5j (s := { s with heap := s.heap.push { cls := .type "dict", data := .dict #[] } }) hx' hc hdat hdn hh fun h1 tk e ne => ?_)
  rw [if_pos (by decide)]
  refine wpAny_bind (wpAny_rule ?_)
  have k1 : ∀ b ob, (s.heap.push { cls := .type "dict", data := .dict #[] }).get? b = some ob -> h1.get? b = some ob := ne.keeps
  have hl1 : h1.IsList l items := ⟨o, k1 _ _ hx', hc, c, hdat⟩
  have hd1 : h1.DictOf knd s.heap.objs.size [] := let ⟨o', es, ep, g, r⟩ := n0; ⟨o', es, ep, k1 _ _ g, r⟩
  refine wpAny_bind (wpAny_pyIter_list (s := { s with heap := h1, toks := tk }) hl1 ?_)
  have lt1 : ∀ {b ob}, (s.heap.push { cls := .type "dict", data := .dict #[] }).get? b = some ob -> b < h1.objs.size := fun e => Heap.lt_size (k1 _ _ e)
  have dlt : s.heap.objs.size < h1.objs.size := let ⟨_, _, _, g, _⟩ := hd1; Heap.lt_size g
  have llt1 : l < h1.objs.size := Heap.lt_size (k1 _ _ hx')
  refine wpAny_pure ⟨plainId_quiet z22 _, ?_⟩
  have pk : ∀ b ob, h1.get? b = some ob -> (h1.push { cls := .type "list_iterator", data := .fields #[.ref l, .int 0 0] }).get? b = some ob := fun b ob e => Heap.get?_push_of_some _ e
  refine z8O (knd := knd) (A := A.in1) (d := s.heap.objs.size) (l := l) (it := h1.objs.size) hh (Nat.ne_of_lt dlt) (Nat.ne_of_gt llt) (Nat.ne_of_lt llt1) (items := items) (kv := kv) hkl items.size 0 0 _ [] (Nat.sub_zero _) (Nat.zero_le _) ⟨_, Heap.get?_push_size _ rfl, rfl, rfl⟩ (hl1.push _) (hd1.push _) (by simpa using hsz) (fun j _ hj => ?_) fun h' tk' dd kk => ?_
  . obtain ⟨T, key, e1, ⟨ot, g1, g2⟩, e3⟩ := hT j hj
    have tlt : T < s.heap.objs.size := Heap.lt_size g1
    exact ⟨T, key, e1, Nat.ne_of_lt tlt, Nat.ne_of_lt (Nat.lt_trans tlt dlt), ⟨ot, pk _ _ (k1 _ _ (Heap.get?_push_of_some _ g1)), g2⟩, e3⟩
  . refine ⟨rfl, k h' tk' dd fun b ob e => ?_⟩
    have blt : b < s.heap.objs.size := Heap.lt_size e
    exact kk b ob (Nat.ne_of_lt blt) (Nat.ne_of_lt (Nat.lt_trans blt dlt)) (pk _ _ (k1 _ _ (Heap.get?_push_of_some _ e)))
end
def putAll (m kvs : List (Key × V)) : List (Key × V) := kvs.foldl (fun m p => putK m p.1 p.2) m
theorem z8y : ∀ {kvs : List (Key × V)} {vs : List (Key × Value)} {m : List (Key × V)} {n : List (Key × Value)}, KV kvs vs -> KV m n -> KV (putAll m kvs) (z4W n vs)
  | _, _, _, _, .nil, r => r
  | (k, v) :: kvs, (k', u) :: vs, m, n, .cons q t, r => by
    obtain ⟨e, rv⟩ := q
    have e : k = k' := e
    subst e
    exact z8y (kvs := kvs) (vs := vs) t (r.put k rv)
theorem z3w : ∀ {ts : List Addr} {us : List Value}, Vals (ts.map V.ref) us -> us = ts.map Value.ref
  | [], _, .nil => rfl
  | t :: ts, _, .cons q r => by
    cases (show _ = Value.ref t from q)
    rw [z3w r]
    rfl
section
variable {X : Cx} {pins : List (Addr × Obj)} {σ : St} {H : Hp} {s : Shared}
theorem z55 (I : Inv X pins σ H s) : ∀ {ts : List Addr} {kvs : List (Key × V)}, kvs.length = ts.length -> (∀ (i : Nat) t k v, ts[i]? = some t -> kvs[i]? = some (k, v) -> H t = some (.tup [kV k, v])) ->
    ∃ vs : List (Key × Value), KV kvs vs /\ vs.length = ts.length /\ ∀ (j : Nat) t p, ts[j]? = some t -> vs[j]? = some p -> ∃ key, s.heap.IsTuple t #[key, p.2] /\ (z0R X.prog X.w).is p.1 key = true
  | [], [], _, _ => ⟨[], .nil, rfl, fun _ _ _ e => by simp at e⟩
  | [], _ :: _, hl, _ => by cases hl
  | _ :: _, [], hl, _ => by cases hl
  | t :: ts, (k, v) :: kvs, hl, h => by
    obtain ⟨vs, r1, r2, r3⟩ := z55 I (ts := ts) (kvs := kvs) (by simpa using hl) fun i t' k' v' e1 e2 => h (i + 1) t' k' v' (by simpa using e1) (by simpa using e2)
    obtain ⟨_, its, r, p⟩ := I.hok t _ (h 0 t k v rfl rfl)
    cases r with
    | @cons _ u1 _ _ x1 r => cases r with
      | @cons _ u2 _ _ x2 r =>
        cases r
        refine ⟨(k, u2) :: vs, .cons ⟨rfl, x2⟩ r1, by rw [List.length_cons, List.length_cons, r2], fun j t' p' e1 e2 => ?_⟩
        cases j with
        | zero =>
          cases e1
          cases e2
          exact ⟨u1, p, z6Q x1⟩
        | succ j => exact r3 j t' p' (by simpa using e1) (by simpa using e2)
theorem z36 (hc : X.calm = true) : CallR X (.type "dict") (fun xs H Q => ∃ (l : Addr) (ts : List Addr) (kvs : List (Key × V)), xs = [.ref l] /\ SqL X.K H l (ts.map V.ref) /\ kvs.length = ts.length /\ (putAll [] kvs).length <= sizeLine /\
    (∀ (i : Nat) t k v, ts[i]? = some t -> kvs[i]? = some (k, v) -> H t = some (.tup [kV k, v])) /\ ∀ p, H p = none -> Q (.ref p) (upd H p (.dK (putAll [] kvs)))) := by
  intro pins s σ H xs us Q I r h
  obtain ⟨l, ts, kvs, rfl, hq, hl, hp, ht, q⟩ := h
  obtain ⟨u, rfl, ru⟩ := vals1 r
  cases (show u = Value.ref l from ru)
  obtain ⟨its, rv, ⟨o, n, e, c1, c2, c3⟩, hz⟩ := I.list hq
  have ei := z3w rv
  subst ei
  obtain ⟨vs, r1, r2, r3⟩ := z55 I hl ht
  have hh : X.A.handled = none := I.ok.hd hc
  have sz : (ts.map Value.ref).toArray.size = ts.length := by simp
  refine z2i (knd := z0R X.prog X.w) (kv := vs) hh e c1 c3 c2 (by rw [sz]; exact r2) (by rw [sz]; simpa using hz) (fun j hj => ?_) fun h' tk dd kk => ?_
  . rw [sz] at hj
    obtain ⟨key, g1, g2⟩ := r3 j (ts[j]'hj) (vs[j]'(by omega)) (List.getElem?_eq_getElem hj) (List.getElem?_eq_getElem _)
    exact ⟨ts[j]'hj, key, by simp [hj], g1, g2⟩
  . exact ⟨.ref s.heap.objs.size, _, I.laid (a := s.heap.objs.size) (o := .dK (putAll [] kvs)) (t' := tk) kk (Nat.le_refl _) (z8i hp (beq_eq_false_iff_ne.mpr (Ne.symm (Nat.ne_of_lt I.big))) (z8y r1 .nil) dd), rfl, q _ (I.hok.fresh (Nat.le_refl _))⟩
end
section
variable {X : Cx} {sc : Scope} {cl : List (Str × Addr)} {C : Addr} {N : List Str} {fp : List Addr} {s2 : Shared} {H2 : Hp} {pn : List (Addr × Obj)} {e o i : Expr} {ta td ty : TE} {f : Str} {pos : Pos}
theorem z9j (he : PE (cxC X sc cl C N fp s2 H2 pn) e ta) (hb : attributeBase e f (cxC X sc cl C N fp s2 H2 pn).env (eval e (cxC X sc cl C N fp s2 H2 pn).env) = eval e (cxC X sc cl C N fp s2 H2 pn).env) :
    PE (cxC X sc cl C N fp s2 H2 pn) (.Attribute e f pos) (zCO X.K ta f) := z6J he hb
theorem z56 (hu : X.A.units + 1 < cLine) (ho : PE (cxC X sc cl C N fp s2 H2 pn) o td) (hi : PE (cxC X sc cl C N fp s2 H2 pn) i ty) (hs : zBX i) :
    PE (cxC X sc cl C N fp s2 H2 pn) (.Subscript o i pos) (zAH td ty) := z6T hu ho hi hs
end
end L2
namespace L2
open PySem PySem.Spec PyProof.Rows G
structure FontOk (hg : Nat) (Ss : List Sg) : Prop where
  n1 : 1 <= Ss.length
  n2 : Ss.length <= 60
  nd : (Ss.map (·.c)).Nodup
  sg : ∀ S ∈ Ss, S.c ∈ sgnL
  rect : ∀ S ∈ Ss, Rect S.w hg S.rows
def firstBad (Ss : List Sg) : List Nat -> Nat -> Option (Nat × Nat)
  | [], _ => none
  | c :: cs, i => if known Ss c = true then firstBad Ss cs (i + 1) else some (c, i)
theorem z0p {Ss : List Sg} : ∀ {cs : List Nat} {i : Nat}, (∀ c ∈ cs, known Ss c = true) -> firstBad Ss cs i = none
  | [], _, _ => rfl
  | c :: cs, i, h => by
    show (if known Ss c = true then firstBad Ss cs (i + 1) else some (c, i)) = none
    rw [if_pos (h c List.mem_cons_self)]
    exact z0p fun d hd => h d (List.mem_cons_of_mem _ hd)
theorem z1r {Ss : List Sg} : ∀ {cs : List Nat} {i k : Nat} {c : Nat}, (∀ d ∈ cs.take k, known Ss d = true) -> cs[k]? = some c -> known Ss c = false -> firstBad Ss cs i = some (c, i + k)
  | [], _, _, _, _, e, _ => by simp at e
  | d :: cs, i, 0, c, _, e, h => by
    simp at e
    subst e
    show (if known Ss d = true then firstBad Ss cs (i + 1) else some (d, i)) = some (d, i + 0)
    rw [if_neg (by rw [h]; exact Bool.false_ne_true)]
    rfl
  | d :: cs, i, k + 1, c, hk, e, h => by
    show (if known Ss d = true then firstBad Ss cs (i + 1) else some (d, i)) = some (c, i + (k + 1))
    rw [if_pos (hk d (by simp)), z1r (k := k) (fun x hx => hk x (by simp [hx])) (by simpa using e) h]
    congr 2
    omega
def PicsAt (hg : Nat) (H : Hp) (d : Addr) (Ss : List Sg) : Prop := ∃ ps : List Addr, ps.length = Ss.length /\ H d = some (.dK ((Ss.zip ps).map fun p => (Sum.inr (one p.1.c), V.ref p.2))) /\ ∀ (i : Nat) S p, Ss[i]? = some S -> ps[i]? = some p -> PicAt H p S.w S.rows
theorem PicsAt.mono {hg : Nat} {H H' : Hp} {d : Addr} {Ss : List Sg} (s : Same H H') (h : PicsAt hg H d Ss) : PicsAt hg H' d Ss := let ⟨ps, a, b, c⟩ := h; ⟨ps, a, s _ _ b, fun i S p x y => (c i S p x y).mono s⟩
def FA (C : Addr) (H : Hp) (f : Addr) (hg : Nat) (Ss : List Sg) (gap : Int) : Prop := ∃ dx d, H f = some (.ins C dx [("pics", .ref d), ("high", .int hg), ("gap", .int gap)]) /\ PicsAt hg H d Ss
theorem FA.mono {C : Addr} {H H' : Hp} {f : Addr} {hg : Nat} {Ss : List Sg} {gap : Int} (s : Same H H') (h : FA C H f hg Ss gap) : FA C H' f hg Ss gap := let ⟨dx, d, a, b⟩ := h; ⟨dx, d, s _ _ a, b.mono s⟩
theorem FA.ins {C : Addr} {H : Hp} {f : Addr} {hg : Nat} {Ss : List Sg} {gap : Int} (h : FA C H f hg Ss gap) : ∃ dx fs, H f = some (.ins C dx fs) /\ fs.lookup ("width" : Str) = none /\ fs.lookup ("height" : Str) = none /\ fs.lookup ("band" : Str) = none /\ fs.lookup ("pics_of" : Str) = none := by
  obtain ⟨dx, d, a, _⟩ := h
  have k : ∀ n : Str, (n == ("pics" : Str)) = false -> (n == ("gap" : Str)) = false -> (n == ("high" : Str)) = false -> ([("pics", V.ref d), ("high", .int hg), ("gap", .int gap)] : List (Str × V)).lookup n = none := fun n u v w => by simp only [List.lookup, u, v, w]
  exact ⟨dx, _, a, k _ (by decide +kernel) (by decide +kernel) (by decide +kernel), k _ (by decide +kernel) (by decide +kernel) (by decide +kernel), k _ (by decide +kernel) (by decide +kernel) (by decide +kernel), k _ (by decide +kernel) (by decide +kernel) (by decide +kernel)⟩
def z8P (z : Str) : Prop := ∀ c ∈ z.cps.toList, c ∈ sgnL
theorem TextOf.inSg {hg : Nat} {Ss : List Sg} {z : Str} (O : FontOk hg Ss) (h : TextOf Ss z) : z8P z := fun c hc => by
  obtain ⟨S, hS, e⟩ := List.any_eq_true.mp (h c hc)
  rw [<- of_decide_eq_true e]
  exact O.sg S hS
theorem z9k : ∀ c ∈ sgnL, (reprText (one c)).length <= 100000 := by decide +kernel
def SameB (x : Addr) (H H' : Hp) : Prop := ∀ b o, b ≠ x -> H b = some o -> H' b = some o
theorem SameB.fresh {x dx : Addr} {H H' : Hp} {o u : HO} (nx : H x = none) (nd : H dx = none) (s : SameB x (upd (upd H dx u) x o) H') : Same H H' := fun b v e => s b v (z08 e nx) (by rw [z06 (z08 e nx), z06 (z08 e nd)]; exact e)
def z3R (C : Addr) : Sp := fun vs H Q _ => ∃ (x dx l : Addr) (us : List Addr) (Ss : List Sg) (hg : Nat) (gap : Int), vs = [.ref x, .ref l, .int gap] /\ H x = some (.ins C dx []) /\ PrsAt hg H l us Ss /\ FontOk hg Ss /\ 0 <= gap /\ gap <= 8 /\
  ∀ H', SameB x H H' -> FA C H' x hg Ss gap -> Q .non H'
def z4X (C cS : Addr) : Sp := fun vs H Q E => ∃ (x : Addr) (z : Str) (Ss : List Sg) (hg : Nat) (gap : Int), vs = [.ref x, .str z] /\ FA C H x hg Ss gap /\ FontOk hg Ss /\ 0 <= gap /\ gap <= 8 /\ z.length <= 1000 /\ z8P z /\
  (firstBad Ss z.cps.toList 0 = none -> ∀ H', Same H H' -> Q (.int (z4P Ss gap z.cps.toList z.length)) H') /\
  ∀ c i d H', firstBad Ss z.cps.toList 0 = some (c, i) -> Same H H' -> H' d = some (.ext (z2G d [("at", .int (i : Nat)), ("sign", .str (one c))])) -> E (.ref cS) (some d) H'
def zD4 (C : Addr) : Sp := fun vs H Q _ => ∃ (x : Addr) (z : Str) (Ss : List Sg) (hg : Nat) (gap : Int), vs = [.ref x, .str z, .int (z4P Ss gap z.cps.toList z.length)] /\ FA C H x hg Ss gap /\ FontOk hg Ss /\ 0 <= gap /\ gap <= 8 /\ z.length <= 1000 /\ TextOf Ss z /\ ∀ H', Same H H' -> Q (.bl true) H'
def z9w (C : Addr) : Sp := fun vs H Q _ => ∃ (x t : Addr) (z : Str) (Ss : List Sg) (hg : Nat) (gap : Int) (c i : Nat), vs = [.ref x, .str z, .ref t] /\ FA C H x hg Ss gap /\ FontOk hg Ss /\ 0 <= gap /\ gap <= 8 /\ z.length <= 1000 /\ z8P z /\ firstBad Ss z.cps.toList 0 = some (c, i) /\ H t = some (.tup [.str (one c), .int (i : Nat)]) /\ ∀ H', Same H H' -> Q (.bl true) H'
def zC7 : Sp := fun vs H Q _ => ∃ (l : Addr) (ts : List Addr) (Ss : List Sg) (hg : Nat) (z : Str), vs = [.ref l, .str z] /\ SgsAt hg H l ts Ss /\ Ss.length <= 60 /\ z.length <= 1000 /\ (∃ c ∈ z.cps.toList, known Ss c = false) /\
  ∀ t c i H', Same H H' -> firstBad Ss z.cps.toList 0 = some (c, i) -> H' t = some (.tup [.str (one c), .int (i : Nat)]) -> Q (.ref t) H'
def zB7 (K : PySem.W.Frag) : Sp := fun vs H Q _ => ∃ (a l : Addr) (ns : List Int) (ts : List Addr) (Ss : List Sg) (hg : Nat) (z : Str), vs = [.ref a, .ref l, .str z] /\ SqL K H a (ns.map V.int) /\ SgsAt hg H l ts Ss /\ 1 <= Ss.length /\ Ss.length <= 60 /\ z.length <= 900 /\ z8P z /\
  (∀ (i : Nat) S, Ss[i]? = some S -> S.c = z1o (z18 ns 0 10039 94 + 37 * i)) /\ ∀ z' : Str, z'.length <= z.length + 2 -> z8P z' -> (∃ c ∈ z'.cps.toList, known Ss c = false) -> Q (.str z') H
theorem beyond {Ss : List Sg} {st : Int} {j : Nat} (hc : ∀ (i : Nat) S, Ss[i]? = some S -> S.c = z1o (st + 37 * i)) (h1 : Ss.length <= j) (h2 : j < 94) : known Ss (z1o (st + 37 * j)) = false := by
  cases e : known Ss (z1o (st + 37 * j)) with
  | false => rfl
  | true =>
    obtain ⟨S, hS, z⟩ := List.any_eq_true.mp e
    obtain ⟨i, hi, ei⟩ := List.mem_iff_getElem.mp hS
    have z := of_decide_eq_true z
    rw [<- ei, hc i _ (List.getElem?_eq_getElem hi)] at z
    have := z2O z
    omega
section
variable {X : Cx}
def zDt (K : PySem.W.Frag) : R2 := fun x y H Q => ∃ (a b : Addr) (z z' : Str) (i j : Int), x = .ref a /\ y = .ref b /\ SqT K H a [.str z, .int i] /\ SqT K H b [.str z', .int j] /\ Q (.bl ((z == z') && (i == j))) H
end
end L2
namespace L2
open PySem PySem.Spec PyProof.Rows G
theorem z4Y {P : Nat -> Addr -> Prop} : ∀ n : Nat, (∀ i, i < n -> ∃ p, P i p) -> ∃ ps : List Addr, ps.length = n /\ ∀ (i : Nat) p, ps[i]? = some p -> P i p
  | 0, _ => ⟨[], rfl, fun _ _ e => by simp at e⟩
  | n + 1, h => by
    obtain ⟨ps, hl, hp⟩ := z4Y n fun i hi => h i (by omega)
    obtain ⟨p, hn⟩ := h n (Nat.lt_succ_self n)
    refine ⟨ps ++ [p], by rw [List.length_append, hl]; rfl, fun i q e => ?_⟩
    by_cases hi : i < ps.length
    . rw [List.getElem?_append_left hi] at e
      exact hp i q e
    . rw [List.getElem?_append_right (by omega)] at e
      cases hk : i - ps.length with
      | zero =>
        rw [hk] at e
        cases e
        have : i = n := by omega
        rw [this]
        exact hn
      | succ m =>
        rw [hk] at e
        cases e
theorem PrsAt.pics {hg : Nat} {H : Hp} {l : Addr} {us : List Addr} {Ss : List Sg} (h : PrsAt hg H l us Ss) : ∃ ps : List Addr, ps.length = Ss.length /\ ∀ (i : Nat) t S p, us[i]? = some t -> Ss[i]? = some S -> ps[i]? = some p -> H t = some (.tup [.str (one S.c), .ref p]) /\ PicAt H p S.w S.rows /\ Rect S.w hg S.rows := by
  obtain ⟨ps, hl, hp⟩ := z4Y (P := fun i p => ∃ (hi : i < us.length) (hj : i < Ss.length), H us[i] = some (.tup [.str (one Ss[i].c), .ref p]) /\ PicAt H p Ss[i].w Ss[i].rows /\ Rect Ss[i].w hg Ss[i].rows) Ss.length fun i hi => by
    have hu : i < us.length := by rw [h.len]; exact hi
    obtain ⟨p, a, b, c⟩ := h.at' i _ _ (List.getElem?_eq_getElem hu) (List.getElem?_eq_getElem hi)
    exact ⟨p, hu, hi, a, b, c⟩
  refine ⟨ps, hl, fun i t S p e1 e2 e3 => ?_⟩
  obtain ⟨hi, hj, a, b, c⟩ := hp i p e3
  rw [List.getElem?_eq_getElem hi] at e1
  rw [List.getElem?_eq_getElem hj] at e2
  cases e1
  cases e2
  exact ⟨a, b, c⟩
def kvF (Ss : List Sg) (ps : List Addr) : List (Key × V) := (Ss.zip ps).map fun p => (Sum.inr (one p.1.c), V.ref p.2)
theorem z2A {Ss : List Sg} {ps : List Addr} (h : ps.length = Ss.length) : (kvF Ss ps).length = Ss.length := by
  unfold kvF
  rw [List.length_map, List.length_zip, h, Nat.min_self]
theorem z57 {Ss : List Sg} {ps : List Addr} (h : ps.length = Ss.length) {i : Nat} (hi : i < Ss.length) : (kvF Ss ps)[i]? = some (Sum.inr (one Ss[i].c), V.ref (ps[i]'(by omega))) := by
  unfold kvF
  rw [List.getElem?_map, List.getElem?_eq_getElem (by rw [List.length_zip, h, Nat.min_self]; exact hi), List.getElem_zip]
  rfl
theorem z58 : ∀ {Ss : List Sg} {ps : List Addr}, ps.length = Ss.length -> (kvF Ss ps).map (·.1) = Ss.map fun S => (Sum.inr (one S.c) : Key)
  | [], [], _ => rfl
  | [], _ :: _, h => by cases h
  | _ :: _, [], h => by cases h
  | S :: Ss, p :: ps, h => by
    show (Sum.inr (one S.c) : Key) :: (kvF Ss ps).map (·.1) = _
    rw [z58 (by simpa using h)]
    rfl
theorem z9l {m : List (Key × V)} {k : Key} {v : V} (h : k ∉ m.map (·.1)) : putK m k v = m ++ [(k, v)] := by
  unfold putK
  rw [if_neg fun z => ?_]
  obtain ⟨p, hp, e⟩ := List.any_eq_true.mp z
  exact h (List.mem_map.mpr ⟨p, hp, by simpa using e⟩)
theorem z37 : ∀ {kvs m : List (Key × V)}, (kvs.map (·.1)).Nodup -> (∀ k ∈ kvs.map (·.1), k ∉ m.map (·.1)) -> putAll m kvs = m ++ kvs
  | [], m, _, _ => (List.append_nil m).symm
  | (k, v) :: kvs, m, nd, h => by
    show putAll (putK m k v) kvs = _
    obtain ⟨n1, n2⟩ := List.nodup_cons.mp nd
    rw [z9l (h k List.mem_cons_self), z37 n2 fun k' hk hm => ?_, List.append_assoc]
    . rfl
    . rw [List.map_append] at hm
      rcases List.mem_append.mp hm with z | z
      . exact h k' (List.mem_cons_of_mem _ hk) z
      . have e : k' = k := by simpa using z
        exact n1 (e ▸ hk)
theorem z4Z {hg : Nat} {Ss : List Sg} {ps : List Addr} (O : FontOk hg Ss) (h : ps.length = Ss.length) : putAll [] (kvF Ss ps) = kvF Ss ps := by
  rw [z37 ?_ fun _ _ z => by simp at z]
  . rfl
  . rw [z58 h]
    have e : (Ss.map fun S => (Sum.inr (one S.c) : Key)) = (Ss.map (·.c)).map fun c => (Sum.inr (one c) : Key) := by rw [List.map_map]; rfl
    rw [e]
    refine List.Pairwise.map _ (fun a b n z => n ?_) O.nd
    injection z with z
    exact one_inj z
theorem z3S : ∀ {Ss : List Sg} {ps : List Addr} (c : Nat), ps.length = Ss.length -> (z2F (kvF Ss ps) (Sum.inr (one c))).isSome = known Ss c
  | [], [], _, _ => rfl
  | [], _ :: _, _, h => by cases h
  | _ :: _, [], _, h => by cases h
  | S :: Ss, p :: ps, c, h => by
    have ih := z3S (Ss := Ss) (ps := ps) c (by simpa using h)
    unfold known
    rw [List.any_cons]
    by_cases e : S.c = c
    . rw [decide_eq_true e, Bool.true_or, <- e]
      show (z2F ((Sum.inr (one S.c), V.ref p) :: kvF Ss ps) (Sum.inr (one S.c))).isSome = true
      unfold z2F
      rw [List.find?_cons_of_pos (by simp)]
      rfl
    . rw [decide_eq_false e, Bool.false_or]
      show (z2F ((Sum.inr (one S.c), V.ref p) :: kvF Ss ps) (Sum.inr (one c))).isSome = _
      have ne : ¬ (Sum.inr (one S.c) : Key) = Sum.inr (one c) := fun z => by
        injection z with z
        exact e (one_inj z)
      unfold z2F at ih ⊢
      rw [List.find?_cons_of_neg (by simpa using ne)]
      exact ih
theorem z3T {Ss : List Sg} {ps : List Addr} : ∀ {c : Nat}, ps.length = Ss.length -> known Ss c = true -> ∃ (i : Nat) (S : Sg) (p : Addr), Ss[i]? = some S /\ ps[i]? = some p /\ S.c = c /\ z2F (kvF Ss ps) (Sum.inr (one c)) = some (.ref p) := fun {c} h k => by
  have e := z3S c h
  rw [k] at e
  obtain ⟨v, hv⟩ := Option.isSome_iff_exists.mp e
  unfold z2F at hv
  obtain ⟨⟨k', v'⟩, hf, ev⟩ := Option.map_eq_some_iff.mp hv
  have hm := List.mem_of_find?_eq_some hf
  have hk := List.find?_some hf
  obtain ⟨i, hi, ei⟩ := List.mem_iff_getElem.mp hm
  rw [z2A h] at hi
  have g := z57 h hi
  rw [List.getElem?_eq_getElem (by rw [z2A h]; exact hi), ei] at g
  cases g
  refine ⟨i, Ss[i], ps[i]'(by omega), List.getElem?_eq_getElem hi, List.getElem?_eq_getElem _, ?_, ?_⟩
  . have : (Sum.inr (one Ss[i].c) : Key) = Sum.inr (one c) := by simpa using hk
    injection this with z
    exact one_inj z
  . unfold z2F
    rw [hf]
    rfl
theorem z8z {n d : Nat} {i : Int} (h0 : 0 <= i) (h1 : i <= n) : HT.sIx n d (some i) = i.toNat := by
  simp only [HT.sIx]
  rw [if_neg (by omega)]
  omega
theorem z8Q {z : Str} {i : Int} (h0 : 0 <= i) (h1 : i <= z.length) : (z27 z none (some i)).cps.toList = z.cps.toList.take i.toNat := by
  unfold z27
  rw [z8z h0 h1]
  show ((z.cps.toList.drop 0).take (i.toNat - 0)).toArray.toList = _
  rw [List.drop_zero, Nat.sub_zero]
theorem z8R {z : Str} {i : Int} (h0 : 0 <= i) (h1 : i <= z.length) : (z27 z (some i) none).cps.toList = z.cps.toList.drop i.toNat := by
  unfold z27
  rw [z8z h0 h1]
  show ((z.cps.toList.drop i.toNat).take (z.length - i.toNat)).toArray.toList = _
  have e : z.length = z.cps.toList.length := (Array.length_toList).symm
  rw [List.take_of_length_le (by rw [List.length_drop, e]; exact Nat.le_refl _)]
def putIn (z : Str) (i : Int) (c : Nat) : Str := z27 z none (some i) ++ one c ++ z27 z (some i) none
theorem z3U (n : Int) : z1o n ∈ sgnL := by
  unfold z1o
  have h1 := Int.emod_nonneg n (show (94 : Int) ≠ 0 by decide)
  have h2 := Int.emod_lt_of_pos n (show (0 : Int) < 94 by decide)
  have hj : (n % 94).toNat < sgnL.length := by rw [z2N]; omega
  rw [List.getD_eq_getElem?_getD, List.getElem?_eq_getElem hj]
  exact List.getElem_mem hj
theorem z3x {α : Type} (f : α -> Nat) : ∀ l : List α, (l.map fun a => (f a : Int)).sum = ((l.map f).sum : Nat)
  | [] => rfl
  | a :: l => by
    rw [List.map_cons, List.map_cons, List.sum_cons, List.sum_cons, z3x f l, Int.natCast_add]
theorem z7G {hg : Nat} : ∀ {Ss : List Sg} {S : Sg}, FontOk hg Ss -> S ∈ Ss -> wOf Ss S.c = S.w := fun {Ss S} O hS => by
  obtain ⟨i, hi, e⟩ := List.mem_iff_getElem.mp hS
  have key : ∀ j, j <= Ss.length -> z5X Ss S.c j = if i < j then S.w else 0 := fun j => by
    induction j with
    | zero => intro _; rfl
    | succ j ih =>
      intro hj
      have hjl : j < Ss.length := by omega
      rw [z5Y (List.getElem?_eq_getElem hjl), ih (by omega)]
      by_cases h : j = i
      . subst h
        rw [if_neg (Nat.lt_irrefl _), if_pos (Nat.lt_succ_self _), if_pos (by rw [e]), e, Nat.zero_add]
      . have ne : Ss[j].c ≠ S.c := fun z => h (by
          rw [<- e] at z
          have nd := O.nd
          have z' : (Ss.map (·.c))[j]'(by rw [List.length_map]; exact hjl) = (Ss.map (·.c))[i]'(by rw [List.length_map]; exact hi) := by rw [List.getElem_map, List.getElem_map]; exact z
          exact (List.getElem_inj nd).mp z')
        rw [if_neg ne]
        by_cases h2 : i < j
        . rw [if_pos h2, if_pos (by omega)]
          rfl
        . rw [if_neg h2, if_neg (by omega)]
  have := key Ss.length (Nat.le_refl _)
  rw [z6u, if_pos hi] at this
  exact this
def sgB (z : Str) : Bool := decide (z.length = 1) && ((decide (32 <= z.cps.getD 0 0) && decide (z.cps.getD 0 0 <= 126)) && decide (z.cps.getD 0 0 ≠ 37))
def sgV : V -> Bool
  | .str z => sgB z
  | _ => false
theorem sgn_mem {c : Nat} : c ∈ sgnL ↔ 32 <= c /\ c <= 126 /\ c ≠ 37 := by
  unfold sgnL
  rw [List.mem_filter, List.mem_map, decide_eq_true_iff]
  constructor
  . rintro ⟨⟨a, ha, rfl⟩, h⟩
    have := List.mem_range.mp ha
    omega
  . rintro ⟨h1, h2, h3⟩
    exact ⟨⟨c - 32, List.mem_range.mpr (by omega), by omega⟩, h3⟩
theorem z9m {c : Nat} (h : c ∈ sgnL) : sgB (one c) = true := by
  obtain ⟨h1, h2, h3⟩ := sgn_mem.mp h
  unfold sgB
  have e : (one c).cps.getD 0 0 = c := rfl
  rw [e, decide_eq_true (z9U c), decide_eq_true h1, decide_eq_true h2, decide_eq_true h3]
  rfl
def z7H : Sp := fun vs H Q _ => ∃ v T, vs = [v] /\ tyS H v = some T /\ (∀ z, v = .str z -> z.length <= 1000) /\ Q (.bl (sgV v)) H
inductive PairIs (H : Hp) (v : V) : Bool -> Prop
  | no (T : String) : tyS H v = some T -> (T == "tuple") = false -> PairIs H v false
  | few (t : Addr) (xs : List V) : v = .ref t -> H t = some (.tup xs) -> xs.length ≠ 2 -> PairIs H v false
  | two (t : Addr) (a b : V) (T : String) (k : Bool) : v = .ref t -> H t = some (.tup [a, b]) -> tyS H a = some T -> (∀ z, a = .str z -> z.length <= 1000) -> IsP H b k -> PairIs H v (sgV a && k)
theorem PrAt.isPair {hg : Nat} {H : Hp} {t : Addr} {S : Sg} (h : PrAt hg H t S) (hc : S.c ∈ sgnL) : PairIs H (.ref t) true := by
  obtain ⟨p, a, b, R⟩ := h
  have q := PairIs.two (H := H) (v := .ref t) t (.str (one S.c)) (.ref p) "str" true rfl a rfl (fun z e => by cases e; exact (by decide : (1 : Nat) <= 1000)) (b.isP R)
  rw [Bool.and_true] at q
  have e : sgV (.str (one S.c)) = true := z9m hc
  rw [e] at q
  exact q
def z7I : Sp := fun vs H Q _ => ∃ v k, vs = [v] /\ PairIs H v k /\ ∀ H', Same H H' -> Q (.bl k) H'
def z3V : Sp := fun vs H Q _ => ∃ (l : Addr) (us : List Addr) (Ss : List Sg) (hg : Nat), vs = [.ref l] /\ PrsAt hg H l us Ss /\ FontOk hg Ss /\ ∀ d H', Same H H' -> H d = none -> PicsAt hg H' d Ss -> Q (.ref d) H'
def zAj (H : Hp) (l : Addr) (Ss : List Sg) (cs : List Nat) : Prop := ∃ ps : List Addr, ps.length = cs.length /\ H l = some (.lst (ps.map V.ref)) /\ ∀ (i : Nat) p c, ps[i]? = some p -> cs[i]? = some c -> ∃ S ∈ Ss, S.c = c /\ PicAt H p S.w S.rows
def z2R (C cS : Addr) : Sp := fun vs H Q E => ∃ (x : Addr) (z : Str) (Ss : List Sg) (hg : Nat) (gap : Int), vs = [.ref x, .str z] /\ FA C H x hg Ss gap /\ FontOk hg Ss /\ z.length <= 1000 /\ z8P z /\
  (firstBad Ss z.cps.toList 0 = none -> ∀ l H', Same H H' -> H l = none -> zAj H' l Ss z.cps.toList -> Q (.ref l) H') /\
  ∀ c i d H', firstBad Ss z.cps.toList 0 = some (c, i) -> Same H H' -> H' d = some (.ext (z2G d [("at", .int (i : Nat)), ("sign", .str (one c))])) -> E (.ref cS) (some d) H'
def zB8 (C : Addr) : Sp := fun vs H Q _ => ∃ (x : Addr) (Ss : List Sg) (hg : Nat) (gap : Int), vs = [.ref x] /\ FA C H x hg Ss gap /\ Q (.int hg) H
end L2
namespace L2
open PySem PySem.Spec PyProof.Rows G
section
variable {prog : Program} {w : World} {A : Around} {R : Result -> Shared -> Prop} {J : Addr} {fp wr : List Addr} {n : Nat} {P : Nat -> Value -> Prop} {St : Nat -> Heap -> Prop}
theorem z2S : (toString "max" ++ toString ".loop" : String) = "max.loop" := by decide
theorem z8S (W : Walks prog w A.in1 J fp wr n P St) (bt : Nat -> Nat -> Bool) (hcmp : CmpOf prog w A.in1 .Gt P bt) (S : Addr) (nS : S ∉ fp) (kw : List (Str × Value)) :
    ∀ (k j b : Nat) (s : Shared) (vb : Value) (c : Nat), n - j = k -> j <= n -> St j s.heap -> b < n -> P b vb ->
    s.heap.get? S = some { cls := .type "list", dict := none, data := .seq #[vb, vb] c, slots := #[] } ->
    (∀ i v h' tk, i < n -> P i v -> (∀ b o, b ∉ wr -> b ≠ S -> s.heap.get? b = some o -> h'.get? b = some o) -> R (.ok (.ret v)) { s with heap := h', toks := tk }) ->
    codeAny (model prog w) A (.builtin "max.loop" ⟨[.ref J, .none, .ref S], kw⟩) R s := by
  have nw : S ∉ wr := fun h => nS (W.sub _ h)
  intro k
  induction k with
  | zero =>
    intro j b s vb c e0 ej hst eb hPb gS hR
    have hin : j = n := by omega
    subst hin
    refine codeAny_builtin F.entry_max_loop ?_
    rw [Around.under_plainId F.plain_max_loop _]
    refine wpAny_bind (wpAny_seqItems gS rfl ?_)
    refine wpAny_bind (wpAny_tryCatch (W.done s _ _ hst fun h' tk kp => ?_))
    have gS' := kp S _ nw gS
    refine wpAny_bind ?_
    refine wpAny_updateSeq gS' rfl (wpAny_bind (wpAny_letGo (wpAny_pure ?_)))
    exact hR b vb _ tk eb hPb fun b o h1 h2 e => (Heap.get?_update_other _ _ (Ne.symm h2)).trans (kp b o h1 e)
  | succ k ih =>
    intro j b s vb c e0 ej hst eb hPb gS hR
    have hlt : j < n := by omega
    refine codeAny_builtin F.entry_max_loop ?_
    rw [Around.under_plainId F.plain_max_loop _]
    refine wpAny_bind (wpAny_seqItems gS rfl ?_)
    refine wpAny_bind (wpAny_tryCatch (W.item j s _ _ hlt hst fun v h' tk hP hst' kp => ?_))
    have gS' := kp S _ nw gS
    show wpAny _ A.in1 (tryCatch (holding [v, v] (richCompare .Gt v vb >>= _)) _ >>= _) _ _ _
    refine wpAny_bind (wpAny_tryCatch (wpAny_holding (wpAny_bind (hcmp j b v vb _ _ _ hP hPb ?_))))
    refine wpAny_bind (wpAny_holding (wpAny_truthy_bool ?_))
    refine wpAny_bind (wpAny_letGo (wpAny_pure ?_))
    cases hb : bt j b with
    | true =>
      simp only [if_true]
      refine wpAny_bind ?_
      refine wpAny_updateSeq gS' rfl (wpAny_bind (wpAny_letGo ?_))
      rw [z2S]
      refine wpAny_pure ⟨plainId_quiet F.plain_max_loop _, ih (j + 1) j _ v _ (by omega) hlt (W.frame _ _ _ hst' fun b hbf o e => ?_) hlt hP (Heap.get?_update_self _ gS' rfl) fun i v' h2 tk2 hi hP' k2 => ?_⟩
      . exact (Heap.get?_update_other _ _ (fun h : S = b => nS (by rw [h]; exact hbf))).trans e
      . exact hR i v' h2 tk2 hi hP' fun b o h3 h4 e => k2 b o h3 h4 ((Heap.get?_update_other _ _ (Ne.symm h4)).trans (kp b o h3 e))
    | false =>
      simp only [Bool.false_eq_true, if_false]
      refine wpAny_bind (wpAny_letGo ?_)
      rw [z2S]
      refine wpAny_pure ⟨plainId_quiet F.plain_max_loop _, ih (j + 1) b _ vb c (by omega) hlt hst' eb hPb gS' fun i v' h2 tk2 hi hP' k2 => ?_⟩
      exact hR i v' h2 tk2 hi hP' fun b o h3 h4 e => k2 b o h3 h4 (kp b o h3 e)
theorem z7J (W : Walks prog w A.in1 J fp wr n P St) (bt : Nat -> Nat -> Bool) (hcmp : CmpOf prog w A.in1 .Gt P bt) (S : Addr) (nS : S ∉ fp) (x : Str) (d : Value) {s : Shared} {c : Nat} (hst : St 0 s.heap)
    (gS : s.heap.get? S = some { cls := .type "list", dict := none, data := .seq #[] c, slots := #[] })
    (h0 : n = 0 -> ∀ h' tk, (∀ b o, b ∉ wr -> s.heap.get? b = some o -> h'.get? b = some o) -> R (.ok (.ret d)) { s with heap := h', toks := tk })
    (hR : ∀ i v h' tk, i < n -> P i v -> (∀ b o, b ∉ wr -> b ≠ S -> s.heap.get? b = some o -> h'.get? b = some o) -> R (.ok (.ret v)) { s with heap := h', toks := tk }) :
    codeAny (model prog w) A (.builtin "max.loop" ⟨[.ref J, .none, .ref S], [(x, d)]⟩) R s := by
  have nw : S ∉ wr := fun h => nS (W.sub _ h)
  refine codeAny_builtin F.entry_max_loop ?_
  rw [Around.under_plainId F.plain_max_loop _]
  refine wpAny_bind (wpAny_seqItems gS rfl ?_)
  by_cases hn : n = 0
  . subst hn
    refine wpAny_bind (wpAny_tryCatch (W.done s _ _ hst fun h' tk kp => ?_))
    exact wpAny_bind (wpAny_rule (wpAny_pure (h0 rfl h' tk kp)))
  . refine wpAny_bind (wpAny_tryCatch (W.item 0 s _ _ (by omega) hst fun v h' tk hP hst' kp => ?_))
    have gS' := kp S _ nw gS
    refine wpAny_bind (wpAny_pure ?_)
    refine wpAny_bind ?_
    refine wpAny_updateSeq gS' rfl ?_
    rw [z2S]
    refine wpAny_pure ⟨plainId_quiet F.plain_max_loop _, z8S W bt hcmp S nS _ _ 1 0 _ v _ rfl (by omega) (W.frame _ _ _ hst' fun b hbf o e => ?_) (by omega) hP (Heap.get?_update_self _ gS' rfl) fun i v' h2 tk2 hi hP' k2 => ?_⟩
    . exact (Heap.get?_update_other _ _ (fun h : S = b => nS (by rw [h]; exact hbf))).trans e
    . exact hR i v' h2 tk2 hi hP' fun b o h3 h4 e => k2 b o h3 h4 ((Heap.get?_update_other _ _ (Ne.symm h4)).trans (kp b o h3 e))
end
section
variable {prog : Program} {w : World} {A : Around} {E : Value -> Shared -> Prop} {s : Shared} {l : Addr} {xs : Array (Int × Tok)}
theorem z8T (a d : Value) : argsOk "max" ⟨[a], [(Str.ofString "default", d)]⟩ := by unfold argsOk; kernel_rfl
theorem z8U {Q : Value -> Shared -> Prop} {d : Value} (hh : A.handled = none) (hl : s.heap.IsList l (intItems xs))
    (h0 : xs.size = 0 -> ∀ h' tk, (∀ b o, s.heap.get? b = some o -> h'.get? b = some o) -> Q d { s with heap := h', toks := tk })
    (h : ∀ (i : Nat) v h' tk, (intItems xs)[i]? = some v -> (∀ b o, s.heap.get? b = some o -> h'.get? b = some o) -> Q v { s with heap := h', toks := tk }) :
    wpAny (model prog w) A (call (.builtin "max") [.ref l] [(Str.ofString "default", d)]) Q E s := by
  refine PyProof.Rows.kmk_tree F.kind_max F.plain_max F.entry_max (z8T _ _) ?_
  refine wpAny_bind (wpAny_of_eq (show Builtin.Builtins.bindParams "max" ["key", "default"] 0 ⟨[], [(Str.ofString "default", d)]⟩ = pure [none, some d] from rfl) ?_)
  refine wpAny_bind (wpAny_pure ?_)
  refine wpAny_bind (iter_intList hl fun s₂ e st hfp hlI => ?_)
  subst e
  refine wpAny_bind (wpAny_newObj_type ?_)
  have hSf : (s.heap.push { cls := .type "list_iterator", data := .fields #[.ref l, .int 0 0] }).objs.size ∉ [s.heap.objs.size, l] := fun hm => Nat.lt_irrefl _ (hfp _ hm)
  rw [z2S]
  have W := Walks.list (prog := prog) (w := w) (A := A.in1) hh s.heap.objs.size l hlI (intItems xs)
  refine wpAny_pure ⟨plainId_quiet F.plain_max_loop _, z7J W _ (CmpOf.ints_gt (numAt xs) (fun _ _ => intItems_at)) _ hSf _ d (W.frame _ _ _ st fun b _ o e => Heap.get?_push_of_some _ e) (Heap.get?_push_size _ rfl) (fun hz h' tk kp => ?_) fun i v h' tk hi hP kp => ?_⟩
  . exact h0 (by simpa [intItems] using hz) h' tk (old_kept fun b o hb e => kp b o hb (Heap.get?_push_of_some _ e))
  . exact h i v h' tk hP (old_kept fun b o hb e => kp b o hb (Nat.ne_of_lt (Heap.lt_size e)) (Heap.get?_push_of_some _ e))
end
section
variable {X : Cx}
def zC8 (K : PySem.W.Frag) (t tk : TA) : TE := fun σ H Q => t σ H fun vs H1 => tk σ H1 fun zs H2 => ∃ (a : Addr) (ns : List Int) (d : Int), vs = [.ref a] /\ zs = [.int d] /\ SqL K H2 a (ns.map V.int) /\ ∀ z, (z ∈ ns \/ (ns = [] /\ z = d)) -> Q (.int z) H2
theorem z9n {x : Str} {p pos kp : Pos} {e e2 : Expr} {t tk : TA} (hc : X.calm = true) (hg : Gl X x) (hm : X.mg x = none) (hv : bootBuiltins x = some (.builtin "max")) (ha : PA X [e] t) (hk : PK X [⟨some (Str.ofString "default"), e2, kp⟩] tk) (hn : x ≠ "__name__" := by decide) (hdb : (x == ("__debug__" : Str)) = false := by decide)
    (he : backTo pos (starEach [e] X.env) = (false, eval e X.env) :: backTo pos (starEach [] X.env) := by rfl) (hpl : (backTo pos (starEach [e] X.env)).any (·.1) = false := by rfl)
    (h1 : (backToKw pos (keywordEach [⟨some (Str.ofString "default"), e2, kp⟩] X.env)).all (·.1.isSome) = true := by rfl) (h2 : (backToKw pos (keywordEach [⟨some (Str.ofString "default"), e2, kp⟩] X.env)).any (·.1.isNone) = false := by rfl)
    (h3 : (backToKw pos (keywordEach [⟨some (Str.ofString "default"), e2, kp⟩] X.env)).filterMap (·.1) = [Str.ofString "default"] := by rfl) : PE X (.Call (.Name x p) [e] [⟨some (Str.ofString "default"), e2, kp⟩] pos) (zC8 X.K t tk) := by
  intro pins s σ H Q I h
  refine wpAny_Call_Name_kw (z1u I hg hm hv ?_ hn hdb)
  refine PyProof.Rows.callWith_kw (thn (ha pos pins s σ H _ I h) fun us s1 ⟨vs, H1, I1, r, q⟩ => ?_) he hpl h1 h2
  refine thn (hk pos pins s1 σ H1 _ I1 q) fun ws s2 ⟨zs, H2, I2, rz, q2⟩ => ?_
  obtain ⟨a, ns, d, rfl, rfl, hq, q3⟩ := q2
  obtain ⟨u, rfl, ru⟩ := vals1 r
  cases (show u = Value.ref a from ru)
  obtain ⟨u2, rfl, ru2⟩ := vals1 rz
  obtain ⟨td, rfl⟩ := ru2
  rw [h3]
  obtain ⟨its, rv, pl, _⟩ := I2.list hq
  have hi := z30 rv
  obtain ⟨xs, e⟩ := hi.allInts.items
  have hns : ns = xs.toList.map (·.1) := by
    rw [<- hi.numsOf, <- nums_intItems, <- e]
  have hl : s2.heap.IsList a (intItems xs) := by rw [<- e]; exact pl.isList
  refine z8U (I2.ok.hd hc) hl (fun hz h' tk hk => ?_) fun i v h' tk hv hk => ?_
  . refine ⟨.int _, H2, I2.kept (t' := tk) hk, ⟨td, rfl⟩, q3 _ (.inr ⟨?_, rfl⟩)⟩
    rw [hns]
    have : xs = #[] := Array.eq_empty_of_size_eq_zero hz
    rw [this]
    rfl
  . obtain ⟨t, rfl⟩ := intItems_at hv
    refine ⟨.int _, H2, I2.kept (t' := tk) hk, ⟨t, rfl⟩, q3 _ (.inl ?_)⟩
    have hlt : i < xs.size := by
      have := (Array.getElem?_eq_some_iff.mp hv).1
      simpa [intItems] using this
    rw [hns, numAt_eq]
    exact getD_mem (by rw [List.length_map, Array.length_toList]; omega)
def zEW : R2 := fun x y H Q => ∃ (c : Nat) (z : Str), x = .str (one c) /\ y = .str z /\ Q (.bl (decide (c ∈ z.cps.toList))) H
def zD5 : V -> List V -> Hp -> VK -> Prop := fun x vs H Q => ∃ (c : Nat) (z : Str) (i : Nat), x = .str z /\ vs = [.str (one c)] /\ z.cps.toList[i]? = some c /\ c ∉ z.cps.toList.take i /\ Q (.int (i : Int)) H
def zEX (K : PySem.W.Frag) : R2 := fun x y H Q => ∃ (a b : Addr) (zs : List Str), x = .ref a /\ y = .ref b /\ SqL K H a (zs.map V.str) /\ SqL K H b (zs.map V.str) /\ Q (.bl false) H
end
end L2
namespace L2
open PySem PySem.Spec PyProof.Rows G
structure GPrs (H : Hp) (l : Addr) (us : List Addr) (Ss : List Sg) (hs : List Nat) : Prop where
  lst : H l = some (.lst (us.map V.ref))
  len : us.length = Ss.length
  len2 : hs.length = Ss.length
  at' : ∀ (i : Nat) t S h, us[i]? = some t -> Ss[i]? = some S -> hs[i]? = some h -> PrAt h H t S
  sg : ∀ S ∈ Ss, S.c ∈ sgnL
  n1 : 1 <= Ss.length
  n2 : Ss.length <= 60
inductive BadPr (H : Hp) (v : V) : Prop
  | no (T : String) : tyS H v = some T -> (T == "list") = false -> BadPr H v
  | size (l : Addr) (xs : List V) : v = .ref l -> H l = some (.lst xs) -> xs.length <= 1000 -> (xs.length = 0 \/ 60 < xs.length) -> BadPr H v
  | pair (l : Addr) (xs : List V) (bs : List Bool) : v = .ref l -> H l = some (.lst xs) -> 1 <= xs.length -> xs.length <= 60 -> bs.length = xs.length -> (∀ (i : Nat) x b, xs[i]? = some x -> bs[i]? = some b -> PairIs H x b) -> false ∈ bs -> BadPr H v
  | twice (l : Addr) (us : List Addr) (Ss : List Sg) (hs : List Nat) : v = .ref l -> GPrs H l us Ss hs -> ¬ (Ss.map (·.c)).Nodup -> BadPr H v
  | unlike (l : Addr) (us : List Addr) (Ss : List Sg) (hs : List Nat) : v = .ref l -> GPrs H l us Ss hs -> (Ss.map (·.c)).Nodup -> (∃ (i : Nat) (h : Nat), hs[i]? = some h /\ hs[0]? ≠ some h) -> BadPr H v
theorem GPrs.pics {H : Hp} {l : Addr} {us : List Addr} {Ss : List Sg} {hs : List Nat} (h : GPrs H l us Ss hs) : ∃ ps : List Addr, ps.length = Ss.length /\ ∀ (i : Nat) t S k p, us[i]? = some t -> Ss[i]? = some S -> hs[i]? = some k -> ps[i]? = some p -> H t = some (.tup [.str (one S.c), .ref p]) /\ PicAt H p S.w S.rows /\ Rect S.w k S.rows := by
  have lu := h.len
  have lh := h.len2
  obtain ⟨ps, hl, hp⟩ := z4Y (P := fun i p => ∃ (hi : i < us.length) (hj : i < Ss.length) (hk : i < hs.length), H us[i] = some (.tup [.str (one Ss[i].c), .ref p]) /\ PicAt H p Ss[i].w Ss[i].rows /\ Rect Ss[i].w hs[i] Ss[i].rows) Ss.length fun i hi => by
    have hu : i < us.length := by omega
    have hk : i < hs.length := by omega
    obtain ⟨p, a, b, c⟩ := h.at' i _ _ _ (List.getElem?_eq_getElem hu) (List.getElem?_eq_getElem hi) (List.getElem?_eq_getElem hk)
    exact ⟨p, hu, hi, hk, a, b, c⟩
  refine ⟨ps, hl, fun i t S k p e1 e2 e3 e4 => ?_⟩
  obtain ⟨hi, hj, hk, a, b⟩ := hp i p e4
  rw [List.getElem?_eq_getElem hi] at e1
  rw [List.getElem?_eq_getElem hj] at e2
  rw [List.getElem?_eq_getElem hk] at e3
  cases e1
  cases e2
  cases e3
  exact ⟨a, b⟩
theorem PairIs.mono {H H' : Hp} {v : V} {k : Bool} (s : Same H H') (h : PairIs H v k) : PairIs H' v k := by
  cases h with
  | no T h1 h2 => exact .no T (z1K s h1) h2
  | few t xs h1 h2 h3 => exact .few t xs h1 (s _ _ h2) h3
  | two t a b T k h1 h2 h3 h4 h5 => exact .two t a b T k h1 (s _ _ h2) (z1K s h3) h4 (h5.mono s)
theorem GPrs.mono {H H' : Hp} {l : Addr} {us : List Addr} {Ss : List Sg} {hs : List Nat} (s : Same H H') (h : GPrs H l us Ss hs) : GPrs H' l us Ss hs :=
  ⟨s _ _ h.lst, h.len, h.len2, fun i t S k a b c => let ⟨p, x, y, z⟩ := h.at' i t S k a b c; ⟨p, s _ _ x, y.mono s, z⟩, h.sg, h.n1, h.n2⟩
theorem BadPr.mono {H H' : Hp} {v : V} (s : Same H H') (h : BadPr H v) : BadPr H' v := by
  cases h with
  | no T h1 h2 => exact .no T (z1K s h1) h2
  | size l xs h1 h2 h3 h4 => exact .size l xs h1 (s _ _ h2) h3 h4
  | pair l xs bs h1 h2 h3 h4 h5 h6 h7 => exact .pair l xs bs h1 (s _ _ h2) h3 h4 h5 (fun i x b a c => (h6 i x b a c).mono s) h7
  | twice l us Ss hs h1 h2 h3 => exact .twice l us Ss hs h1 (h2.mono s) h3
  | unlike l us Ss hs h1 h2 h3 h4 => exact .unlike l us Ss hs h1 (h2.mono s) h3 h4
def BadF (H : Hp) (p g : V) : Prop := (∃ T, tyS H g = some T /\ inB g 0 8 = false) \/ ((∃ T, tyS H g = some T /\ inB g 0 8 = true) /\ BadPr H p)
theorem BadF.mono {H H' : Hp} {p g : V} (s : Same H H') (h : BadF H p g) : BadF H' p g := by
  rcases h with ⟨T, a, b⟩ | ⟨⟨T, a, b⟩, c⟩
  . exact .inl ⟨T, z1K s a, b⟩
  . exact .inr ⟨⟨T, z1K s a, b⟩, c.mono s⟩
def zC9 (cN : Addr) : Sp := fun vs H Q E => z3V vs H Q E \/ ∃ v, vs = [v] /\ BadPr H v /\ ∀ H', Same H H' -> E (.ref cN) none H'
def zCA (C cN : Addr) : Sp := fun vs H Q E => z3R C vs H Q E \/ ∃ (x dx : Addr) (p g : V), vs = [.ref x, p, g] /\ H x = some (.ins C dx []) /\ BadF H p g /\ ∀ H', Same H H' -> E (.ref cN) none H'
def zCB (K : PySem.W.Frag) : Sp := fun vs H Q _ => ∃ (a p : Addr) (ns : List Int) (k : Int) (w h : Nat) (rows : Rws), vs = [.ref a, .int k, .ref p] /\ SqL K H a (ns.map V.int) /\ 0 <= k /\ k < 1000 /\ PicAt H p w rows /\ Rect w h rows /\ ∀ v H', Same H H' -> IsP H' v false -> Q v H'
def zCC (K : PySem.W.Frag) : Sp := fun vs H Q _ => ∃ (a l : Addr) (ns : List Int) (k : Int) (xs : List V) (v : V), vs = [.ref a, .int k, .ref l, v] /\ SqL K H a (ns.map V.int) /\ 0 <= k /\ k < 1000 /\ H l = some (.lst xs) /\ xs.length <= 60 /\
  ∀ (i : Nat) m H', i <= xs.length -> Same H H' -> H m = none -> H' m = some (.lst (xs.take i ++ v :: xs.drop i)) -> Q (.ref m) H'
def zAk (K : PySem.W.Frag) : Sp := fun vs H Q _ => ∃ (a m l : Addr) (ns : List Int) (ts : List Addr) (Ss : List Sg) (hg : Nat) (way : Int), vs = [.ref a, .ref m, .ref l, .int way] /\ SqL K H a (ns.map V.int) /\ SgsAt hg H m ts Ss /\ FontOk hg Ss /\ 1 <= hg /\ hg <= 63 /\ Ss.length <= 59 /\ 0 <= way /\ way <= 4 /\
  (∀ (i : Nat) S, Ss[i]? = some S -> S.c = z1o (z18 ns 0 10039 94 + 37 * i)) /\
  (∀ t S H', Same H H' -> PrAt (hg + 1) H' t S -> S.c ∈ sgnL -> known Ss S.c = false -> Q (.ref t) H') /\
  (∀ t S H', Same H H' -> PrAt hg H' t S -> S.c ∈ sgnL -> known Ss S.c = true -> Q (.ref t) H') /\
  ∀ v H', Same H H' -> PairIs H' v false -> Q v H'
def zB9 (K : PySem.W.Frag) : Sp := fun vs H Q _ => ∃ (a : Addr) (ns : List Int), vs = [.ref a] /\ SqL K H a (ns.map V.int) /\ ∀ g T H', Same H H' -> tyS H' g = some T -> inB g 0 8 = false -> Q g H'
def zBA (K : PySem.W.Frag) : Sp := fun vs H Q _ => ∃ (a l : Addr) (ns : List Int) (us : List Addr) (Ss : List Sg) (hg : Nat), vs = [.ref a, .int (hg : Nat), .ref l] /\ SqL K H a (ns.map V.int) /\ PrsAt hg H l us Ss /\ FontOk hg Ss /\ 1 <= hg /\ hg <= 64 /\ ∀ v H', Same H H' -> BadPr H' v -> Q v H'
def z9x : Sp := fun vs H Q _ => ∃ p g, vs = [p, g] /\ BadF H p g /\ ∀ H', Same H H' -> Q (.bl true) H'
def zCD (K : PySem.W.Frag) : Sp := fun vs H Q _ => ∃ (m : Addr) (ts : List Addr) (Ss : List Sg) (hg : Nat) (gap : Int), vs = [.ref m, .int gap] /\ SgsAt hg H m ts Ss /\ FontOk hg Ss /\ 1 <= hg /\ hg <= 64 /\ 0 <= gap /\ gap <= 8 /\ ∀ H', Same H H' -> Q (.bl true) H'
section
variable {X : Cx} {a : Addr}
end
section
variable {X : Cx} {pins : List (Addr × Obj)} {σ : St} {H : Hp} {s : Shared} {A : Around}
end
def zDu : R2 := fun x y H Q => ∃ (a b : Addr) (us vs : List Addr) (Ss : List Sg) (hg : Nat), x = .ref a /\ y = .ref b /\ PrsAt hg H a us Ss /\ PrsAt hg H b vs Ss /\ Q (.bl false) H
theorem z7K {α : Type} {xs : List α} {i : Nat} (hi : i <= xs.length) (v : α) (j : Nat) : (xs.take i ++ v :: xs.drop i)[j]? = if j < i then xs[j]? else if j = i then some v else xs[j - 1]? := by
  have hl : (xs.take i).length = i := by rw [List.length_take]; omega
  by_cases h1 : j < i
  . rw [if_pos h1, List.getElem?_append_left (by omega), List.getElem?_take, if_pos h1]
  . rw [if_neg h1, List.getElem?_append_right (by omega), hl]
    by_cases h2 : j = i
    . rw [if_pos h2, h2, Nat.sub_self]
      rfl
    . rw [if_neg h2]
      obtain ⟨k, e⟩ : ∃ k, j - i = k + 1 := ⟨j - i - 1, by omega⟩
      rw [e, List.getElem?_cons_succ, List.getElem?_drop]
      congr 1
      omega
theorem z2B {α : Type} {xs : List α} {i : Nat} (hi : i <= xs.length) (v : α) : (xs.take i ++ v :: xs.drop i).length = xs.length + 1 := by
  rw [List.length_append, List.length_take, List.length_cons, List.length_drop]
  omega
theorem ins_map {α β : Type} (f : α -> β) (xs : List α) (i : Nat) (v : α) : (xs.map f).take i ++ f v :: (xs.map f).drop i = (xs.take i ++ v :: xs.drop i).map f := by
  rw [List.map_append, List.map_cons, List.map_take, List.map_drop]
theorem z9o {α : Type} {xs : List α} {i : Nat} {v x : α} (h : x ∈ xs.take i ++ v :: xs.drop i) : x ∈ xs \/ x = v := by
  rcases List.mem_append.mp h with h | h
  . exact .inl (List.mem_of_mem_take h)
  . rcases List.mem_cons.mp h with h | h
    . exact .inr h
    . exact .inl (List.mem_of_mem_drop h)
theorem GPrs.ins {H : Hp} {l0 l t : Addr} {us : List Addr} {Ss : List Sg} {S : Sg} {hg h i : Nat} (PA : PrsAt hg H l0 us Ss) (FO : FontOk hg Ss) (hi : i <= us.length) (hn : Ss.length <= 59) (hl : H l = some (.lst ((us.map V.ref).take i ++ .ref t :: (us.map V.ref).drop i))) (PR : PrAt h H t S) (hS : S.c ∈ sgnL) :
    GPrs H l (us.take i ++ t :: us.drop i) (Ss.take i ++ S :: Ss.drop i) ((List.replicate Ss.length hg).take i ++ h :: (List.replicate Ss.length hg).drop i) := by
  have lu := PA.len
  refine ⟨by rw [hl, ins_map], by rw [z2B hi, z2B (by omega), lu], by rw [z2B (by rw [List.length_replicate]; omega), z2B (by omega), List.length_replicate], fun j t' S' h' e1 e2 e3 => ?_, fun S' hS' => ?_, by rw [z2B (by omega)]; omega, by rw [z2B (by omega)]; omega⟩
  . rw [z7K hi] at e1
    rw [z7K (by omega)] at e2
    rw [z7K (by rw [List.length_replicate]; omega)] at e3
    by_cases h1 : j < i
    . rw [if_pos h1] at e1 e2 e3
      rw [(List.mem_replicate.mp (List.mem_of_getElem? e3)).2]
      exact PA.at' j _ _ e1 e2
    . rw [if_neg h1] at e1 e2 e3
      by_cases h2 : j = i
      . rw [if_pos h2] at e1 e2 e3
        cases e1
        cases e2
        cases e3
        exact PR
      . rw [if_neg h2] at e1 e2 e3
        rw [(List.mem_replicate.mp (List.mem_of_getElem? e3)).2]
        exact PA.at' _ _ _ e1 e2
  . rcases z9o hS' with h | h
    . exact FO.sg _ h
    . rw [h]
      exact hS
def blankS : Str := ⟨#[32]⟩
def z5k (w : Str) : Prop := 32 ∉ w.cps.toList
theorem z8V {a b a' b' : List Nat} (h : a ++ 32 :: b = a' ++ 32 :: b') (ha : 32 ∉ a) (ha' : 32 ∉ a') : a = a' /\ b = b' := by
  induction a generalizing a' with
  | nil =>
    cases a' with
    | nil => exact ⟨rfl, (List.cons.inj h).2⟩
    | cons x a' =>
      have := (List.cons.inj h).1
      exact absurd (by rw [<- this]; exact List.mem_cons_self) ha'
  | cons x a ih =>
    cases a' with
    | nil =>
      have := (List.cons.inj h).1
      exact absurd (by rw [this]; exact List.mem_cons_self) ha
    | cons y a' =>
      obtain ⟨e1, e2⟩ := List.cons.inj h
      obtain ⟨e3, e4⟩ := ih e2 (fun z => ha (List.mem_cons_of_mem _ z)) (fun z => ha' (List.mem_cons_of_mem _ z))
      exact ⟨by rw [e1, e3], e4⟩
theorem z7L {a b : Str} (h : a.cps.toList = b.cps.toList) : a = b := PySem.Str.ext' (Array.toList_inj.mp h)
theorem z23 (x y : Str) (r : List Str) : (Str.join blankS (x :: y :: r)).cps.toList = x.cps.toList ++ 32 :: (Str.join blankS (y :: r)).cps.toList := by
  rw [PyProof.Rows.join_cons_cons, PySem.Str.cps_append, PySem.Str.cps_append, Array.toList_append, Array.toList_append, List.append_assoc]
  rfl
theorem z59 : ∀ {ws vs : List Str}, ws ≠ [] -> vs ≠ [] -> (∀ w ∈ ws, z5k w) -> (∀ v ∈ vs, z5k v) -> Str.join blankS ws = Str.join blankS vs -> ws = vs
  | [], _, h, _, _, _, _ => absurd rfl h
  | _, [], _, h, _, _, _ => absurd rfl h
  | [x], [y], _, _, _, _, e => by
    have e' : x = y := e
    rw [e']
  | [x], y :: z :: r, _, _, hx, _, e => by
    have e1 : x.cps.toList = _ := (congrArg (fun s => s.cps.toList) e).trans (z23 y z r)
    exact absurd (by rw [e1]; exact List.mem_append_right _ List.mem_cons_self) (hx x List.mem_cons_self)
  | x :: z :: r, [y], _, _, _, hy, e => by
    have e1 : y.cps.toList = _ := (congrArg (fun s => s.cps.toList) e).symm.trans (z23 x z r)
    exact absurd (by rw [e1]; exact List.mem_append_right _ List.mem_cons_self) (hy y List.mem_cons_self)
  | x :: x2 :: r, y :: y2 :: t, _, _, hx, hy, e => by
    have e1 := (z23 x x2 r).symm.trans ((congrArg (fun s => s.cps.toList) e).trans (z23 y y2 t))
    obtain ⟨e2, e3⟩ := z8V e1 (hx x List.mem_cons_self) (hy y List.mem_cons_self)
    rw [z7L e2, z59 (ws := x2 :: r) (vs := y2 :: t) (by simp) (by simp) (fun w h => hx w (List.mem_cons_of_mem _ h)) (fun w h => hy w (List.mem_cons_of_mem _ h)) (z7L e3)]
theorem z5l {ws : List Str} (h : ws ≠ []) (hw : ∀ w ∈ ws, z5k w) : Txt.split (Str.join blankS ws) blankS = ws := by
  refine z59 ?_ h (fun p hp => PySem.StrLaws.split_free _ 32 p hp) hw (PySem.StrLaws.join_split _ _)
  intro e
  have := PyProof.Rows.split_pos (Str.join blankS ws) blankS
  rw [e] at this
  exact absurd this (by decide)
section
variable {X : Cx}
def zAl : V -> List V -> Hp -> VK -> Prop := fun x vs H Q => ∃ (z sep : Str), x = .str z /\ vs = [.str sep] /\ (sep.length == 0) = false /\ z.length + 2 <= sizeLine /\ ∀ l, H l = none -> Q (.ref l) (upd H l (.lst ((Txt.split z sep).map V.str)))
theorem z3y : ∀ {l : List (Str × Tok)}, Vals ((l.map (·.1)).map V.str) (strValues l)
  | [] => .nil
  | p :: l => .cons ⟨p.2, rfl⟩ (z3y (l := l))
theorem z5A : MtR X "str.split" zAl := by
  intro pins s σ H x vs v us Q I rx rv h
  obtain ⟨z, sep, rfl, rfl, h0, hz, q⟩ := h
  obtain ⟨t, rfl⟩ := rx
  obtain ⟨u, rfl, ru⟩ := vals1 rv
  obtain ⟨t2, rfl⟩ := ru
  have hp : (Txt.split z sep).length <= sizeLine := Nat.le_trans (PyProof.Rows.split_le z sep) hz
  have fin : ∀ (l : List (Str × Tok)) (k : Nat), l.map (·.1) = Txt.split z sep -> EP X pins σ Q (.ref s.heap.objs.size) { s with toks := k, heap := s.heap.push { cls := .type "list", data := .seq (strValues l).toArray } } := fun l k e => by
    have kp : ∀ b o, s.heap.get? b = some o -> (s.heap.push { cls := .type "list", data := .seq (strValues l).toArray }).get? b = some o := fun b o h => Heap.get?_push_of_some _ h
    refine ⟨.ref _, _, I.laid (t' := k) kp (Nat.le_refl _) (show ObjOk X.prog X.w _ _ _ (.lst ((Txt.split z sep).map V.str)) from ⟨by rw [List.length_map]; exact hp, strValues l, 0, by rw [<- e]; exact z3y, Heap.get?_push_size _ rfl⟩), rfl, q _ (I.hok.fresh (Nat.le_refl _))⟩
  cases h1 : (decide (z.length < sep.length) || decide (Builtin.Str.strKind z < Builtin.Str.strKind sep))
  . cases hf : (Builtin.Str.occurrences z sep 0 z.length (z.length + 1)).isEmpty
    . have hs : Txt.split z sep = Builtin.Str.partsBetween z (Builtin.Str.occurrences z sep 0 z.length (z.length + 1)) sep.length := (if_neg (ne_true_of_eq_false h1)).trans (if_neg (ne_true_of_eq_false hf))
      refine call_meets F.slot_str_split (typeIs_str _ _ _) F.entry_str_split (F.args_str_split_2 _ _) (meets_str_split_sep z sep t t2 h1 h0 hf (by omega) (by rw [<- hs]; exact hp)) ?_
      show wants (EP X pins σ Q) X.xe _ { s with toks := _, heap := s.heap.push { cls := .type "list", data := .seq (strsFrom s.toks (Builtin.Str.partsBetween z (Builtin.Str.occurrences z sep 0 z.length (z.length + 1)) sep.length)).toArray } }
      rw [strsFrom_eq]
      exact fin _ _ ((numbered_texts _ _).trans hs.symm)
    . exact call_meets F.slot_str_split (typeIs_str _ _ _) F.entry_str_split (F.args_str_split_2 _ _) (meets_str_split_not_found z sep t t2 h1 h0 hf)
        (fin [(z, t)] s.toks ((if_neg (ne_true_of_eq_false h1)).trans (if_pos hf)).symm)
  . exact call_meets F.slot_str_split (typeIs_str _ _ _) F.entry_str_split (F.args_str_split_2 _ _) (meets_str_split_cannot_occur z sep t t2 h1)
      (fin [(z, t)] s.toks (if_pos h1).symm)
end
def zD6 (a : Addr) (ob : Obj) (kvs : List (Key × V)) : It :=
  ⟨fun i H => H a = some (.frz ob (.dK kvs)) /\ i < kvs.length, fun i H x H' => H' = H /\ ∃ k v, kvs[i]? = some (k, v) /\ x = kV k, fun i H => H a = some (.frz ob (.dK kvs)) /\ kvs.length <= i⟩
theorem zCE {P : Program} {w : World} {k : Key} {u : Value} (h : (z0R P w).is k u = true) : RelV (kV k) u := by
  rcases z0U h with ⟨i, t, rfl, rfl⟩ | ⟨x, t, rfl, rfl⟩
  . exact ⟨t, rfl⟩
  . exact ⟨t, rfl⟩
theorem z7M {P : Program} {w : World} {K : PySem.W.Frag} {tg : Expr} (it a : Addr) (ob : Obj) (kvs : List (Key × V)) (hia : it ≠ a) :
    Turn P w K tg (zD6 a ob kvs) [it] it (fun i h => ∃ es ep, ob.data = .dict es ep /\ h.IsKeyIter it a i kvs.length ep) where
  mem := by simp
  obj := fun i h st b hb => by
    have e : b = it := by simpa using hb
    subst e
    obtain ⟨_, _, _, o, e, c, d⟩ := st
    exact ⟨o, e, fun v q => by rw [d] at q; cases q⟩
  keep := fun i h h' st k => let ⟨es, ep, d, q⟩ := st; ⟨es, ep, d, q.at fun o e => k it (by simp) o e⟩
  item := by
    intro X hP hw hK hc i pins s σ H E I hf st hg
    subst hP hw hK
    obtain ⟨ha, hi⟩ := hg
    obtain ⟨es, ep, hd, hit⟩ := st
    obtain ⟨go, _, _, vs, rel, o, es', ep', g1, g2, g3, g4⟩ := I.hok a _ ha
    rw [go] at g1
    cases g1
    rw [hd] at g3
    cases g3
    have hl := rel.length
    have dat : s.heap.DictAt (z0R X.prog X.w) a vs ep := ⟨ob, es, go, g2, hd, g4⟩
    rw [hl] at hit
    have hx : kvs[i]? = some kvs[i] := List.getElem?_eq_getElem hi
    obtain ⟨u, hu, ru⟩ := z7C (k := kvs[i].1) (x := kvs[i].2) rel hx
    obtain ⟨f0, f1, f2, f3, f4, f5⟩ := hf it (by simp)
    refine wpAny_pyNext_dict_item hit dat hu fun key h' hkey st' sb => ?_
    have I1 : Inv X pins σ H { s with heap := h' } := I.turned (t' := s.toks) (fun b o hb e => (sb.2 b hb).trans e) f0 f1 f3 f4 f5
    obtain ⟨o, e, c, d⟩ := id st'
    exact ⟨key, rfl, z5I (s := { s with heap := h' }) e c d (by decide) ⟨kV kvs[i].1, H, I1, zCE hkey, ⟨rfl, kvs[i].1, kvs[i].2, hx, rfl⟩, ⟨es, ep, hd, by rw [hl]; exact st'⟩, fun b hb => (hf b hb).1⟩⟩
  done := by
    intro X hP hw hK hc i pins s σ H E I hf st hg
    subst hP hw hK
    obtain ⟨ha, hi⟩ := hg
    obtain ⟨es, ep, hd, hit⟩ := st
    obtain ⟨go, _, _, vs, rel, o, es', ep', g1, g2, g3, g4⟩ := I.hok a _ ha
    rw [go] at g1
    cases g1
    rw [hd] at g3
    cases g3
    have hl := rel.length
    have dat : s.heap.DictAt (z0R X.prog X.w) a vs ep := ⟨ob, es, go, g2, hd, g4⟩
    rw [hl] at hit
    obtain ⟨f0, f1, f2, f3, f4, f5⟩ := hf it (by simp)
    exact wpAny_pyNext_dict_end (I.ok.hd hc) hit dat (List.getElem?_eq_none (by omega)) fun h' eb => ⟨rfl, I.turned (t' := s.toks) (fun b o hb e => eb b o hb e) f0 f1 f3 f4 f5⟩
  self := fun _ _ _ _ _ st h => let ⟨_, _, _, q⟩ := st; wpAny_pyIter_keyiter q h
section
variable {X : Cx} {tg : Expr}
def zCF (td : TE) : TI := fun σ H R => td σ H fun x H1 => ∃ a kvs, x = .ref a /\ H1 a = some (.dK kvs) /\ ∀ ob, R (zD6 a ob kvs) (upd H1 a (.frz ob (.dK kvs)))
theorem z9p {o : Expr} {td : TE} (ho : PE X o td) : PI X tg o (zCF td) := by
  intro pins s σ H R I h
  refine thn (ho pins s σ H _ I h) fun v s1 ⟨x, H1, I1, r1, a, kvs, ex, ha, q1⟩ => ?_
  subst ex
  cases r1
  obtain ⟨z, hd, vs, rel, dd⟩ := z9C I1.hok ha
  obtain ⟨ob, es, ep, g1, g2, g3, g4⟩ := id dd
  have lt : a < s1.heap.objs.size := Heap.lt_size g1
  refine wpAny_pyIter_dict hd (show s1.heap.DictAt (z0R X.prog X.w) a vs ep from ⟨ob, es, g1, g2, g3, g4⟩) ?_
  have I2 := I1.kept (t' := s1.toks) (h' := s1.heap.push { cls := .type "dict_keyiterator", data := .fields #[.ref a, .int 0 0, .int vs.length 0, .int ep 0] }) fun b o e => Heap.get?_push_of_some _ e
  have I3 := I2.freeze ha (ob := ob) (Heap.get?_push_of_some _ g1)
  have hl := rel.length
  refine ⟨s1.heap.objs.size, [s1.heap.objs.size], _, _, _, rfl, I3, z7M _ a ob kvs (Nat.ne_of_gt lt), ⟨es, ep, g3, _, Heap.get?_push_size _ rfl, rfl, by rw [hl]; rfl⟩, fun b hb => ?_, q1 ob⟩
  have e : b = s1.heap.objs.size := by simpa using hb
  subst e
  refine I1.fpOk (Nat.le_refl _) ?_
  rw [z06 (Nat.ne_of_gt lt)]
  exact I1.hok.fresh (Nat.le_refl _)
end
section
variable {X : Cx}
theorem zCG {o e : Expr} {m : Str} {apos cpos : Pos} (h1 : attributeBase o m X.env (eval o X.env) = eval o X.env := by rfl) (h2 : (apos.endLine == cpos.line) = true := by rfl)
    (h3 : ((backTo cpos (starEach [e] X.env)).all (fun x => !x.1) && (backToKw cpos (keywordEach [] X.env)).all (fun x => x.1.isSome)
    && decide (([e] : List Expr).length + ([] : List Keyword).length + (if ([] : List Keyword).isEmpty then 0 else 1) < 30)) = true := by rfl) (h4 : backTo cpos (starEach [e] X.env) = [(false, eval e X.env)] := by rfl) : M1 X o m apos e cpos := ⟨h1, h3, h2, h4⟩
end
end L2
namespace L2
open PySem PySem.Spec PyProof.Rows G
def JB (g : List Str) : Str := Str.join blankS g
theorem z3z (x y : Str) (r : List Str) : JB (x :: y :: r) = x ++ blankS ++ JB (y :: r) := PyProof.Rows.join_cons_cons _ _ _ _
theorem z7N (a b c : Str) : a ++ b ++ c = a ++ (b ++ c) := PySem.Str.append_assoc a b c
theorem z7O : ∀ {a b : List Str}, a ≠ [] -> b ≠ [] -> JB (a ++ b) = JB a ++ blankS ++ JB b
  | [], _, h, _ => absurd rfl h
  | [x], [], _, h => absurd rfl h
  | [x], y :: r, _, _ => z3z x y r
  | x :: y :: r, b, _, hb => by
    show JB (x :: y :: (r ++ b)) = _
    rw [z3z, z3z]
    have ih := z7O (a := y :: r) (b := b) (by simp) hb
    have e : JB (y :: (r ++ b)) = JB (y :: r) ++ blankS ++ JB b := ih
    rw [e]
    simp only [z7N]
theorem z4a {g : List Str} (h : g ≠ []) (w : Str) : JB (g ++ [w]) = JB g ++ blankS ++ w := z7O h (by simp)
structure Grps (W : Str -> Int) (wide : Int) (ws : List Str) (gs : List (List Str)) : Prop where
  fl : gs.flatten = ws
  ne : ∀ g ∈ gs, g ≠ []
  fit : ∀ g ∈ gs, W (JB g) <= wide
  gap : ∀ (k : Nat) g g', gs[k]? = some g -> gs[k + 1]? = some g' -> ∀ h, g'.head? = some h -> wide < W (JB g ++ blankS ++ h)
theorem Grps.nil {W : Str -> Int} {wide : Int} : Grps W wide [] [] := ⟨rfl, (fun _ h => nomatch h), (fun _ h => nomatch h), (fun _ _ _ h => nomatch h)⟩
theorem Grps.grow {W : Str -> Int} {wide : Int} {ws : List Str} {gs : List (List Str)} {g : List Str} {w : Str} (h : Grps W wide ws (gs ++ [g])) (hw : W (JB g ++ blankS ++ w) <= wide) : Grps W wide (ws ++ [w]) (gs ++ [g ++ [w]]) where
  fl := by
    have := h.fl
    rw [List.flatten_append, List.flatten_singleton] at this
    rw [List.flatten_append, List.flatten_singleton, <- List.append_assoc, this]
  ne := fun x hx => by
    rcases List.mem_append.mp hx with e | e
    . exact h.ne x (List.mem_append_left _ e)
    . rw [List.mem_singleton.mp e]
      simp
  fit := fun x hx => by
    rcases List.mem_append.mp hx with e | e
    . exact h.fit x (List.mem_append_left _ e)
    . rw [List.mem_singleton.mp e, z4a (h.ne g (List.mem_append_right _ (List.mem_singleton.mpr rfl)))]
      exact hw
  gap := fun k x x' e1 e2 y hy => by
    have hk : k + 1 < (gs ++ [g ++ [w]]).length := (List.getElem?_eq_some_iff.mp e2).1
    rw [List.length_append] at hk
    have hk' : k + 1 < gs.length + 1 := hk
    rw [List.getElem?_append_left (by omega)] at e1
    by_cases c : k + 1 < gs.length
    . rw [List.getElem?_append_left c] at e2
      exact h.gap k x x' (by rw [List.getElem?_append_left (by omega)]; exact e1) (by rw [List.getElem?_append_left c]; exact e2) y hy
    . have ek : k + 1 = gs.length := by omega
      rw [ek, List.getElem?_concat_length] at e2
      cases e2
      refine h.gap k x g (by rw [List.getElem?_append_left (by omega)]; exact e1) (by rw [ek, List.getElem?_concat_length]) y ?_
      cases hg : g with
      | nil => exact absurd hg (h.ne g (List.mem_append_right _ (List.mem_singleton.mpr rfl)))
      | cons z r => rw [hg] at hy; exact hy
theorem Grps.more {W : Str -> Int} {wide : Int} {ws : List Str} {gs : List (List Str)} {w : Str} (h : Grps W wide ws gs) (hw : W w <= wide) (hl : ∀ g, gs.getLast? = some g -> wide < W (JB g ++ blankS ++ w)) : Grps W wide (ws ++ [w]) (gs ++ [[w]]) where
  fl := by rw [List.flatten_append, List.flatten_singleton, h.fl]
  ne := fun x hx => by
    rcases List.mem_append.mp hx with e | e
    . exact h.ne x e
    . rw [List.mem_singleton.mp e]
      simp
  fit := fun x hx => by
    rcases List.mem_append.mp hx with e | e
    . exact h.fit x e
    . rw [List.mem_singleton.mp e]
      exact hw
  gap := fun k x x' e1 e2 y hy => by
    have hk : k + 1 < (gs ++ [[w]]).length := (List.getElem?_eq_some_iff.mp e2).1
    rw [List.length_append] at hk
    have hk' : k + 1 < gs.length + 1 := hk
    rw [List.getElem?_append_left (by omega)] at e1
    by_cases c : k + 1 < gs.length
    . rw [List.getElem?_append_left c] at e2
      exact h.gap k x x' e1 e2 y hy
    . have ek : k + 1 = gs.length := by omega
      rw [ek, List.getElem?_concat_length] at e2
      cases e2
      cases hy
      refine hl x ?_
      rw [List.getLast?_eq_getElem?, <- ek, Nat.add_sub_cancel]
      exact e1
theorem z40 : ∀ {gs : List (List Str)}, (∀ g ∈ gs, g ≠ []) -> JB (gs.map JB) = JB gs.flatten
  | [], _ => rfl
  | [g], _ => by rw [List.flatten_singleton]; rfl
  | g :: g' :: gs, h => by
    have ih := z40 (gs := g' :: gs) fun x hx => h x (List.mem_cons_of_mem _ hx)
    have e1 : JB ((g :: g' :: gs).map JB) = JB g ++ blankS ++ JB ((g' :: gs).map JB) := z3z _ _ _
    have ne : (g' :: gs).flatten ≠ [] := fun z => by
      rw [List.flatten_cons] at z
      exact h g' (List.mem_cons_of_mem _ List.mem_cons_self) (List.append_eq_nil_iff.mp z).1
    have e2 : (g :: g' :: gs).flatten = g ++ (g' :: gs).flatten := List.flatten_cons
    rw [e1, ih, e2, z7O (h g List.mem_cons_self) ne]
theorem z5B {g : List Str} (h : g ≠ []) (hw : ∀ w ∈ g, z5k w) : Txt.split (JB g) blankS = g := z5l h hw
theorem z7P : ∀ {g : List Str}, g ≠ [] -> (∀ w ∈ g, 1 <= w.length) -> 1 <= (JB g).length
  | [], h, _ => absurd rfl h
  | [x], _, h => h x List.mem_cons_self
  | x :: y :: r, _, h => by
    rw [z3z]
    have := h x List.mem_cons_self
    show 1 <= (x ++ blankS ++ JB (y :: r)).cps.size
    rw [PySem.Str.cps_append, PySem.Str.cps_append, Array.size_append, Array.size_append]
    have e : x.length = x.cps.size := rfl
    omega
theorem z7Q {g : List Str} {c : Nat} (h : c ∈ (JB g).cps.toList) : (∃ w ∈ g, c ∈ w.cps.toList) \/ (2 <= g.length /\ c = 32) := by
  rcases (PyProof.Rows.mem_join blankS c g).mp h with e | ⟨e1, e2⟩
  . exact .inl e
  . exact .inr ⟨e1, List.mem_singleton.mp e2⟩
theorem z2j {g : List Str} {w : Str} {c : Nat} (h : w ∈ g) (hc : c ∈ w.cps.toList) : c ∈ (JB g).cps.toList := (PyProof.Rows.mem_join blankS c g).mpr (.inl ⟨w, h, hc⟩)
theorem z5C {g : List Str} (h : 2 <= g.length) : 32 ∈ (JB g).cps.toList := (PyProof.Rows.mem_join blankS 32 g).mpr (.inr ⟨h, List.mem_singleton.mpr rfl⟩)
end L2
namespace L2
open PySem PySem.Spec PyProof.Rows G
def z38 (Ss : List Sg) (gap : Int) (z : Str) : Int := z4P Ss gap z.cps.toList z.length
structure Words (ws : List Str) : Prop where
  many : ws.length <= 60
  len : ∀ w ∈ ws, 1 <= w.length /\ w.length <= 4
  free : ∀ w ∈ ws, z5k w
  sg : ∀ w ∈ ws, z8P w
theorem Words.text {ws : List Str} (h : Words ws) : (JB ws).length <= 300 := by
  have h1 := z3O blankS ws
  have h2 := z2M (sep := blankS) (m := 4) fun z hz => (h.len z hz).2
  have e : blankS.length = 1 := rfl
  rw [e] at h2
  have h3 : ws.length * (4 + 1) <= 60 * 5 := Nat.mul_le_mul h.many (Nat.le_refl _)
  unfold JB
  omega
theorem Words.inSg {ws : List Str} (h : Words ws) : z8P (JB ws) := fun c hc => by
  rcases z7Q hc with ⟨w, hw, hcw⟩ | ⟨_, e⟩
  . exact h.sg w hw c hcw
  . rw [e]
    decide +kernel
theorem Words.joinN {ws : List Str} (h : Words ws) : joinN blankS ws <= 300 := by
  have h2 := z2M (sep := blankS) (m := 4) fun z hz => (h.len z hz).2
  have e : blankS.length = 1 := rfl
  rw [e] at h2
  have h3 : ws.length * (4 + 1) <= 60 * 5 := Nat.mul_le_mul h.many (Nat.le_refl _)
  omega
theorem z2k {Ss : List Sg} : ∀ {cs : List Nat} {i : Nat}, firstBad Ss cs i = none -> ∀ c ∈ cs, known Ss c = true
  | [], _, _, _, h => nomatch h
  | d :: cs, i, h, c, hc => by
    have h' : (if known Ss d = true then firstBad Ss cs (i + 1) else some (d, i)) = none := h
    by_cases k : known Ss d = true
    . rw [if_pos k] at h'
      rcases List.mem_cons.mp hc with rfl | hc
      . exact k
      . exact z2k h' c hc
    . rw [if_neg k] at h'
      cases h'
theorem z2l {Ss : List Sg} {ws g : List Str} (h : ∀ c ∈ (JB ws).cps.toList, known Ss c = true) (hs : ∀ w ∈ g, w ∈ ws) (hl : g.length <= ws.length) : TextOf Ss (JB g) := fun c hc => by
  rcases z7Q hc with ⟨w, hw, hcw⟩ | ⟨h2, e⟩
  . exact h c (z2j (hs w hw) hcw)
  . rw [e]
    exact h 32 (z5C (by omega))
def z41 : Sp := fun vs H Q _ => ∃ ws : List Str, vs = [.str (JB ws)] /\ Words ws /\ ∀ l H', Same H H' -> H l = none -> H' l = some (.lst (ws.map V.str)) -> Q (.ref l) H'
def z3W (C cS cT : Addr) : Sp := fun vs H Q E => ∃ (x : Addr) (ws : List Str) (Ss : List Sg) (hg : Nat) (gap wide : Int), vs = [.ref x, .str (JB ws), .int wide] /\ FA C H x hg Ss gap /\ FontOk hg Ss /\ 0 <= gap /\ gap <= 8 /\ Words ws /\
  (firstBad Ss (JB ws).cps.toList 0 = none -> (∀ w ∈ ws, z38 Ss gap w <= wide) -> ∀ l gs H', Same H H' -> H l = none -> Grps (z38 Ss gap) wide ws gs -> H' l = some (.lst (gs.map fun g => V.str (JB g))) -> Q (.ref l) H') /\
  (∀ c i d H', firstBad Ss (JB ws).cps.toList 0 = some (c, i) -> Same H H' -> H' d = some (.ext (z2G d [("at", .int (i : Nat)), ("sign", .str (one c))])) -> E (.ref cS) (some d) H') /\
  (∀ (n : Nat) d H', firstBad Ss (JB ws).cps.toList 0 = none -> (h : n < ws.length) -> (∀ (j : Nat) w, j < n -> ws[j]? = some w -> z38 Ss gap w <= wide) -> wide < z38 Ss gap ws[n] -> Same H H' -> H' d = some (.ext (z2G d [("word", .int (n : Nat))])) -> E (.ref cT) (some d) H')
def TblAt (hg : Nat) (H : Hp) (d : Addr) (Ss : List Sg) : Prop := ∃ ls : List Addr, ls.length = Ss.length /\ H d = some (.dK (kvF Ss ls)) /\ ∀ (i : Nat) S l, Ss[i]? = some S -> ls[i]? = some l -> ∃ ps, RowsAt H l ps S.rows
theorem TblAt.mono {hg : Nat} {H H' : Hp} {d : Addr} {Ss : List Sg} (s : Same H H') (h : TblAt hg H d Ss) : TblAt hg H' d Ss := let ⟨ls, a, b, c⟩ := h; ⟨ls, a, s _ _ b, fun i S l x y => let ⟨ps, r⟩ := c i S l x y; ⟨ps, r.mono s⟩⟩
def z8W (Ss : List Sg) (gap wide : Int) (ws : List Str) (n : Nat) : Prop := ∃ h : n < ws.length, (∀ (j : Nat) w, j < n -> ws[j]? = some w -> z38 Ss gap w <= wide) /\ wide < z38 Ss gap ws[n]
def z42 (K : PySem.W.Frag) : Sp := fun vs H Q _ => ∃ (a : Addr) (ns : List Int) (k m h : Int), vs = [.ref a, .int k, .int m, .int h] /\ SqL K H a (ns.map V.int) /\ 0 <= k /\ k < 1000 /\ 1 <= m /\ m <= 60 /\ 1 <= h /\ h <= 64 /\
  ∀ l ts Ss H', Same H H' -> H l = none -> SgsAt h.toNat H' l ts Ss -> Ss.length = m.toNat -> (∀ (i : Nat) S, Ss[i]? = some S -> S.c = z1o (1 + (z18 ns k 10039 93 + 37 * i) % 93)) -> Q (.ref l) H'
def z43 (K : PySem.W.Frag) : Sp := fun vs H Q _ => ∃ (a l : Addr) (ns : List Int) (ts : List Addr) (Ss : List Sg) (hg : Nat), vs = [.ref a, .ref l] /\ SqL K H a (ns.map V.int) /\ SgsAt hg H l ts Ss /\ 1 <= Ss.length /\ Ss.length <= 60 /\ (∀ S ∈ Ss, S.c ∈ sgnL /\ S.c ≠ 32) /\
  ∀ m ws H', Same H H' -> H m = none -> Words ws -> (∀ w ∈ ws, TextOf Ss w) -> H' m = some (.lst (ws.map V.str)) -> Q (.ref m) H'
def z2T : Sp := fun vs H Q _ => ∃ (d : Addr) (z : Str) (gap : Int) (Ss : List Sg) (hg : Nat), vs = [.ref d, .str z, .int gap] /\ TblAt hg H d Ss /\ FontOk hg Ss /\ z.length <= 1000 /\ TextOf Ss z /\ Q (.int (z38 Ss gap z)) H
def z5D (K : PySem.W.Frag) : Sp := fun vs H Q _ => ∃ (a m d : Addr) (ns : List Int) (gap : Int) (ws : List Str) (Ss : List Sg) (hg : Nat), vs = [.ref a, .ref m, .ref d, .int gap] /\ SqL K H a (ns.map V.int) /\ H m = some (.lst (ws.map V.str)) /\ Words ws /\ (∀ w ∈ ws, TextOf Ss w) /\ TblAt hg H d Ss /\ FontOk hg Ss /\
  ∀ wide H', Same H H' -> Q (.int wide) H'
def z39 (C : Addr) : Sp := fun vs H Q _ => ∃ (x : Addr) (ws : List Str) (Ss : List Sg) (hg : Nat) (gap wide : Int), vs = [.ref x, .str (JB ws), .int wide] /\ FA C H x hg Ss gap /\ FontOk hg Ss /\ 0 <= gap /\ gap <= 8 /\ Words ws /\ ((∃ c i, firstBad Ss (JB ws).cps.toList 0 = some (c, i)) \/ (firstBad Ss (JB ws).cps.toList 0 = none /\ ∃ n, z8W Ss gap wide ws n)) /\
  (∀ t c i H', firstBad Ss (JB ws).cps.toList 0 = some (c, i) -> Same H H' -> H' t = some (.tup [.str (one c), .int (i : Nat)]) -> Q (.ref t) H') /\ ∀ n H', firstBad Ss (JB ws).cps.toList 0 = none -> z8W Ss gap wide ws n -> Same H H' -> Q (.int (n : Nat)) H'
def z7R : Sp := fun vs H Q _ => ∃ (d m : Addr) (ws : List Str) (Ss : List Sg) (hg : Nat) (gap wide : Int), vs = [.ref d, .str (JB ws), .ref m, .int gap, .int wide] /\ TblAt hg H d Ss /\ FontOk hg Ss /\ Words ws /\ H m = some (.lst (ws.map V.str)) /\
  (∀ t c i H', firstBad Ss (JB ws).cps.toList 0 = some (c, i) -> Same H H' -> H' t = some (.tup [.str (one c), .int (i : Nat)]) -> Q (.ref t) H') /\ (∀ n, firstBad Ss (JB ws).cps.toList 0 = none -> z8W Ss gap wide ws n -> Q (.int (n : Nat)) H) /\
  (firstBad Ss (JB ws).cps.toList 0 = none -> (∀ w ∈ ws, z38 Ss gap w <= wide) -> Q .non H)
def z44 : Sp := fun vs H Q _ => ∃ (l d : Addr) (ws : List Str) (gs : List (List Str)) (Ss : List Sg) (hg : Nat) (gap wide : Int), vs = [.ref l, .ref d, .str (JB ws), .int gap, .int wide] /\ H l = some (.lst (gs.map fun g => V.str (JB g))) /\ Grps (z38 Ss gap) wide ws gs /\ Words ws /\ TblAt hg H d Ss /\ FontOk hg Ss /\ firstBad Ss (JB ws).cps.toList 0 = none /\
  ∀ H', Same H H' -> Q (.bl true) H'
def z5m (Ss : List Sg) (n : Nat) (b : Sg) : List Sg := Ss.take n ++ ([b] ++ Ss.drop n)
theorem z1N (Ss : List Sg) (n : Nat) (b : Sg) : (z5m Ss n b).Perm (b :: Ss) := by
  unfold z5m
  have h := List.perm_middle (a := b) (l₁ := Ss.take n) (l₂ := Ss.drop n)
  rw [List.take_append_drop] at h
  exact h
theorem FontOk.ins {hg : Nat} {Ss : List Sg} {b : Sg} (h : FontOk hg Ss) (hl : Ss.length < 60) (hb : b.c = 32) (hn : ∀ S ∈ Ss, S.c ≠ 32) (hr : Rect b.w hg b.rows) (n : Nat) : FontOk hg (z5m Ss n b) := by
  have p := z1N Ss n b
  refine ⟨by rw [p.length_eq]; exact Nat.succ_le_succ (Nat.zero_le _), by rw [p.length_eq]; exact hl, ?_, fun S hS => ?_, fun S hS => ?_⟩
  . refine (p.map _).nodup_iff.mpr ?_
    rw [List.map_cons, List.nodup_cons]
    refine ⟨fun hm => ?_, h.nd⟩
    obtain ⟨S, hS, e⟩ := List.mem_map.mp hm
    exact hn S hS (e.trans hb)
  . rcases List.mem_cons.mp (p.mem_iff.mp hS) with e | e
    . rw [e, hb]
      decide +kernel
    . exact h.sg S e
  . rcases List.mem_cons.mp (p.mem_iff.mp hS) with e | e
    . rw [e]
      exact hr
    . exact h.rect S e
theorem z7S {Ss : List Sg} {n : Nat} {b : Sg} {c : Nat} (h : known Ss c = true) : known (z5m Ss n b) c = true := by
  obtain ⟨S, hS, e⟩ := List.any_eq_true.mp h
  exact List.any_eq_true.mpr ⟨S, (z1N Ss n b).mem_iff.mpr (List.mem_cons_of_mem _ hS), e⟩
theorem z5n {hg : Nat} {H : Hp} {l : Addr} {ts : List Addr} {Ss : List Sg} {st : Int} (SA : SgsAt hg H l ts Ss) (h1 : 1 <= Ss.length) (h2 : Ss.length <= 60) (hc : ∀ (i : Nat) S, Ss[i]? = some S -> S.c = z1o (1 + (st + 37 * i) % 93)) : FontOk hg Ss := by
  refine ⟨h1, h2, ?_, fun S hS => ?_, fun S hS => ?_⟩
  . refine List.pairwise_iff_getElem.mpr fun i j hi hj hij => ?_
    rw [List.length_map] at hi hj
    rw [List.getElem_map, List.getElem_map, hc i _ (List.getElem?_eq_getElem hi), hc j _ (List.getElem?_eq_getElem hj)]
    intro e
    have := z2O e
    omega
  . obtain ⟨i, hi, e⟩ := List.mem_iff_getElem.mp hS
    rw [<- e, hc i _ (List.getElem?_eq_getElem hi)]
    exact z3U _
  . obtain ⟨i, hi, e⟩ := List.mem_iff_getElem.mp hS
    obtain ⟨t, _, ⟨_, _, _, _, R⟩, _⟩ := SA.get hi
    rw [e] at R
    exact R
theorem z90 {R : Addr -> Sg -> Prop} {a b : List Addr} {c d : List Sg} (l : a.length = c.length) (h1 : ∀ (i : Nat) t S, a[i]? = some t -> c[i]? = some S -> R t S) (h2 : ∀ (i : Nat) t S, b[i]? = some t -> d[i]? = some S -> R t S) :
    ∀ (i : Nat) t S, (a ++ b)[i]? = some t -> (c ++ d)[i]? = some S -> R t S := fun i t S e1 e2 => by
  by_cases hi : i < a.length
  . rw [List.getElem?_append_left hi] at e1
    rw [List.getElem?_append_left (by omega)] at e2
    exact h1 i t S e1 e2
  . rw [List.getElem?_append_right (by omega)] at e1
    rw [List.getElem?_append_right (by omega), <- l] at e2
    exact h2 _ t S e1 e2
theorem zAm {R : Addr -> Sg -> Prop} {ts : List Addr} {Ss : List Sg} {n : Nat} {t0 : Addr} {b : Sg} (l : ts.length = Ss.length) (h : ∀ (i : Nat) t S, ts[i]? = some t -> Ss[i]? = some S -> R t S) (h0 : R t0 b) :
    ∀ (i : Nat) t S, (ts.take n ++ ([t0] ++ ts.drop n))[i]? = some t -> (z5m Ss n b)[i]? = some S -> R t S := by
  refine z90 (by rw [List.length_take, List.length_take, l]) (fun i t S e1 e2 => ?_) (z90 rfl (fun i t S e1 e2 => ?_) fun i t S e1 e2 => ?_)
  . rw [List.getElem?_take] at e1 e2
    split at e1
    . rename_i hi
      rw [if_pos hi] at e2
      exact h i t S e1 e2
    . cases e1
  . cases i with
    | zero =>
      cases e1
      cases e2
      exact h0
    | succ i => cases e1
  . rw [List.getElem?_drop] at e1 e2
    exact h _ t S e1 e2
theorem z5E {hg : Nat} {H : Hp} : ∀ {us : List Addr} {Ss : List Sg}, us.length = Ss.length -> (∀ (i : Nat) t S, us[i]? = some t -> Ss[i]? = some S -> SgAt hg H t S) ->
    ∃ ls : List Addr, ls.length = Ss.length /\ (∀ (i : Nat) t k v, us[i]? = some t -> (kvF Ss ls)[i]? = some (k, v) -> H t = some (.tup [kV k, v])) /\ ∀ (i : Nat) S l, Ss[i]? = some S -> ls[i]? = some l -> ∃ ps, RowsAt H l ps S.rows
  | [], [], _, _ => ⟨[], rfl, fun i t k v e => by simp at e, fun i S l e => by simp at e⟩
  | [], _ :: _, l, _ => by cases l
  | _ :: _, [], l, _ => by cases l
  | u :: us, S :: Ss, l, h => by
    obtain ⟨ls, h1, h2, h3⟩ := z5E (us := us) (Ss := Ss) (by simpa using l) fun i t S' e1 e2 => h (i + 1) t S' (by simpa using e1) (by simpa using e2)
    obtain ⟨rl, ps, t1, RA, _⟩ := h 0 u S rfl rfl
    refine ⟨rl :: ls, by simp [h1], fun i t k v e1 e2 => ?_, fun i S' l' e1 e2 => ?_⟩
    . cases i with
      | zero =>
        cases e1
        cases e2
        exact t1
      | succ i => exact h2 i t k v (by simpa using e1) (by simpa [kvF] using e2)
    . cases i with
      | zero =>
        cases e1
        cases e2
        exact ⟨ps, RA⟩
      | succ i => exact h3 i S' l' (by simpa using e1) (by simpa using e2)
def z2H (Ss : List Sg) (c : Nat) : List Sg := Ss.filter fun S => decide (S.c ≠ c)
theorem z5F : ∀ {Ss : List Sg} {ls : List Addr} {c : Nat}, ls.length = Ss.length -> ∃ ls' : List Addr, ls'.length = (z2H Ss c).length /\ z2Z (kvF Ss ls) (Sum.inr (one c)) = kvF (z2H Ss c) ls' /\ ∀ (R : Addr -> Sg -> Prop), (∀ (i : Nat) S l, Ss[i]? = some S -> ls[i]? = some l -> R l S) -> ∀ (i : Nat) S l, (z2H Ss c)[i]? = some S -> ls'[i]? = some l -> R l S
  | [], [], _, _ => ⟨[], rfl, rfl, fun R h i S l e => by simp [z2H] at e⟩
  | [], _ :: _, _, l => by cases l
  | _ :: _, [], _, l => by cases l
  | S :: Ss, p :: ls, c, l => by
    obtain ⟨ls', h1, h2, h3⟩ := z5F (Ss := Ss) (ls := ls) (c := c) (by simpa using l)
    have tl : ∀ (R : Addr -> Sg -> Prop), (∀ (i : Nat) S' l', (S :: Ss)[i]? = some S' -> (p :: ls)[i]? = some l' -> R l' S') -> ∀ (i : Nat) S' l', Ss[i]? = some S' -> ls[i]? = some l' -> R l' S' := fun R h i S' l' e1 e2 => h (i + 1) S' l' (by simpa using e1) (by simpa using e2)
    have hd : z2Z (kvF (S :: Ss) (p :: ls)) (Sum.inr (one c)) = (if S.c = c then [] else [(Sum.inr (one S.c), V.ref p)]) ++ z2Z (kvF Ss ls) (Sum.inr (one c)) := by
      show List.filter _ ((Sum.inr (one S.c), V.ref p) :: kvF Ss ls) = _
      by_cases e : S.c = c
      . rw [if_pos e, List.filter_cons_of_neg (by simp [e])]
        rfl
      . rw [if_neg e, List.filter_cons_of_pos (by
          refine decide_eq_true fun z => e ?_
          injection z with z
          exact one_inj z)]
        rfl
    by_cases e : S.c = c
    . refine ⟨ls', ?_, ?_, fun R h => ?_⟩
      . unfold z2H at h1 ⊢
        rw [List.filter_cons_of_neg (by simp [e])]
        exact h1
      . rw [hd, if_pos e, List.nil_append, h2]
        unfold z2H
        rw [List.filter_cons_of_neg (by simp [e])]
      . have := h3 R (tl R h)
        unfold z2H at this ⊢
        rw [List.filter_cons_of_neg (by simp [e])]
        exact this
    . have ef : z2H (S :: Ss) c = S :: z2H Ss c := List.filter_cons_of_pos (by simp [e])
      refine ⟨p :: ls', by rw [ef, List.length_cons, List.length_cons, h1], ?_, fun R h => ?_⟩
      . rw [hd, if_neg e, h2, ef]
        rfl
      . rw [ef]
        intro i S' l' e1 e2
        cases i with
        | zero =>
          cases e1
          cases e2
          exact h 0 S p rfl rfl
        | succ i => exact h3 R (tl R h) i S' l' (by simpa using e1) (by simpa using e2)
theorem FontOk.less {hg : Nat} {Ss : List Sg} {c : Nat} (h : FontOk hg Ss) (h1 : ∃ S ∈ Ss, S.c ≠ c) : FontOk hg (z2H Ss c) := by
  refine ⟨?_, Nat.le_trans (List.length_filter_le _ _) h.n2, ?_, fun S hS => h.sg S (List.mem_filter.mp hS).1, fun S hS => h.rect S (List.mem_filter.mp hS).1⟩
  . obtain ⟨S, hS, e⟩ := h1
    exact List.length_pos_iff.mpr (List.ne_nil_of_mem (List.mem_filter.mpr ⟨hS, by simpa using e⟩))
  . exact (List.Sublist.map _ List.filter_sublist).nodup h.nd
theorem z7T {xs : List V} {k : Nat} (h : k <= xs.length) : z7q xs none (some (k : Int)) = xs.take k := by
  have e0 : HT.sIx xs.length 0 none = 0 := rfl
  have e1 : HT.sIx xs.length xs.length (some (k : Int)) = k := by
    rw [HT.sIx_nat]
    exact Nat.min_eq_left h
  unfold z7q
  rw [e0, e1, List.drop_zero, Nat.sub_zero]
theorem z7U {xs : List V} {k : Nat} (h : k <= xs.length) : z7q xs (some (k : Int)) none = xs.drop k := by
  have e0 : HT.sIx xs.length xs.length none = xs.length := rfl
  have e1 : HT.sIx xs.length 0 (some (k : Int)) = k := by
    rw [HT.sIx_nat]
    exact Nat.min_eq_left h
  unfold z7q
  rw [e0, e1, List.take_of_length_le (by rw [List.length_drop]; exact Nat.le_refl _)]
theorem RowsAt.putD {H : Hp} {l d : Addr} {ps : List Addr} {rows : List (List (Option Int))} {kvs : List (Key × V)} {o : HO} (h : RowsAt H l ps rows) (hd : H d = some (.dK kvs)) : RowsAt (upd H d o) l ps rows :=
  ⟨by rw [z06 (z1H h.lst hd fun z => nomatch z)]; exact h.lst, h.len, fun i p r e1 e2 => by
    have := h.row i p r e1 e2
    rw [z06 (z1H this hd fun z => nomatch z)]
    exact this⟩
theorem z9q {ps : List Addr} {ws : List Str} (h : ws ≠ []) : ps.map V.ref ≠ ws.map V.str := fun e => by
  cases ws with
  | nil => exact h rfl
  | cons w r =>
    cases ps with
    | nil => cases e
    | cons p r' => cases e
theorem z8X {r : List (Option Int)} {ws : List Str} (h : ws ≠ []) : r.map z0r ≠ ws.map V.str := fun e => by
  cases ws with
  | nil => exact h rfl
  | cons w t =>
    cases r with
    | nil => cases e
    | cons c r' => cases c <;> cases e
theorem z91 {H : Hp} {x y : Addr} {xs ys : List V} (hx : H x = some (.lst xs)) (hy : H y = some (.lst ys)) (n : xs ≠ ys) : x ≠ y := fun e => by
  rw [e, hy] at hx
  injection hx with hx
  injection hx with hx
  exact n hx.symm
theorem RowsAt.putS {H : Hp} {l m : Addr} {ps : List Addr} {rows : List (List (Option Int))} {ws : List Str} {o : HO} (h : RowsAt H l ps rows) (hm : H m = some (.lst (ws.map V.str))) (hw : ws ≠ []) : RowsAt (upd H m o) l ps rows :=
  ⟨by rw [z06 (z91 h.lst hm (z9q hw))]; exact h.lst, h.len, fun i p r e1 e2 => by
    have := h.row i p r e1 e2
    rw [z06 (z91 this hm (z8X hw))]
    exact this⟩
theorem TblAt.less {hg : Nat} {H : Hp} {d : Addr} {Ss : List Sg} {ls : List Addr} {c : Nat} (hl : ls.length = Ss.length) (hd : H d = some (.dK (kvF Ss ls))) (hr : ∀ (i : Nat) S l, Ss[i]? = some S -> ls[i]? = some l -> ∃ ps, RowsAt H l ps S.rows) : TblAt hg (upd H d (.dK (z2Z (kvF Ss ls) (Sum.inr (one c))))) d (z2H Ss c) := by
  obtain ⟨ls', h1, h2, h3⟩ := z5F (c := c) hl
  refine ⟨ls', h1, by rw [z05, h2], h3 _ fun i S l e1 e2 => ?_⟩
  obtain ⟨ps, r⟩ := hr i S l e1 e2
  exact ⟨ps, r.putD hd⟩
theorem TblAt.putS {hg : Nat} {H : Hp} {d m : Addr} {Ss : List Sg} {ws : List Str} {o : HO} (h : TblAt hg H d Ss) (hm : H m = some (.lst (ws.map V.str))) (hw : ws ≠ []) : TblAt hg (upd H m o) d Ss := by
  obtain ⟨ls, a, b, c⟩ := h
  exact ⟨ls, a, by rw [z06 (z1H b hm fun z => nomatch z)]; exact b, fun i S l e1 e2 => let ⟨ps, r⟩ := c i S l e1 e2; ⟨ps, r.putS hm hw⟩⟩
theorem z5G {w : Str} {i : Int} {c : Nat} (h0 : 0 <= i) (h1 : i < w.length) : (z27 w none (some i) ++ one c ++ z27 w (some (i + 1)) none).cps.toList = w.cps.toList.take i.toNat ++ c :: w.cps.toList.drop (i.toNat + 1) := by
  have e : (z27 w none (some i) ++ one c ++ z27 w (some (i + 1)) none).cps = (z27 w none (some i)).cps ++ #[c] ++ (z27 w (some (i + 1)) none).cps := rfl
  rw [e, Array.toList_append, Array.toList_append, z8Q h0 (by omega), z8R (by omega) (by omega), show (i + 1).toNat = i.toNat + 1 by omega, List.append_assoc]
  rfl
theorem z45 {w : Str} {i : Int} {c : Nat} (h0 : 0 <= i) (h1 : i < w.length) : (z27 w none (some i) ++ one c ++ z27 w (some (i + 1)) none).length = w.length := by
  have e : (z27 w none (some i) ++ one c ++ z27 w (some (i + 1)) none).length = (z27 w none (some i) ++ one c ++ z27 w (some (i + 1)) none).cps.toList.length := (Array.length_toList).symm
  have e2 : w.length = w.cps.toList.length := (Array.length_toList).symm
  rw [e, z5G h0 h1, List.length_append, List.length_cons, List.length_take, List.length_drop]
  omega
theorem Words.set {ws : List Str} {n : Nat} {w w' : Str} {c : Nat} (h : Words ws) (hw : ws[n]? = some w) (hl : w'.length = w.length) (hc : ∀ x ∈ w'.cps.toList, x ∈ w.cps.toList \/ x = c) (c1 : c ∈ sgnL) (c2 : c ≠ 32) : Words (ws.set n w') := by
  have hm := List.mem_of_getElem? hw
  have g : ∀ y ∈ ws.set n w', y ∈ ws \/ y = w' := fun y hy => List.mem_or_eq_of_mem_set hy
  refine ⟨by rw [List.length_set]; exact h.many, fun y hy => ?_, fun y hy => ?_, fun y hy => ?_⟩
  . rcases g y hy with e | e
    . exact h.len y e
    . rw [e, hl]
      exact h.len w hm
  . rcases g y hy with e | e
    . exact h.free y e
    . rw [e]
      intro z
      rcases hc 32 z with e | e
      . exact h.free w hm e
      . exact c2 e.symm
  . rcases g y hy with e | e
    . exact h.sg y e
    . rw [e]
      intro x hx
      rcases hc x hx with e | e
      . exact h.sg w hm x e
      . rw [e]
        exact c1
def zDv (n : Nat) : R2 := fun x y H Q => rNe x y H Q \/ zCs n x y H Q
section
variable {X : Cx} {n : Nat}
theorem zAn (hu : X.A.units + 9 < cLine) (hn : n <= 8 := by decide) : OpR X (compareOp .NotEq) (zDv n) := by
  intro pins s σ H x y v u Q I rx ry h
  rcases h with h | h
  . exact z3D pins s σ H x y v u Q I rx ry h
  . exact zAZ hu hn pins s σ H x y v u Q I rx ry h
end
theorem z5o {H : Hp} {t u : Addr} {z : Str} {i : Int} (h1 : H t = some (.tup [.str z, .int i])) (h2 : H u = some (.tup [.str z, .int i])) : EqT 0 H (.ref t) (.ref u) :=
  ⟨t, u, _, _, rfl, rfl, .inr ⟨h1, h2⟩, rfl, fun j x y e1 e2 => by
    match j, e1, e2 with
    | 0, e1, e2 => cases e1; cases e2; exact ⟨rfl, Sc.str z⟩
    | 1, e1, e2 => cases e1; cases e2; exact ⟨rfl, Sc.int i⟩
    | j + 2, e1, e2 => cases e1⟩
end L2
local macro_rules | `(tactic| walk_at "r1") => `(tactic| first
  | refine ⟨_, rfl, ?_⟩
  | refine ⟨_, _, rfl, rfl, ?_⟩
  | refine ⟨rfl, ?_⟩
  | refine ⟨(by show (0 : Int) < _; first | decide | omega), ?_⟩
  | refine ⟨⟨(by first | decide | omega), (by first | decide | omega)⟩, ?_⟩
  | refine ⟨L2.mulL (by first | decide | omega) (by first | decide | omega), ?_⟩
  | refine ⟨L2.mulR (by first | decide | omega) (by first | decide | omega), ?_⟩
  | refine ⟨L2.powS (by first | decide | omega) (by first | decide | omega) (by first | decide | omega), ?_⟩
  | refine ⟨L2.szV (by simp), ?_⟩)
local macro_rules | `(tactic| walk_at "rs") => `(tactic| repeat walk_at "r1")
namespace K33
open PySem PyProof.Rows L2 G
def z1s (i : Nat) : Stmt := PySem.Challenge.pw_glowboard_k33_texts_broken.main.body.getD i (.Pass ⟨0, 0, 0, 0⟩)
abbrev z1B : Stmt := z1s 7
abbrev z0s : Stmt := z1s 8
abbrev z1T : Stmt := z1s 10
abbrev z0j : Stmt := z1s 11
abbrev z0k : Stmt := z1s 12
abbrev z1C : Stmt := z1s 13
abbrev z0Z : Stmt := z1s 14
abbrev z1D : Stmt := z1s 16
abbrev z1U : Stmt := z1s 17
abbrev z1V : Stmt := z1s 19
abbrev z1W : Stmt := z1s 20
abbrev z0O : Stmt := z1s 21
abbrev z19 : Stmt := inClass (z1s 22) 0
abbrev z0a : Stmt := inClass (z1s 22) 2
abbrev z0l : Stmt := inClass (z1s 22) 3
abbrev z1E : Stmt := z1s 24
abbrev z0t : Stmt := z1s 25
abbrev z0u : Stmt := z1s 26
abbrev z0z : Stmt := z1s 27
abbrev z1F : Stmt := z1s 28
abbrev z1G : Stmt := z1s 29
abbrev z0v : Stmt := z1s 30
abbrev z0w : Stmt := z1s 31
abbrev z0x : Stmt := z1s 32
abbrev z17 : Stmt := z1s 33
abbrev z0m : Stmt := z1s 34
abbrev z1X : Stmt := z1s 35
abbrev z0b : Stmt := z1s 36
abbrev z2m : Stmt := z1s 37
structure Blt (mg : Str -> Option Value) : Prop where
  f_len : mg "len" = none
  f_range : mg "range" = none
  f_enumerate : mg "enumerate" = none
  f_zip : mg "zip" = none
  f_reversed : mg "reversed" = none
  f_isinstance : mg "isinstance" = none
  f_int : mg "int" = none
  f_bool : mg "bool" = none
  f_str : mg "str" = none
  f_list : mg "list" = none
  f_tuple : mg "tuple" = none
  f_dict : mg "dict" = none
  f_all : mg "all" = none
  f_sum : mg "sum" = none
  f_max : mg "max" = none
  f_ord : mg "ord" = none
structure Co (K : PySem.W.Frag) (mg : Str -> Option Value) (c_Font : Addr) : Prop where
  m_Font : mg "Font" = some (.ref c_Font)
  k_Font : Cls K c_Font
  n_Font_pics : NoAttr K c_Font "pics"
  n_Font_high : NoAttr K c_Font "high"
  n_Font_gap : NoAttr K c_Font "gap"
structure Cl (K : PySem.W.Frag) (mg : Str -> Option Value) (c_GlowError c_NoFont c_NoSign c_TooWide : Addr) : Prop where
  m_GlowError : mg "GlowError" = some (.ref c_GlowError)
  gi : Gi K c_GlowError
  x_GlowError : XE K c_GlowError
  tup : PySem.W.kitOne K (.type "tuple") (.ref c_GlowError) = some false
  ab : ∀ c ∈ ([c_NoFont, c_NoSign, c_TooWide] : List Addr), PySem.W.mroIn K c (.ref c_GlowError) = some true
  m_NoFont : mg "NoFont" = some (.ref c_NoFont)
  x_NoFont : XE K c_NoFont
  m_NoSign : mg "NoSign" = some (.ref c_NoSign)
  x_NoSign : XE K c_NoSign
  f_NoSign_sign : PySem.W.findIn K (.ref c_NoSign) "sign" = some none
  f_NoSign_at : PySem.W.findIn K (.ref c_NoSign) "at" = some none
  m_TooWide : mg "TooWide" = some (.ref c_TooWide)
  x_TooWide : XE K c_TooWide
  f_TooWide_word : PySem.W.findIn K (.ref c_TooWide) "word" = some none
  kt : ∀ i, i < 3 -> Kits K [c_NoFont, c_NoSign, c_TooWide] c_GlowError i
section
variable {P : Program} {w : World} {K : PySem.W.Frag} {mg : Str -> Option Value} {base : Heap}
abbrev z1l : Stmt := inClass (z1s 4) 0
theorem z7V : FnScope ["self", "sign", "at"] ["self", "sign", "at"] (z04 z1l) := ⟨rfl, rfl, rfl, by decide +kernel, rfl, by decide +kernel, by decide +kernel⟩
theorem z7W {c_GlowError c_NoFont c_NoSign c_TooWide : Addr} (Z : Cl K mg c_GlowError c_NoFont c_NoSign c_TooWide) {f : Addr} {fd : FuncData} (D : Fun K "__init__" "NoSign.__init__" z1l f fd) : FnOk P w K mg base CX0 1 f fd ["self", "sign", "at"] (zB3 c_NoSign "sign" "at") := by
  refine D.ok z7V (fun vs H Q E h => ?_) (fun cdv A outer s H vs Q E hr h => ?_)
  . obtain ⟨x, z, v, rfl, _⟩ := h
    rfl
  obtain ⟨x, z, v, rfl, hx, hz, hv, q⟩ := h
  refine ⟨_, z02 (z1L (z4y rfl Z.m_GlowError Z.gi (z00 (pv 0) (z00 (z73 (z1j z4Q (z1j (z9Y (pv 1)) (z1j z4Q (z1j (z8r (pv 2)) z72))))) z01)))) (z02 (z71 (pv 0) (pv 1) rfl) (z07 (z9X (pv 0) (pv 2) rfl))), ?_⟩
  refine ⟨_, rfl, ⟨by decide, ⟨_, rfl, ⟨z, rfl, hz⟩, rfl⟩, by decide, ⟨_, rfl, hv, rfl⟩, trivial⟩, fun z' => ⟨x, c_NoSign, none, _, rfl, hx, Z.x_NoSign, ?_⟩⟩
  refine ⟨_, rfl, _, rfl, x, c_NoSign, rfl, hx, Z.x_NoSign, Z.f_NoSign_sign, fun d nd hd => ?_⟩
  refine ⟨_, rfl, _, rfl, x, c_NoSign, d, _, rfl, hd, by rw [z06 (Ne.symm hd), z05], z05, by show 1 <= 900; decide, Z.x_NoSign, Z.f_NoSign_at, ?_⟩
  rw [z4G]
  exact q d nd hd
abbrev z1O : Stmt := inClass (z1s 5) 0
theorem z5p : FnScope ["self", "word"] ["self", "word"] (z04 z1O) := ⟨rfl, rfl, rfl, by decide +kernel, rfl, by decide +kernel, by decide +kernel⟩
theorem z5q {c_GlowError c_NoFont c_NoSign c_TooWide : Addr} (Z : Cl K mg c_GlowError c_NoFont c_NoSign c_TooWide) {f : Addr} {fd : FuncData} (D : Fun K "__init__" "TooWide.__init__" z1O f fd) : FnOk P w K mg base CX0 1 f fd ["self", "word"] (zB2 c_TooWide "word") := by
  refine D.ok z5p (fun vs H Q E h => ?_) (fun cdv A outer s H vs Q E hr h => ?_)
  . obtain ⟨x, v, rfl, _⟩ := h
    rfl
  obtain ⟨x, v, rfl, hx, hv, q⟩ := h
  refine ⟨_, z02 (z1L (z4y rfl Z.m_GlowError Z.gi (z00 (pv 0) (z00 (z73 (z1j z4Q (z1j (z8r (pv 1)) z72))) z01)))) (z07 (z71 (pv 0) (pv 1) rfl)), ?_⟩
  refine ⟨_, rfl, ⟨by decide, ⟨_, rfl, hv, rfl⟩, trivial⟩, fun z => ⟨x, c_TooWide, none, _, rfl, hx, Z.x_TooWide, ?_⟩⟩
  exact ⟨_, rfl, _, rfl, x, c_TooWide, rfl, hx, Z.x_TooWide, Z.f_TooWide_word, fun d nd hd => q d nd hd⟩
end
section
variable {P : Program} {w : World} {K : PySem.W.Frag} {mg : Str -> Option Value} {base : Heap}
theorem z4b : FnScope ["_law_found"] ["_law_found"] (z04 z0t) := ⟨rfl, rfl, rfl, by decide +kernel, rfl, by decide +kernel, by decide +kernel⟩
theorem z4c {f : Addr} {fd : FuncData} (D : Df K mg "_law_whole" z0t ["_law_found"] f fd) (B : Blt mg) :
    Ow P w K mg base "_law_whole" ["_law_found"] 1 z2f := by
  refine D.ow (D.F.ok z4b (fun vs H Q E h => ?_) (fun cdv A outer s H vs Q E hr h => ?_))
  . obtain ⟨x, T, rfl, _⟩ := h
    rfl
  obtain ⟨x, T, rfl, hT, q⟩ := h
  refine ⟨_, (z07 (z0H (z2U (z09 z0c rfl B.f_isinstance boot_isinstance (z00 (pv 0) (z00 (z0q (v := .ty "int") rfl B.f_int boot_int rfl) z01))) (z2C (z8Z (z09 z0c rfl B.f_isinstance boot_isinstance (z00 (pv 0) (z00 (z0q (v := .ty "bool") rfl B.f_bool boot_bool rfl) z01)))))))), ?_⟩
  refine ⟨x, rfl, x, "int", T, rfl, by decide, hT, _, rfl, ?_⟩
  have e := z2g T (z3K hT)
  cases hi : z5U T "int" with
  | true =>
    rw [hi, if_pos rfl] at e
    refine z2b ⟨x, rfl, x, "bool", T, rfl, by decide, hT, _, rfl, ?_⟩
    rw [e]
    exact q
  | false =>
    rw [hi, if_neg (by decide)] at e
    refine z5T ?_
    rw [e]
    exact q
theorem sc_lawrows : FnScope ["_law_script", "_law_k", "_law_wide", "_law_high", "_law_rows_here", "_law_y"] ["_law_script", "_law_k", "_law_wide", "_law_high"] (z04 z0z) := ⟨rfl, rfl, rfl, by decide +kernel, rfl, by decide +kernel, by decide +kernel⟩
theorem z5r {f : Addr} {fd : FuncData} (D : Df K mg "_law_rows" z0z ["_law_script", "_law_k", "_law_wide", "_law_high"] f fd)
    (O_lawshade : Ow P w K mg base "_law_shade" ["_law_script", "_law_k"] 2 (z6o K)) (B : Blt mg) :
    Ow P w K mg base "_law_rows" ["_law_script", "_law_k", "_law_wide", "_law_high"] 3 (z6l K) := by
  refine D.ow (D.F.ok sc_lawrows (fun vs H Q E h => ?_) (fun cdv A outer s H vs Q E hr h => ?_))
  . obtain ⟨a, ns, k, w, h, rfl, _⟩ := h
    rfl
  obtain ⟨a, ns, k, wd, hg, rfl, hS, k0, k1, w1, w2, h1, h2, q⟩ := h
  refine ⟨_, (z02 (z0B (i := 4) sc_lawrows.nd rfl (Or.inl rfl) (z2D z01))
    (z02 (z1I PassesOwn.never rfl (z0h rfl B.f_range (z00 (pv 3) z01)) (z0N (i := 5) sc_lawrows.nd rfl (Or.inr rfl)) (z07 (z1L (z2Y PySem.F.plainAttrs_list PySem.F.slot_list_append PySem.F.type_list_append z1M (pv 4) (z00 (z1R (locs := ["_law_x"]) (ix := [0, 1, 5]) rfl (BlkSc.look (dsc := z04 z0z) (N := ["_law_script", "_law_k", "_law_wide", "_law_high", "_law_rows_here", "_law_y"]) rfl rfl (by decide +kernel)) (z0h rfl B.f_range (z00 (pv 2) z01)) (fun _ _ _ _ _ _ => (z0N (i := 0) (by decide +kernel : (["_law_x", "_law_script", "_law_k", "_law_y"] : List Str).Nodup) rfl (Or.inl rfl))) (fun _ _ _ _ _ _ => z1Q) (fun _ _ _ _ _ _ => (z0E O_lawshade hr rfl (z00 (pv 1) (z00 (z0I z0T (z0I z0T (pv 2) (z0I z1a z03 (pv 3))) (pv 0)) z01))))) z01)))))
    (z07 (z0H (pv 4))))), ?_⟩
  walk_at "rs"
  intro l nl
  refine ⟨_, rfl, _, rfl, (z2x (by omega) (by omega)).1, (z2x (by omega) (by omega)).2, ?_⟩
  refine z0o (n := hg.toNat) (fun y σ H2 => ∃ ps rows v5, σ = [some (.ref a), some (.int k), some (.int wd), some (.int hg), some (.ref l), v5] /\ RowsB H H2 l ps rows /\ rows.length = y /\ ∀ r ∈ rows, r.length = wd.toNat /\ Cells r)
    ⟨[], [], none, rfl, z9Q (Same.refl _) nl, rfl, (fun _ hr => nomatch hr)⟩ ?_ ?_
  . rintro y σ H2 hy ⟨ps, rows, v5, rfl, RB, hlen, hrow⟩
    have hpl := RB.rat.len
    refine ⟨_, rfl, .inl ⟨rfl, _, SqL.of RB.rat.lst⟩, _, rfl, _, rfl, (z2x (by omega) (by omega)).1, (z2x (by omega) (by omega)).2, ?_⟩
    refine z1S (n := wd.toNat) (fun i σ zs H3 => ∃ v r, σ = [v, some (.ref a), some (.int k), some (.int (0 + (y : Int)))] /\ zs = r.map z0r /\ r.length = i /\ Cells r /\ H3 = H2) ⟨none, [], rfl, rfl, rfl, (fun _ h => nomatch h), rfl⟩ (Nat.le_of_lt (z0D (by omega))) ?_ ?_ ?_ ?_ ?_
    . rintro i σ zs H3 ⟨v, r, _, rfl, hr, _⟩
      rw [List.length_map, hr]
    . rintro σ zs H3 _
      show wd.toNat <= wd.toNat
      exact Nat.le_refl _
    . intro i σ zs H3 hi _
      show i < wd.toNat
      exact hi
    . rintro i σ zs H3 x H' Z hi ⟨v, r, rfl, rfl, hr, hc, rfl⟩ ⟨rfl, rfl⟩ hZ
      walk_at "rs"
      refine ⟨a, ns, _, rfl, RB.same.seq hS, by omega, by omega, fun c hcell => ?_⟩
      refine hZ _ _ _ ⟨_, r ++ [c], rfl, by rw [List.map_append]; rfl, by rw [List.length_append, hr]; rfl, fun d hd => ?_, rfl⟩
      rcases List.mem_append.mp hd with e | e
      . exact hc d e
      . rw [List.mem_singleton.mp e]
        exact hcell
    . rintro σ zs H3 ⟨v, r, rfl, rfl, hr, hc, rfl⟩ p np
      have npl : p ≠ l := fun e => by
        have := RB.rat.lst
        rw [<- e, np] at this
        cases this
      have npp : p ∉ ps := fun hp => by
        obtain ⟨i, hi, e⟩ := List.mem_iff_getElem.mp hp
        have := RB.rat.row i p (rows[i]'(by omega)) (by rw [List.getElem?_eq_getElem hi, e]) (List.getElem?_eq_getElem _)
        rw [np] at this
        cases this
      have np0 : H p = none := RB.same.free np
      have RB1 := RB.put (o := .lst (r.map z0r)) np0 npl npp
      refine ⟨l, _, _, rfl, rfl, RB1.rat.lst, by rw [List.length_map]; exact z0D (by omega), ?_⟩
      refine ⟨ps ++ [p], rows ++ [r], _, rfl, RB1.push np0 npl z05, by rw [List.length_append, hlen]; rfl, fun r' hr' => ?_⟩
      rcases List.mem_append.mp hr' with e | e
      . exact hrow r' e
      . rw [List.mem_singleton.mp e]
        exact ⟨hr, hc⟩
  . rintro σ H2 ⟨ps, rows, v5, rfl, RB, hlen, hrow⟩
    refine ⟨_, rfl, ?_⟩
    exact q l ps rows H2 RB.same RB.fl (fun p hp => (RB.fp p hp).1) RB.rat ⟨hlen, by omega, by omega, by omega, by omega, hrow⟩
theorem sc_lawbits : FnScope ["_law_rows_here", "_law_paints", "_law_masks", "_law_row", "_law_paint", "_law_mask", "_law_cell"] ["_law_rows_here"] (z04 z1F) := ⟨rfl, rfl, rfl, by decide +kernel, rfl, by decide +kernel, by decide +kernel⟩
theorem z5s {f : Addr} {fd : FuncData} (D : Df K mg "_law_bits" z1F ["_law_rows_here"] f fd) (B : Blt mg) :
    Ow P w K mg base "_law_bits" ["_law_rows_here"] 1 z4t := by
  refine D.ow (D.F.ok sc_lawbits (fun vs H Q E h => ?_) (fun cdv A outer s H vs Q E hr h => ?_))
  . obtain ⟨l, ps, rows, w, h, rfl, _⟩ := h
    rfl
  obtain ⟨l, ps, rows, wd, hg, rfl, RA, R, q⟩ := h
  refine ⟨_, (z02 (z0B (i := 1) sc_lawbits.nd rfl (Or.inl rfl) (z2D z01))
    (z02 (z0B (i := 2) sc_lawbits.nd rfl (Or.inl rfl) (z2D z01))
    (z02 (z1I PassesOwn.never rfl (z24 (pv 0)) (z0N (i := 3) sc_lawbits.nd rfl (Or.inl rfl)) (z02 (z0B (i := 4) sc_lawbits.nd rfl (Or.inl rfl) z03)
    (z02 (z0B (i := 5) sc_lawbits.nd rfl (Or.inl rfl) z03)
    (z02 (z1I PassesOwn.never rfl (zAN rfl B.f_reversed (z00 (pv 3) z01)) (z0N (i := 6) sc_lawbits.nd rfl (Or.inl rfl)) (z02 (z0B (i := 4) sc_lawbits.nd rfl (Or.inl rfl) (z0I z1a (pv 4) z03))
    (z02 (z0B (i := 5) sc_lawbits.nd rfl (Or.inl rfl) (z0I z1a (pv 5) z03))
    (z07 (z0W (z0J z6F (pv 6) z2t (z0K _)) (z02 (z0B (i := 4) sc_lawbits.nd rfl (Or.inl rfl) (z0I z0T (pv 4) (pv 6)))
    (z07 (z0B (i := 5) sc_lawbits.nd rfl (Or.inl rfl) (z0I z0T (pv 5) z03)))) z0G)))))
    (z02 (z1L (z2Y PySem.F.plainAttrs_list PySem.F.slot_list_append PySem.F.type_list_append z1M (pv 1) (z00 (pv 4) z01)))
    (z07 (z1L (z2Y PySem.F.plainAttrs_list PySem.F.slot_list_append PySem.F.type_list_append z1M (pv 2) (z00 (pv 5) z01)))))))))
    (z07 (z0H (z2w (z00 (z09 z0A rfl B.f_len boot_len (z00 (z0V ix_list (pv 0) z03 (fun _ _ => rfl)) z01)) (z00 (z09 z0A rfl B.f_len boot_len (z00 (pv 0) z01)) (z00 (z1v z1w rfl B.f_tuple boot_tuple (z00 (pv 1) z01)) (z00 (z1v z1w rfl B.f_tuple boot_tuple (z00 (pv 2) z01)) z01)))))))))), ?_⟩
  walk_at "rs"
  intro lp np
  walk_at "rs"
  intro lm nm
  have hlen := RA.len
  have hR := R.len
  have hR2 := R.h2
  have hpm : lp ≠ lm := fun e => by
    rw [<- e, z05] at nm
    cases nm
  have s1 : Same H (upd (upd H lp (.lst [])) lm (.lst [])) := (Same.new np).trans (Same.new nm)
  have nm0 : H lm = none := (Same.new np).free nm
  have g1 : (upd (upd H lp (.lst [])) lm (.lst [])) lp = some (.lst []) := by rw [z06 hpm, z05]
  have g2 : (upd (upd H lp (.lst [])) lm (.lst [])) lm = some (.lst []) := z05
  generalize upd (upd H lp (.lst [])) lm (.lst []) = H1 at s1 g1 g2
  refine ⟨_, rfl, l, rfl, ⟨_, SqL.of (s1 _ _ RA.lst)⟩, ?_⟩
  refine z4m (K := K) (a := l) (xs := ps.map V.ref) (fun i σ H2 => ∃ v3 v4 v5 v6, σ = [some (.ref l), some (.ref lp), some (.ref lm), v3, v4, v5, v6] /\ Same H H2 /\ H2 lp = some (.lst (((rows.take i).map z0M).map V.int)) /\ H2 lm = some (.lst (((rows.take i).map z0Y).map V.int)))
    ⟨none, none, none, none, rfl, s1, g1, g2⟩ (fun i σ H2 _ ⟨_, _, _, _, _, s, _⟩ => SqL.of (s _ _ RA.lst)) ?_ ?_
  . rintro i x σ H2 hi ⟨v3, v4, v5, v6, rfl, s2, gp, gm⟩
    have hil : i < rows.length := by
      have := (List.getElem?_eq_some_iff.mp hi).1
      rw [List.length_map] at this
      omega
    obtain ⟨p, hp, gr⟩ := RA.at hil
    rw [List.getElem?_map, hp] at hi
    cases hi
    obtain ⟨hw, hc⟩ := R.row0 hil
    generalize hrow : rows[i]'hil = r at gr hw hc
    have hw2 := R.w2
    walk_at "rs"
    refine ⟨p, _, rfl, SqL.of (s2 _ _ gr), ?_⟩
    refine z9K (K := K) (a := p) (xs := r.map z0r) (fun j σ H3 => ∃ v6, σ = [some (.ref l), some (.ref lp), some (.ref lm), some (.ref p), some (.int (z0M (r.drop (r.length - j)))), some (.int (z0Y (r.drop (r.length - j)))), v6] /\ H3 = H2)
      ⟨v6, by rw [Nat.sub_zero, List.drop_length]; rfl, rfl⟩ (fun j σ H3 _ ⟨_, _, e⟩ => by rw [e]; exact SqL.of (s2 _ _ gr)) ?_ ?_
    . rintro j x σ H3 hj hx ⟨v6, rfl, rfl⟩
      rw [List.length_map] at hj hx
      have hd : r.drop (r.length - (j + 1)) = r[r.length - 1 - j]'(by omega) :: r.drop (r.length - j) := by
        have e1 : r.length - (j + 1) = r.length - 1 - j := by omega
        have e2 : r.length - j = r.length - 1 - j + 1 := by omega
        rw [e1, e2]
        exact List.drop_eq_getElem_cons (by omega)
      rw [List.getElem?_map, List.getElem?_eq_getElem (by omega)] at hx
      have hx' : x = z0r (r[r.length - 1 - j]'(by omega)) := (Option.some.inj hx).symm
      subst hx'
      have hcell := hc _ (List.getElem_mem (show r.length - 1 - j < r.length by omega))
      generalize r[r.length - 1 - j]'(by omega) = c at hd hcell
      cases c with
      | none =>
        walk_at "rs"
        refine z8m (fun n => absurd rfl n) (fun _ => ?_)
        refine ⟨some (z0r none), ?_, rfl⟩
        rw [hd]
        show _ = [_, _, _, _, some (V.int ((none : Option Int).getD 0 + 16 * z0M (r.drop (r.length - j)))), some (V.int ((if (none : Option Int).isSome = true then 1 else 0) + 2 * z0Y (r.drop (r.length - j)))), _]
        have e1 : (none : Option Int).getD 0 + 16 * z0M (r.drop (r.length - j)) = z0M (r.drop (r.length - j)) * 16 := by
          show (0 : Int) + _ = _
          omega
        have e2 : (if (none : Option Int).isSome = true then (1 : Int) else 0) + 2 * z0Y (r.drop (r.length - j)) = z0Y (r.drop (r.length - j)) * 2 := by
          rw [if_neg (by simp)]
          omega
        rw [e1, e2]
        rfl
      | some z =>
        walk_at "rs"
        refine ⟨some (z0r (some z)), ?_, rfl⟩
        rw [hd]
        show _ = [_, _, _, _, some (V.int ((some z : Option Int).getD 0 + 16 * z0M (r.drop (r.length - j)))), some (V.int ((if (some z : Option Int).isSome = true then 1 else 0) + 2 * z0Y (r.drop (r.length - j)))), _]
        have e1 : (some z : Option Int).getD 0 + 16 * z0M (r.drop (r.length - j)) = z0M (r.drop (r.length - j)) * 16 + z := by
          show z + _ = _
          omega
        have e2 : (if (some z : Option Int).isSome = true then (1 : Int) else 0) + 2 * z0Y (r.drop (r.length - j)) = z0Y (r.drop (r.length - j)) * 2 + 1 := by
          rw [if_pos (show (some z).isSome = true from rfl)]
          omega
        rw [e1, e2]
        rfl
    . rintro σ H3 ⟨v6, rfl, rfl⟩
      rw [List.length_map, Nat.sub_self, List.drop_zero]
      have szp : (((rows.take i).map z0M).map V.int).length < sizeLine := by
        rw [List.length_map, List.length_map, List.length_take]
        exact z0D (by omega)
      have szm : (((rows.take i).map z0Y).map V.int).length < sizeLine := by
        rw [List.length_map, List.length_map, List.length_take]
        exact z0D (by omega)
      refine ⟨_, rfl, .inl ⟨rfl, _, SqL.of gp⟩, _, rfl, lp, _, _, rfl, rfl, gp, szp, ?_⟩
      have gm' : (upd H3 lp (.lst (((rows.take i).map z0M).map V.int ++ [.int (z0M r)]))) lm = some (.lst (((rows.take i).map z0Y).map V.int)) := by
        rw [z06 (Ne.symm hpm)]
        exact gm
      refine ⟨_, rfl, .inl ⟨rfl, _, SqL.of gm'⟩, _, rfl, lm, _, _, rfl, rfl, gm', szm, ?_⟩
      have tk : rows.take (i + 1) = rows.take i ++ [r] := by
        rw [List.take_succ, List.getElem?_eq_getElem hil, hrow]
        rfl
      refine ⟨_, _, _, _, rfl, (s2.put np).put nm0, ?_, ?_⟩
      . rw [z06 hpm, z05, tk, List.map_append, List.map_append]
        rfl
      . rw [z05, tk, List.map_append, List.map_append]
        rfl
  . rintro σ H2 ⟨v3, v4, v5, v6, rfl, s2, gp, gm⟩
    rw [List.length_map, hlen, List.take_length] at gp gm
    obtain ⟨p0, e0, g0⟩ := (RA.mono s2).atI R.ne
    refine ⟨_, rfl, l, _, 0, _, rfl, rfl, SqL.of (s2 _ _ RA.lst), e0, p0, _, rfl, .inl (SqL.of g0), _, rfl, l, _, rfl, .inl (SqL.of (s2 _ _ RA.lst)), _, rfl, lp, _, rfl, .inl ⟨SqL.of gp, fun t1 n1 => ?_⟩⟩
    refine ⟨_, rfl, lm, _, rfl, .inl ⟨SqL.of ((Same.new n1) _ _ gm), fun t2 n2 => ?_⟩⟩
    refine ⟨szV (by simp), fun t3 n3 => ?_⟩
    refine q t3 _ (((s2.trans (Same.new n1)).trans (Same.new n2)).trans (Same.new n3)) ⟨t1, t2, ?_, ?_, ?_⟩
    . rw [z05, List.length_map, List.length_map, hlen, (R.row0 R.ne).1]
    . exact (Same.new n3) _ _ ((Same.new n2) _ _ z05)
    . exact (Same.new n3) _ _ z05
theorem z5t : FnScope ["thing"] ["thing"] (z04 z1B) := ⟨rfl, rfl, rfl, by decide +kernel, rfl, by decide +kernel, by decide +kernel⟩
theorem z5u {f : Addr} {fd : FuncData} (D : Df K mg "is_whole" z1B ["thing"] f fd) (B : Blt mg) :
    Ow P w K mg base "is_whole" ["thing"] 1 z2f := by
  refine D.ow (D.F.ok z5t (fun vs H Q E h => ?_) (fun cdv A outer s H vs Q E hr h => ?_))
  . obtain ⟨x, T, rfl, _⟩ := h
    rfl
  obtain ⟨x, T, rfl, hT, q⟩ := h
  refine ⟨_, (z07 (z0H (z2U (z09 z0c rfl B.f_isinstance boot_isinstance (z00 (pv 0) (z00 (z0q (v := .ty "int") rfl B.f_int boot_int rfl) z01))) (z2C (z8Z (z09 z0c rfl B.f_isinstance boot_isinstance (z00 (pv 0) (z00 (z0q (v := .ty "bool") rfl B.f_bool boot_bool rfl) z01)))))))), ?_⟩
  refine ⟨x, rfl, x, "int", T, rfl, by decide, hT, _, rfl, ?_⟩
  have e := z2g T (z3K hT)
  cases hi : z5U T "int" with
  | true =>
    rw [hi, if_pos rfl] at e
    refine z2b ⟨x, rfl, x, "bool", T, rfl, by decide, hT, _, rfl, ?_⟩
    rw [e]
    exact q
  | false =>
    rw [hi, if_neg (by decide)] at e
    refine z5T ?_
    rw [e]
    exact q
theorem z4d : FnScope ["thing", "least", "most"] ["thing", "least", "most"] (z04 z0s) := ⟨rfl, rfl, rfl, by decide +kernel, rfl, by decide +kernel, by decide +kernel⟩
theorem z4e {f : Addr} {fd : FuncData} (D : Df K mg "is_within" z0s ["thing", "least", "most"] f fd)
    (O_iswhole : Ow P w K mg base "is_whole" ["thing"] 1 z2f) (B : Blt mg) :
    Ow P w K mg base "is_within" ["thing", "least", "most"] 2 z2L := by
  refine D.ow (D.F.ok z4d (fun vs H Q E h => ?_) (fun cdv A outer s H vs Q E hr h => ?_))
  . obtain ⟨x, a, b, T, rfl, _⟩ := h
    rfl
  obtain ⟨x, a, b, T, rfl, hT, q⟩ := h
  refine ⟨_, (z07 (z0H (z2U (z0E O_iswhole hr rfl (z00 (pv 0) z01)) (z2C (z4o z5L z5L (pv 1) (pv 0) (pv 2)))))), ?_⟩
  refine ⟨_, rfl, x, T, rfl, hT, _, rfl, ?_⟩
  by_cases hi : ∃ i, x = .int i
  . obtain ⟨i, rfl⟩ := hi
    cases hT
    refine z3k rfl ?_
    walk_at "rs"
    refine z26 (fun c1 => ?_) (fun c1 => ?_)
    . walk_at "rs"
      have e : inB (.int i) a b = decide (i <= b) := by
        show (decide (a <= i) && decide (i <= b)) = _
        rw [decide_eq_true c1, Bool.true_and]
      rw [e] at q
      exact q
    . have e : inB (.int i) a b = false := by
        show (decide (a <= i) && decide (i <= b)) = _
        rw [decide_eq_false c1, Bool.false_and]
      rw [e] at q
      exact q
  . have e : inB x a b = false := by
      cases x <;> first | rfl | exact absurd ⟨_, rfl⟩ hi
    rw [e] at q
    refine z1Z ?_ q
    exact z4M hT hi
theorem z7X : FnScope ["thing"] ["thing"] (z04 z1T) := ⟨rfl, rfl, rfl, by decide +kernel, rfl, by decide +kernel, by decide +kernel⟩
theorem z7Y {f : Addr} {fd : FuncData} (D : Df K mg "is_side" z1T ["thing"] f fd)
    (O_iswithin : Ow P w K mg base "is_within" ["thing", "least", "most"] 2 z2L) (B : Blt mg) :
    Ow P w K mg base "is_side" ["thing"] 3 z8n := by
  refine D.ow (D.F.ok z7X (fun vs H Q E h => ?_) (fun cdv A outer s H vs Q E hr h => ?_))
  . obtain ⟨x, T, rfl, _⟩ := h
    rfl
  obtain ⟨x, T, rfl, hT, q⟩ := h
  refine ⟨_, (z07 (z0H (z0E O_iswithin hr rfl (z00 (pv 0) (z00 z03 (z00 z03 z01)))))), ?_⟩
  exact ⟨_, rfl, x, _, _, T, rfl, hT, q⟩
theorem z5v : FnScope ["_law_script", "_law_k", "_law_prime", "_law_many"] ["_law_script", "_law_k", "_law_prime", "_law_many"] (z04 z1E) := ⟨rfl, rfl, rfl, by decide +kernel, rfl, by decide +kernel, by decide +kernel⟩
theorem z5w {f : Addr} {fd : FuncData} (D : Df K mg "_law_draw" z1E ["_law_script", "_law_k", "_law_prime", "_law_many"] f fd) (B : Blt mg) :
    Ow P w K mg base "_law_draw" ["_law_script", "_law_k", "_law_prime", "_law_many"] 1 (z28 K) := by
  refine D.ow (D.F.ok z5v (fun vs H Q E h => ?_) (fun cdv A outer s H vs Q E hr h => ?_))
  . obtain ⟨a, ns, k, p, m, rfl, _⟩ := h
    rfl
  obtain ⟨a, ns, k, p, m, rfl, hS, k0, k1, hp, hm, q⟩ := h
  refine ⟨_, (z02 (z0W (z0J z1b (z09 z0A rfl B.f_len boot_len (z00 (pv 0) z01)) z03 (z0K _)) (z07 (z0H z03)) z0G)
    (z07 (z0H (z0I z2u (z0I z2u (z0I z1a (z0I z0T (z0V ix_list (pv 0) (z0I z2u (pv 1) (z09 z0A rfl B.f_len boot_len (z00 (pv 0) z01))) (fun _ _ => rfl)) (z0I z1a (pv 1) (pv 1))) z03) (pv 2)) (pv 3))))), ?_⟩
  refine ⟨_, rfl, a, _, rfl, .inl hS, ?_⟩
  walk_at "rs"
  unfold z18 at q
  refine z26 (fun c => ?_) (fun c => ?_)
  . rw [if_pos (by rw [List.length_map] at c; have := V.int.inj c; omega)] at q
    exact q
  . have hl : 0 < ns.length := by
      rw [List.length_map] at c
      have : (ns.length : Int) ≠ 0 := fun e => c (by rw [e])
      omega
    rw [if_neg (by omega)] at q
    refine ⟨_, rfl, _, rfl, _, rfl, a, _, rfl, .inl hS, _, _, rfl, rfl, (by rw [List.length_map]; show (0 : Int) < (ns.length : Int); omega), a, _, _, _, rfl, rfl, hS, z86 hl k, ?_⟩
    walk_at "rs"
    exact q
theorem sc_lawshade : FnScope ["_law_script", "_law_k", "_law_shade_here"] ["_law_script", "_law_k"] (z04 z0u) := ⟨rfl, rfl, rfl, by decide +kernel, rfl, by decide +kernel, by decide +kernel⟩
theorem z4f {f : Addr} {fd : FuncData} (D : Df K mg "_law_shade" z0u ["_law_script", "_law_k"] f fd)
    (O_lawdraw : Ow P w K mg base "_law_draw" ["_law_script", "_law_k", "_law_prime", "_law_many"] 1 (z28 K)) (B : Blt mg) :
    Ow P w K mg base "_law_shade" ["_law_script", "_law_k"] 2 (z6o K) := by
  refine D.ow (D.F.ok sc_lawshade (fun vs H Q E h => ?_) (fun cdv A outer s H vs Q E hr h => ?_))
  . obtain ⟨a, ns, k, rfl, _⟩ := h
    rfl
  obtain ⟨a, ns, k, rfl, hS, k0, k1, q⟩ := h
  refine ⟨_, (z02 (z0B (i := 2) sc_lawshade.nd rfl (Or.inl rfl) (z0E O_lawdraw hr rfl (z00 (pv 0) (z00 (pv 1) (z00 z03 (z00 z03 z01))))))
    (z02 (z0W (z0J z3Z (pv 2) z03 (z0K _)) (z07 (z0H z2t)) z0G)
    (z07 (z0H (pv 2))))), ?_⟩
  walk_at "rs"
  refine ⟨a, ns, k, _, _, rfl, hS, k0, by omega, (by decide), (by decide), ?_⟩
  obtain ⟨r0, r1⟩ := z0d (ns := ns) (k := k) (p := 10037) (m := 24) (by decide)
  generalize z18 ns k 10037 24 = r at r0 r1
  walk_at "rs"
  refine z26 (fun c => ?_) (fun c => ?_)
  . exact q none (fun z e => nomatch e)
  . walk_at "rs"
    exact q (some r) (fun z e => by cases e; omega)
theorem sc_lawsign : FnScope ["_law_number", "_law_some"] ["_law_number"] (z04 z1G) := ⟨rfl, rfl, rfl, by decide +kernel, rfl, by decide +kernel, by decide +kernel⟩
theorem z5x {f : Addr} {fd : FuncData} (D : Df K mg "_law_sign" z1G ["_law_number"] f fd) (B : Blt mg) :
    Ow P w K mg base "_law_sign" ["_law_number"] 1 z6s := by
  refine D.ow (D.F.ok sc_lawsign (fun vs H Q E h => ?_) (fun cdv A outer s H vs Q E hr h => ?_))
  . obtain ⟨n, rfl, _⟩ := h
    rfl
  obtain ⟨n, rfl, q⟩ := h
  refine ⟨_, (z02 (z0B (i := 1) sc_lawsign.nd rfl (Or.inl rfl) z0f)
    (z02 (z0B (i := 1) sc_lawsign.nd rfl (Or.inl rfl) (z0I z0X (pv 1) z0f))
    (z07 (z0H (z0V z3f (pv 1) (z0I z2u (pv 0) z03) (fun _ _ => rfl)))))), ?_⟩
  walk_at "rs"
  refine ⟨by decide +kernel, ?_⟩
  walk_at "rs"
  exact ⟨_, _, z1o n, rfl, rfl, by decide +kernel, (congrArg (fun l => atI l (n % 94)) (by decide +kernel)).trans (zAa n), q⟩
theorem sc_paintroom : FnScope ["wide", "mask", "room", "x"] ["wide", "mask"] (z04 z0j) := ⟨rfl, rfl, rfl, by decide +kernel, rfl, by decide +kernel, by decide +kernel⟩
theorem z46 {f : Addr} {fd : FuncData} (D : Df K mg "paint_room" z0j ["wide", "mask"] f fd) (B : Blt mg) :
    Ow P w K mg base "paint_room" ["wide", "mask"] 1 z8o := by
  refine D.ow (D.F.ok sc_paintroom (fun vs H Q E h => ?_) (fun cdv A outer s H vs Q E hr h => ?_))
  . obtain ⟨w, m, rfl, _⟩ := h
    rfl
  obtain ⟨wd, m, rfl, w0, w1, m0, q⟩ := h
  refine ⟨_, (z02 (z0B (i := 2) sc_paintroom.nd rfl (Or.inl rfl) z03)
    (z02 (z1I PassesOwn.never rfl (z0h rfl B.f_range (z00 (pv 0) z01)) (z0N (i := 3) sc_paintroom.nd rfl (Or.inl rfl)) (z07 (z0W (z0J z1b (z0I z8d (z0I z8c (pv 1) (pv 3)) z03) z03 (z0K _)) (z07 (z0B (i := 2) sc_paintroom.nd rfl (Or.inl rfl) (z0I zBL (pv 2) (z0I zA5 z03 (z0I z1a z03 (pv 3)))))) z0G)))
    (z07 (z0H (pv 2))))), ?_⟩
  refine ⟨_, rfl, _, rfl, (z2x (by omega) (by omega)).1, (z2x (by omega) (by omega)).2, ?_⟩
  refine z0o (n := wd.toNat) (fun x σ H2 => ∃ v, σ = [some (.int wd), some (.int m), some (.int (roomI x m)), v] /\ H2 = H) ⟨none, rfl, rfl⟩ ?_ ?_
  . rintro x σ H2 hx ⟨v, rfl, rfl⟩
    have hr := z3M x m
    have sn := z2y x m
    have e0 : (0 + (x : Int)).toNat = x := by omega
    have e4 : (4 * (0 + (x : Int))).toNat = 4 * x := by omega
    have ea : Builtin.bitAnd (m / 2 ^ (0 + (x : Int)).toNat) 1 = m / 2 ^ x % 2 := by
      rw [e0, zDb]
    walk_at "rs"
    refine ⟨by omega, ?_⟩
    walk_at "rs"
    refine z26 (fun c => ?_) (fun c => ?_)
    . have c' : m / 2 ^ x % 2 = 1 := by
        rw [<- ea]
        injection c
      walk_at "rs"
      refine ⟨some (.int (0 + (x : Int))), ?_, rfl⟩
      rw [if_pos c'] at sn
      have e : roomI (x + 1) m = Builtin.bitOr (roomI x m) (15 * 2 ^ (4 * (0 + (x : Int))).toNat) := by
        rw [e4, z9O hr.1 (by rw [zCb]; exact hr.2) (by decide), sn, zCb]
      rw [e]
      rfl
    . have c' : ¬ m / 2 ^ x % 2 = 1 := fun e => c (by
        rw [<- ea] at e
        show V.int (Builtin.bitAnd (m / 2 ^ (0 + (x : Int)).toNat) 1) = V.int 1
        rw [e])
      refine ⟨some (.int (0 + (x : Int))), ?_, rfl⟩
      rw [if_neg c'] at sn
      have e : roomI (x + 1) m = roomI x m := by
        rw [sn]
        omega
      rw [e]
      rfl
  . rintro σ H2 ⟨v, rfl, rfl⟩
    exact ⟨_, rfl, q⟩
theorem z47 : FnScope ["wide", "paint", "mask"] ["wide", "paint", "mask"] (z04 z0k) := ⟨rfl, rfl, rfl, by decide +kernel, rfl, by decide +kernel, by decide +kernel⟩
theorem z48 {f : Addr} {fd : FuncData} (D : Df K mg "is_bits_row" z0k ["wide", "paint", "mask"] f fd)
    (O_iswhole : Ow P w K mg base "is_whole" ["thing"] 1 z2f)
    (O_paintroom : Ow P w K mg base "paint_room" ["wide", "mask"] 1 z8o) (B : Blt mg) :
    Ow P w K mg base "is_bits_row" ["wide", "paint", "mask"] 2 z8v := by
  refine D.ow (D.F.ok z47 (fun vs H Q E h => ?_) (fun cdv A outer s H vs Q E hr h => ?_))
  . obtain ⟨w, P, M, rfl, _⟩ := h
    rfl
  obtain ⟨wd, P, M, rfl, w1, w2, ⟨TP, hP⟩, ⟨TM, hM⟩, q⟩ := h
  refine ⟨_, (z02 (z0W (PW.pt (z2E (z0n (z0g (z0E O_iswhole hr rfl (z00 (pv 1) z01)))) (z1Y (z0n (z0g (z0E O_iswhole hr rfl (z00 (pv 2) z01))))))) (z07 (z0H z1t)) z0G)
    (z02 (z0W (PW.pt (z2E (z0J zBM (pv 2) z03 (z0K _)) (z1Y (z0J z3D (z0I z8c (pv 2) (pv 0)) z03 (z0K _))))) (z07 (z0H z1t)) z0G)
    (z07 (z0H (z2U (z1c zBN (pv 1) z03 (z0K _)) (z2C (z1c z1b (z0I z8d (pv 1) (z7k zA6 (z0E O_paintroom hr rfl (z00 (pv 0) (z00 (pv 2) z01))))) z03 (z0K _)))))))), ?_⟩
  refine ⟨_, rfl, _, TP, rfl, hP, _, rfl, ?_⟩
  by_cases iP : ∃ i, P = V.int i
  . obtain ⟨p, rfl⟩ := iP
    cases hP
    refine z1Z rfl ⟨_, rfl, _, TM, rfl, hM, _, rfl, ?_⟩
    by_cases iM : ∃ i, M = V.int i
    . obtain ⟨m, rfl⟩ := iM
      cases hM
      refine z1Z rfl ?_
      walk_at "rs"
      refine z26 (fun c => ?_) (fun c => ?_)
      . refine z2b ?_
        have e : z4U wd.toNat (.int p) (.int m) = false := z79 (decide_eq_false (by omega))
        rw [e] at q
        exact q
      . have hm : 0 <= m := by omega
        walk_at "rs"
        refine ⟨by omega, ?_⟩
        walk_at "rs"
        have ok : 0 <= p -> z2o wd.toNat p m = (decide (m / 2 ^ wd.toNat = 0) && decide (Builtin.bitAnd p (Builtin.bitNot (roomI wd.toNat m)) = 0)) := fun h => z2z _ _ _ h hm
        refine z8m (fun n => ?_) (fun e => ?_)
        . have n' : ¬ m / 2 ^ wd.toNat = 0 := fun h => n (by show V.int (m / 2 ^ wd.toNat) = V.int 0; rw [h])
          have e : z4U wd.toNat (.int p) (.int m) = false := by
            show (decide (0 <= p) && (decide (0 <= m) && z2o wd.toNat p m)) = false
            by_cases h0 : 0 <= p
            . rw [ok h0, decide_eq_false n', Bool.false_and, Bool.and_false, Bool.and_false]
            . rw [decide_eq_false h0, Bool.false_and]
          rw [e] at q
          exact q
        . have e' : m / 2 ^ wd.toNat = 0 := by injection e
          walk_at "rs"
          refine z26 (fun h0 => ?_) (fun h0 => ?_)
          . refine ⟨_, rfl, _, rfl, _, rfl, wd, m, rfl, by omega, w2, hm, ?_⟩
            walk_at "rs"
            have e2 : z4U wd.toNat (.int p) (.int m) = decide (V.int (Builtin.bitAnd p (Builtin.bitNot (roomI wd.toNat m))) = V.int 0) := by
              show (decide (0 <= p) && (decide (0 <= m) && z2o wd.toNat p m)) = _
              rw [ok h0, decide_eq_true h0, decide_eq_true hm, decide_eq_true e', Bool.true_and, Bool.true_and, Bool.true_and]
              exact decide_eq_decide.mpr ⟨fun h => by rw [h], fun h => by injection h⟩
            rw [e2] at q
            exact q
          . have e2 : z4U wd.toNat (.int p) (.int m) = false := z78 (decide_eq_false h0)
            rw [e2] at q
            exact q
    . rw [z4M hM iM]
      refine z2b ?_
      have e : z4U wd.toNat (.int p) M = false := by
        cases M with
        | int m => exact absurd ⟨m, rfl⟩ iM
        | _ => rfl
      rw [e] at q
      exact q
  . rw [z4M hP iP]
    refine z2b (z2b ?_)
    have e : z4U wd.toNat P M = false := by
      cases P with
      | int m => exact absurd ⟨m, rfl⟩ iP
      | _ => rfl
    rw [e] at q
    exact q
theorem z5y : FnScope ["thing"] ["thing"] (z04 z1C) := ⟨rfl, rfl, rfl, by decide +kernel, rfl, by decide +kernel, by decide +kernel⟩
theorem z5z {f : Addr} {fd : FuncData} (D : Df K mg "has_form" z1C ["thing"] f fd)
    (O_isside : Ow P w K mg base "is_side" ["thing"] 3 z8n) (B : Blt mg) :
    Ow P w K mg base "has_form" ["thing"] 4 z8w := by
  refine D.ow (D.F.ok z5y (fun vs H Q E h => ?_) (fun cdv A outer s H vs Q E hr h => ?_))
  . obtain ⟨x, rfl, _⟩ := h
    rfl
  obtain ⟨x, rfl, h⟩ := h
  refine ⟨_, (z02 (z0W (PW.pt (z2E (z0n (z0g (z09 z0c rfl B.f_isinstance boot_isinstance (z00 (pv 0) (z00 (z0q (v := .ty "tuple") rfl B.f_tuple boot_tuple rfl) z01))))) (z1Y (z0J z3D (z09 z0A rfl B.f_len boot_len (z00 (pv 0) z01)) z03 (z0K _))))) (z07 (z0H z1t)) z0G)
    (z02 (z0W (PW.pt (z2E (z0n (z0g (z0E O_isside hr rfl (z00 (z0V ix_tup (pv 0) z03 (fun _ _ => rfl)) z01)))) (z1Y (z0n (z0g (z0E O_isside hr rfl (z00 (z0V ix_tup (pv 0) z03 (fun _ _ => rfl)) z01))))))) (z07 (z0H z1t)) z0G)
    (z02 (z0W (PW.pt (z2E (z0n (z0g (z09 z0c rfl B.f_isinstance boot_isinstance (z00 (z0V ix_tup (pv 0) z03 (fun _ _ => rfl)) (z00 (z0q (v := .ty "tuple") rfl B.f_tuple boot_tuple rfl) z01))))) (z1Y (z0n (z0g (z09 z0c rfl B.f_isinstance boot_isinstance (z00 (z0V ix_tup (pv 0) z03 (fun _ _ => rfl)) (z00 (z0q (v := .ty "tuple") rfl B.f_tuple boot_tuple rfl) z01)))))))) (z07 (z0H z1t)) z0G)
    (z07 (z0H (z2U (z1c z1b (z09 z0A rfl B.f_len boot_len (z00 (z0V ix_tup (pv 0) z03 (fun _ _ => rfl)) z01)) (z0V ix_tup (pv 0) z03 (fun _ _ => rfl)) (z0K _)) (z2C (z1c z1b (z09 z0A rfl B.f_len boot_len (z00 (z0V ix_tup (pv 0) z03 (fun _ _ => rfl)) z01)) (z0V ix_tup (pv 0) z03 (fun _ _ => rfl)) (z0K _))))))))), ?_⟩
  rcases h with ⟨T, hT, nT, q⟩ | ⟨p, xs, rfl, hp, nl, q⟩ | ⟨p, a, b, c, d, cv, dv, rfl, hp, ⟨Ta, hTa⟩, ⟨Tb, hTb⟩, hc, hd, q⟩
  . refine ⟨_, rfl, _, "tuple", T, rfl, by decide, hT, _, rfl, ?_⟩
    rw [z3Q hT, nT]
    exact z2b (z2b q)
  . have hT : tyS H (.ref p) = some "tuple" := by simp only [tyS, hp]
    refine ⟨_, rfl, _, "tuple", "tuple", rfl, by decide, hT, _, rfl, z1Z rfl ?_⟩
    refine ⟨_, rfl, p, _, rfl, .inr (SqT.of hp), ?_⟩
    walk_at "rs"
    refine z8m (fun _ => q) (fun e => absurd ?_ nl)
    have e' : ((xs.length : Nat) : Int) = 4 := by injection e
    omega
  . have hT : tyS H (.ref p) = some "tuple" := by simp only [tyS, hp]
    refine ⟨_, rfl, _, "tuple", "tuple", rfl, by decide, hT, _, rfl, z1Z rfl ?_⟩
    refine ⟨_, rfl, p, _, rfl, .inr (SqT.of hp), ?_⟩
    walk_at "rs"
    have no : z2r a b cv dv = false -> Q (.bl false) H := fun e => by
      rw [e] at q
      exact q
    refine ⟨p, _, 0, _, rfl, rfl, SqT.of hp, rfl, _, Ta, rfl, hTa, _, rfl, ?_⟩
    cases ea : inB a 1 64 with
    | false => exact z2b (z2b (no (by unfold z2r; rw [ea]; rfl)))
    | true =>
      refine z5T ⟨_, rfl, p, _, 1, _, rfl, rfl, SqT.of hp, rfl, _, Tb, rfl, hTb, _, rfl, ?_⟩
      cases eb : inB b 1 64 with
      | false => exact z2b (no (by unfold z2r; rw [eb, Bool.false_and, Bool.and_false]))
      | true =>
        obtain ⟨hb, rfl, b1, b2⟩ := z4V eb
        obtain ⟨Tc, hTc, ec⟩ := hc.ty
        obtain ⟨Td, hTd, ed⟩ := hd.ty
        refine z5T ⟨_, rfl, p, _, 2, _, rfl, rfl, SqT.of hp, rfl, _, "tuple", Tc, rfl, by decide, hTc, _, rfl, ?_⟩
        rw [z3Q hTc, ec]
        cases cv with
        | none => exact z2b (z2b (no (by unfold z2r; rw [Bool.and_false, Bool.and_false])))
        | some ps =>
          refine z5T ⟨_, rfl, p, _, 3, _, rfl, rfl, SqT.of hp, rfl, _, "tuple", Td, rfl, by decide, hTd, _, rfl, ?_⟩
          rw [z3Q hTd, ed]
          cases dv with
          | none => exact z2b (no (by unfold z2r; rw [Bool.and_false, Bool.and_false]))
          | some ms =>
            obtain ⟨qc, rfl, gc, _⟩ := hc
            obtain ⟨qd, rfl, gd, _⟩ := hd
            have fb : z2r a (.int hb) (some ps) (some ms) = (decide ((ps.length : Int) = hb) && decide ((ms.length : Int) = hb)) := by
              show (inB a 1 64 && (inB (.int hb) 1 64 && _)) = _
              rw [ea, eb, Bool.true_and, Bool.true_and]
              rfl
            rw [fb] at q
            refine z5T ⟨_, rfl, p, _, 2, _, rfl, rfl, SqT.of hp, rfl, qc, _, rfl, .inr (SqT.of gc), _, rfl, p, _, 1, _, rfl, rfl, SqT.of hp, rfl, rfl, _, rfl, ?_⟩
            refine z26 (fun c1 => ?_) (fun c1 => ?_)
            . refine ⟨_, rfl, p, _, 3, _, rfl, rfl, SqT.of hp, rfl, qd, _, rfl, .inr (SqT.of gd), _, rfl, p, _, 1, _, rfl, rfl, SqT.of hp, rfl, rfl, ?_⟩
              have c1' : ((ps.length : Nat) : Int) = hb := by injection c1
              rw [decide_eq_true c1', Bool.true_and] at q
              rw [show decide (V.int ((ms.length : Nat) : Int) = V.int hb) = decide (((ms.length : Nat) : Int) = hb) from decide_eq_decide.mpr ⟨fun h => by injection h, fun h => by rw [h]⟩]
              exact q
            . rw [decide_eq_false (fun h => c1 (by rw [h])), Bool.false_and] at q
              exact q
theorem z49 : FnScope ["thing"] ["thing"] (z04 z0Z) := ⟨rfl, rfl, rfl, by decide +kernel, rfl, by decide +kernel, by decide +kernel⟩
theorem z4A {f : Addr} {fd : FuncData} (D : Df K mg "is_picture" z0Z ["thing"] f fd)
    (O_isbitsrow : Ow P w K mg base "is_bits_row" ["wide", "paint", "mask"] 2 z8v)
    (O_hasform : Ow P w K mg base "has_form" ["thing"] 4 z8w) (B : Blt mg) :
    Ow P w K mg base "is_picture" ["thing"] 5 zAf := by
  refine D.ow (D.F.ok z49 (fun vs H Q E h => ?_) (fun cdv A outer s H vs Q E hr h => ?_))
  . obtain ⟨x, k, rfl, _⟩ := h
    rfl
  obtain ⟨x, k, rfl, hk, q⟩ := h
  refine ⟨_, (z02 (z0W (z0n (z0g (z0E O_hasform hr rfl (z00 (pv 0) z01)))) (z07 (z0H z1t)) z0G)
    (z07 (z0H (z09 (z2K rfl) rfl B.f_all boot_all (z00 (z1R (locs := ["paint", "mask"]) (ix := [0]) rfl (BlkSc.look (dsc := z04 z0Z) (N := ["thing"]) rfl rfl (by decide +kernel)) (zAO rfl B.f_zip (z00 (z0V ix_tup (pv 0) z03 (fun _ _ => rfl)) (z00 (z0V ix_tup (pv 0) z03 (fun _ _ => rfl)) z01))) (fun _ _ _ _ _ _ => (z9L (n := 2) rfl (z1h (z0N (i := 0) (by decide +kernel : (["paint", "mask", "thing"] : List Str).Nodup) rfl (Or.inl rfl)) (z1h (z0N (i := 1) (by decide +kernel : (["paint", "mask", "thing"] : List Str).Nodup) rfl (Or.inl rfl)) z4H)))) (fun _ _ _ _ _ _ => z1Q) (fun _ _ _ _ _ _ => (z0E O_isbitsrow hr rfl (z00 (z0V z2d (pv 2) z03 (fun _ _ => rfl)) (z00 (pv 0) (z00 (pv 1) z01)))))) z01))))), ?_⟩
  cases hk with
  | no T hT nT => exact ⟨_, rfl, x, rfl, .inl ⟨T, hT, nT, _, rfl, z2b (q _ (Same.refl _))⟩⟩
  | few p xs e hp nl => exact ⟨_, rfl, x, rfl, .inr (.inl ⟨p, xs, e, hp, nl, _, rfl, z2b (q _ (Same.refl _))⟩)⟩
  | four p a b c d cv dv e hp hTa hTb hc hd =>
    subst e
    refine ⟨_, rfl, _, rfl, .inr (.inr ⟨p, a, b, c, d, cv, dv, rfl, hp, hTa, hTb, hc, hd, _, rfl, ?_⟩)⟩
    cases ef : z2r a b cv dv with
    | false =>
      have e0 : z5e a b cv dv = false := by
        unfold z5e
        rw [ef, Bool.false_and]
      rw [e0] at q
      exact z2b (q _ (Same.refl _))
    | true =>
      have ef' := ef
      unfold z2r at ef'
      rw [Bool.and_eq_true, Bool.and_eq_true] at ef'
      obtain ⟨ea, eb, ec⟩ := ef'
      obtain ⟨wd, rfl, w1, w2⟩ := z4V ea
      obtain ⟨hg, rfl, h1, h2⟩ := z4V eb
      cases cv with
      | none => exact absurd ec (by simp)
      | some ps =>
        cases dv with
        | none => exact absurd ec (by simp)
        | some ms =>
          have ec' : (decide ((ps.length : Int) = hg) && decide ((ms.length : Int) = hg)) = true := ec
          rw [Bool.and_eq_true, decide_eq_true_eq, decide_eq_true_eq] at ec'
          obtain ⟨l1, l2⟩ := ec'
          obtain ⟨qc, rfl, gc, _, tc⟩ := hc
          obtain ⟨qd, rfl, gd, _, td⟩ := hd
          have e0 : z5e (.int wd) (.int hg) (some ps) (some ms) = (ps.zip ms).all fun z => z4U wd.toNat z.1 z.2 := by
            unfold z5e
            rw [ef, Bool.true_and]
            rfl
          rw [e0] at q
          refine z5T ⟨_, rfl, p, _, 2, _, rfl, rfl, SqT.of hp, rfl, _, rfl, p, _, 3, _, rfl, rfl, SqT.of hp, rfl, qc, qd, _, _, rfl, SqT.of gc, SqT.of gd, ?_⟩
          have hz : (ps.zip ms).length = ps.length := by
            rw [List.length_zip]
            omega
          refine z1S (n := ps.length) (fun i σ zs H2 => ∃ u v, σ = [u, v, some (.ref p)] /\ zs = (((ps.zip ms).take i).map fun z => z4U wd.toNat z.1 z.2).map V.bl /\ Same H H2 /\ i <= ps.length) ⟨none, none, rfl, rfl, Same.refl _, Nat.zero_le _⟩ (Nat.le_of_lt (z0D (by omega))) ?_ ?_ ?_ ?_ ?_
          . rintro i σ zs H2 ⟨u, v, _, rfl, _, hi⟩
            rw [List.length_map, List.length_map, List.length_take]
            omega
          . rintro σ zs H2 ⟨u, v, _, _, s2, _⟩
            exact ⟨SqT.of (s2 _ _ gc), SqT.of (s2 _ _ gd), .inl (Nat.le_refl _)⟩
          . rintro i σ zs H2 hi ⟨u, v, _, _, s2, _⟩
            exact ⟨SqT.of (s2 _ _ gc), SqT.of (s2 _ _ gd), hi, by omega⟩
          . rintro i σ zs H2 x H' Z hi ⟨u, v, rfl, rfl, s2, _⟩ ⟨T, y, z, nT, rfl, rfl, hy, hz'⟩ hZ
            have k2 : Same H2 (upd H2 T (.tup [y, z])) := Same.new nT
            have k3 := s2.trans k2
            have ty := (tc _ (List.mem_of_getElem? hy)).mono k3
            have tz := (td _ (List.mem_of_getElem? hz')).mono k3
            refine ⟨T, _, rfl, SqT.of z05, rfl, _, _, rfl, _, _, rfl, rfl, ?_⟩
            refine ⟨_, rfl, p, _, 0, _, rfl, rfl, SqT.of (k3 _ _ hp), rfl, _, rfl, _, rfl, wd, y, z, rfl, w1, w2, ty, tz, ?_⟩
            refine hZ _ _ _ ⟨_, _, rfl, ?_, k3, hi⟩
            have hzi : (ps.zip ms)[i]? = some (y, z) := by
              rw [List.getElem?_zip_eq_some]
              exact ⟨hy, hz'⟩
            rw [List.take_succ, hzi, List.map_append, List.map_append]
            rfl
          . rintro σ zs H2 ⟨u, v, rfl, rfl, s2, _⟩ l' nl'
            have et : (ps.zip ms).take ps.length = ps.zip ms := List.take_of_length_le (by omega)
            rw [et]
            refine ⟨l', _, rfl, SqL.of z05, ?_⟩
            rw [List.all_map]
            exact q _ (s2.trans (Same.new nl'))
theorem z7Z : FnScope ["thing"] ["thing"] (z04 z1V) := ⟨rfl, rfl, rfl, by decide +kernel, rfl, by decide +kernel, by decide +kernel⟩
theorem z7a {f : Addr} {fd : FuncData} (D : Df K mg "is_sign" z1V ["thing"] f fd) (B : Blt mg) :
    Ow P w K mg base "is_sign" ["thing"] 1 z7H := by
  refine D.ow (D.F.ok z7Z (fun vs H Q E h => ?_) (fun cdv A outer s H vs Q E hr h => ?_))
  . obtain ⟨v, T, rfl, _⟩ := h
    rfl
  obtain ⟨v, T, rfl, hT, hl, q⟩ := h
  refine ⟨_, (z02 (z0W (PW.pt (z2E (z0n (z0g (z09 z0c rfl B.f_isinstance boot_isinstance (z00 (pv 0) (z00 (z0q (v := .ty "str") rfl B.f_str boot_str rfl) z01))))) (z1Y (z0J z3D (z09 z1J rfl B.f_len boot_len (z00 (pv 0) z01)) z03 (z0K _))))) (z07 (z0H z1t)) z0G)
    (z07 (z0H (z2U (z4o z5L z5L z03 (z09 z4p rfl B.f_ord boot_ord (z00 (pv 0) z01)) z03) (z2C (z1c z3D (z09 z4p rfl B.f_ord boot_ord (z00 (pv 0) z01)) z03 (z0K _))))))), ?_⟩
  refine ⟨_, rfl, v, "str", T, rfl, by decide, hT, ?_⟩
  cases hs : z5U T "str" with
  | false =>
    have e : sgV v = false := by
      cases v with
      | str z =>
        cases hT
        exact absurd hs (by decide)
      | _ => rfl
    rw [e] at q
    exact ⟨_, rfl, z3k rfl (z2b q)⟩
  | true =>
    have hv : ∃ z, v = .str z := by
      cases v with
      | str z => exact ⟨z, rfl⟩
      | non => cases hT; exact absurd hs (by decide)
      | bl b => cases hT; exact absurd hs (by decide)
      | int i => cases hT; exact absurd hs (by decide)
      | ref a =>
        have hT' : (match H a with | some (.lst _) => some "list" | some (.frz _ (.lst _)) => some "list" | some (.tup _) => some "tuple" | some (.dK _) => some "dict" | some (.dT _) => some "dict" | _ => none) = some T := hT
        split at hT' <;> first | (cases hT'; exact absurd hs (by decide)) | cases hT'
      | _ => exact nomatch hT
    obtain ⟨z, rfl⟩ := hv
    have hz := hl z rfl
    have sz : z.length <= sizeLine := Nat.le_of_lt (z0D hz)
    refine ⟨_, rfl, z1Z rfl ?_⟩
    walk_at "rs"
    refine ⟨sz, ?_⟩
    walk_at "rs"
    refine z8m (fun n1 => ?_) (fun n1 => ?_)
    . have e : sgV (.str z) = false := by
        show sgB z = false
        unfold sgB
        rw [decide_eq_false (fun e => n1 (by rw [e]; rfl)), Bool.false_and]
      rw [e] at q
      exact q
    . have e1 : z.length = 1 := by
        injection n1 with n1
        omega
      have e : sgV (.str z) = ((decide (32 <= z.cps.getD 0 0) && decide (z.cps.getD 0 0 <= 126)) && decide (z.cps.getD 0 0 ≠ 37)) := by
        show sgB z = _
        unfold sgB
        rw [decide_eq_true e1, Bool.true_and]
      rw [e] at q
      walk_at "rs"
      refine ⟨e1, ?_⟩
      walk_at "rs"
      refine z26 (fun a1 => ?_) (fun a1 => ?_)
      . rw [decide_eq_true (show 32 <= z.cps.getD 0 0 by omega), Bool.true_and] at q
        walk_at "rs"
        refine z26 (fun a2 => ?_) (fun a2 => ?_)
        . rw [decide_eq_true (show z.cps.getD 0 0 <= 126 by omega), Bool.true_and] at q
          walk_at "rs"
          refine ⟨e1, ?_⟩
          walk_at "rs"
          have e : (!decide (V.int ((z.cps.getD 0 0 : Nat) : Int) = V.int 37)) = decide (z.cps.getD 0 0 ≠ 37) := by
            by_cases e : z.cps.getD 0 0 = 37
            . rw [e]
              rfl
            . rw [decide_eq_true e, decide_eq_false fun z => e (by injection z with z; omega)]
              rfl
          show Q (V.bl (!decide (V.int ((z.cps.getD 0 0 : Nat) : Int) = V.int 37))) H
          rw [e]
          exact q
        . rw [decide_eq_false (show ¬ z.cps.getD 0 0 <= 126 by omega), Bool.false_and] at q
          exact q
      . rw [decide_eq_false (show ¬ 32 <= z.cps.getD 0 0 by omega), Bool.false_and, Bool.false_and] at q
        exact ⟨_, rfl, z5T q⟩
theorem z7b : FnScope ["thing"] ["thing"] (z04 z1W) := ⟨rfl, rfl, rfl, by decide +kernel, rfl, by decide +kernel, by decide +kernel⟩
theorem z7c {f : Addr} {fd : FuncData} (D : Df K mg "is_pair" z1W ["thing"] f fd)
    (O_ispicture : Ow P w K mg base "is_picture" ["thing"] 5 zAf)
    (O_issign : Ow P w K mg base "is_sign" ["thing"] 1 z7H) (B : Blt mg) :
    Ow P w K mg base "is_pair" ["thing"] 6 z7I := by
  refine D.ow (D.F.ok z7b (fun vs H Q E h => ?_) (fun cdv A outer s H vs Q E hr h => ?_))
  . obtain ⟨v, k, rfl, _⟩ := h
    rfl
  obtain ⟨v, k, rfl, hk, q⟩ := h
  refine ⟨_, (z02 (z0W (PW.pt (z2E (z0n (z0g (z09 z0c rfl B.f_isinstance boot_isinstance (z00 (pv 0) (z00 (z0q (v := .ty "tuple") rfl B.f_tuple boot_tuple rfl) z01))))) (z1Y (z0J z3D (z09 z0A rfl B.f_len boot_len (z00 (pv 0) z01)) z03 (z0K _))))) (z07 (z0H z1t)) z0G)
    (z07 (z0H (z2U (z0E O_issign hr rfl (z00 (z0V ix_tup (pv 0) z03 (fun _ _ => rfl)) z01)) (z2C (z0E O_ispicture hr rfl (z00 (z0V ix_tup (pv 0) z03 (fun _ _ => rfl)) z01))))))), ?_⟩
  cases hk with
  | no T hT nT =>
    have e : z5U T "tuple" = false := by
      unfold z5U
      rw [nT, Bool.false_or, show (("tuple" : String) == "int") = false by decide, Bool.and_false]
    exact ⟨_, rfl, v, "tuple", T, rfl, by decide, hT, by rw [e]; exact ⟨_, rfl, z3k rfl (z2b (q _ (Same.refl _)))⟩⟩
  | few t xs e ht nl =>
    subst e
    refine ⟨_, rfl, _, "tuple", "tuple", rfl, by decide, by simp only [tyS, ht], _, rfl, z1Z rfl ?_⟩
    refine ⟨_, rfl, t, _, rfl, .inr (SqT.of ht), rfl, _, rfl, ?_⟩
    refine z8m (fun n1 => q _ (Same.refl _)) (fun n1 => absurd ?_ nl)
    injection n1 with n1
    omega
  | two t a b T k e ht hT hz hP =>
    subst e
    refine ⟨_, rfl, _, "tuple", "tuple", rfl, by decide, by simp only [tyS, ht], _, rfl, z1Z rfl ?_⟩
    refine ⟨_, rfl, t, _, rfl, .inr (SqT.of ht), rfl, _, rfl, z1Z rfl ?_⟩
    refine ⟨_, rfl, t, _, 0, _, rfl, rfl, SqT.of ht, rfl, a, T, rfl, hT, hz, _, rfl, ?_⟩
    cases es : sgV a with
    | false =>
      rw [es, Bool.false_and] at q
      exact z5T (q _ (Same.refl _))
    | true =>
      rw [es, Bool.true_and] at q
      refine z2b ⟨_, rfl, t, _, 1, _, rfl, rfl, SqT.of ht, rfl, b, k, rfl, hP, fun H1 s1 => q _ s1⟩
theorem sc_picsbysigns : FnScope ["pairs", "pics"] ["pairs"] (z04 z0O) := ⟨rfl, rfl, rfl, by decide +kernel, rfl, by decide +kernel, by decide +kernel⟩
theorem z2s {f : Addr} {fd : FuncData} (D : Df K mg "pics_by_signs" z0O ["pairs"] f fd)
    {c_GlowError c_NoFont c_NoSign c_TooWide : Addr} (Z : Cl K mg c_GlowError c_NoFont c_NoSign c_TooWide)
    (O_iswithin : Ow P w K mg base "is_within" ["thing", "least", "most"] 2 z2L)
    (O_ispair : Ow P w K mg base "is_pair" ["thing"] 6 z7I)
    (E_NoFont : Oo K mg "NoFont" c_NoFont) (B : Blt mg) :
    Ow2 P w K mg base "pics_by_signs" ["pairs"] 7 z3V := by
  refine D.ow2 (D.F.ok2 sc_picsbysigns (fun vs H Q E h => ?_) (fun cdv A outer s H vs Q E hr h => ?_))
  . obtain ⟨l, us, Ss, hg, rfl, _⟩ := h
    rfl
  obtain ⟨l, us, Ss, hg, rfl, PA, FO, q⟩ := h
  refine ⟨_, (z02 (z0W (PW.pt (z2E (z0n (z0g (z09 z0c rfl B.f_isinstance boot_isinstance (z00 (pv 0) (z00 (z0q (v := .ty "list") rfl B.f_list boot_list rfl) z01))))) (z1Y (z0n (z0g (z0E O_iswithin hr rfl (z00 (z09 z0A rfl B.f_len boot_len (z00 (pv 0) z01)) (z00 z03 (z00 z03 z01))))))))) (z07 (z1g z1q rfl E_NoFont rfl (z00 z0f z01))) z0G)
    (z02 (z0W (z0n (z0g (z09 (z2K rfl) rfl B.f_all boot_all (z00 (z1R (locs := ["pair"]) (ix := []) rfl (BlkSc.look (dsc := z04 z0O) (N := ["pairs", "pics"]) rfl rfl (by decide +kernel)) (z24 (pv 0)) (fun _ _ _ _ _ _ => (z0N (i := 0) (by decide +kernel : (["pair"] : List Str).Nodup) rfl (Or.inl rfl))) (fun _ _ _ _ _ _ => z1Q) (fun _ _ _ _ _ _ => (z0E O_ispair hr rfl (z00 (pv 0) z01)))) z01)))) (z07 (z1g z1q rfl E_NoFont rfl (z00 z0f z01))) z0G)
    (z02 (z0B (i := 1) sc_picsbysigns.nd rfl (Or.inl rfl) (z1v (z36 rfl) rfl B.f_dict boot_dict (z00 (pv 0) z01)))
    (z02 (z0W (z0J z3D (z09 z6Y rfl B.f_len boot_len (z00 (pv 1) z01)) (z09 z0A rfl B.f_len boot_len (z00 (pv 0) z01)) (z0K _)) (z07 (z1g z1q rfl E_NoFont rfl (z00 z0f z01))) z0G)
    (z02 (z0W (z0n (z0g (z09 (z2K rfl) rfl B.f_all boot_all (z00 (z7B (z1R (locs := ["pic"]) (ix := [0]) rfl (BlkSc.look (dsc := z04 z0O) (N := ["pairs", "pics"]) rfl rfl (by decide +kernel)) (z9i (pv 1)) (fun _ _ _ _ _ _ => (z0N (i := 0) (by decide +kernel : (["pic", "pairs"] : List Str).Nodup) rfl (Or.inl rfl))) (fun _ _ _ _ _ _ => z1Q) (fun _ _ _ _ _ _ => (z1c z1b (z0V z2d (pv 0) z03 (fun _ _ => rfl)) (z0V z2d (z0V z2d (z0V z83 (pv 1) z03 (fun _ _ => rfl)) z03 (fun _ _ => rfl)) z03 (fun _ _ => rfl)) (z0K _))))) z01)))) (z07 (z1g z1q rfl E_NoFont rfl (z00 z0f z01))) z0G)
    (z07 (z0H (pv 1)))))))), ?_⟩
  have hul := PA.len
  have n1 := FO.n1
  have n2 := FO.n2
  obtain ⟨ps, hpl, hps⟩ := PA.pics
  have h0 : 0 < us.length := by omega
  refine ⟨_, rfl, _, "list", "list", rfl, by decide, by simp only [tyS, PA.lst], _, rfl, z1Z rfl ?_⟩
  refine ⟨_, rfl, l, _, rfl, .inl (SqL.of PA.lst), ?_⟩
  rw [List.length_map, hul]
  refine ⟨_, _, _, "int", rfl, rfl, _, rfl, ?_⟩
  have ein : inB (.int (Ss.length : Nat)) 1 60 = true := by
    show (decide ((1 : Int) <= (Ss.length : Nat)) && decide (((Ss.length : Nat) : Int) <= 60)) = true
    rw [decide_eq_true (by omega), decide_eq_true (by omega)]
    rfl
  rw [ein]
  refine z1Z rfl ?_
  walk_at "rs"
  refine ⟨⟨_, SqL.of PA.lst⟩, ?_⟩
  refine z1S (n := Ss.length) (fun i σ zs H2 => ∃ v, σ = [v] /\ zs = (List.replicate i true).map V.bl /\ Same H H2) ⟨none, rfl, rfl, Same.refl _⟩ (Nat.le_of_lt (z0D (by omega))) ?_ ?_ ?_ ?_ ?_
  . rintro i σ zs H2 ⟨v, _, rfl, _⟩
    rw [List.length_map, List.length_replicate]
  . rintro σ zs H2 ⟨v, _, _, s2⟩
    exact ⟨_, SqL.of (s2 _ _ PA.lst), by rw [List.length_map, hul]; exact Nat.le_refl _⟩
  . rintro i σ zs H2 hi ⟨v, _, _, s2⟩
    exact ⟨_, .ref (us[i]'(by omega)), SqL.of (s2 _ _ PA.lst), by rw [List.getElem?_map, List.getElem?_eq_getElem (by omega)]; rfl⟩
  . rintro i σ zs H2 x H' Z hi ⟨v, rfl, rfl, s2⟩ ⟨rfl, hx⟩ hZ
    have e := hx _ (SqL.of (s2 _ _ PA.lst))
    rw [List.getElem?_map, List.getElem?_eq_getElem (by omega)] at e
    cases e
    have PR := PA.at' i (us[i]'(by omega)) (Ss[i]'hi) (List.getElem?_eq_getElem _) (List.getElem?_eq_getElem hi)
    refine ⟨_, rfl, _, true, rfl, (PR.mono s2).isPair (FO.sg _ (List.getElem_mem hi)), fun H3 s3 => ?_⟩
    refine hZ _ _ _ ⟨_, rfl, ?_, s2.trans s3⟩
    rw [List.replicate_succ', List.map_append]
    rfl
  rintro σ zs H2 ⟨v, rfl, rfl, s2⟩ lb nlb
  refine ⟨lb, List.replicate Ss.length true, rfl, SqL.of z05, _, rfl, z1Z (by simp) ?_⟩
  have s3 : Same H (upd H2 lb (.lst ((List.replicate Ss.length true).map V.bl))) := s2.trans (Same.new nlb)
  generalize upd H2 lb (.lst ((List.replicate Ss.length true).map V.bl)) = H3 at s3 ⊢
  have PA3 := PA.mono s3
  have kl := z2A (Ss := Ss) hpl
  have kp := z4Z FO hpl
  refine ⟨_, rfl, l, us, kvF Ss ps, rfl, SqL.of PA3.lst, by rw [kl, hul], ?_, fun i t k v e1 e2 => ?_, fun d nd => ?_⟩
  . rw [kp, kl]
    exact Nat.le_of_lt (z0D (by omega))
  . have hi : i < Ss.length := by
      rw [<- hul]
      exact (List.getElem?_eq_some_iff.mp e1).1
    rw [z57 hpl hi] at e2
    cases e2
    exact s3 _ _ (hps i t _ _ e1 (List.getElem?_eq_getElem hi) (List.getElem?_eq_getElem (by omega))).1
  rw [kp]
  have s4 : Same H3 (upd H3 d (.dK (kvF Ss ps))) := Same.new nd
  have g4 : (upd H3 d (.dK (kvF Ss ps))) d = some (.dK (kvF Ss ps)) := z05
  generalize upd H3 d (.dK (kvF Ss ps)) = H4 at s4 g4
  have PA4 := PA3.mono s4
  refine ⟨_, rfl, d, _, rfl, g4, _, rfl, l, _, rfl, .inl (SqL.of PA4.lst), ?_⟩
  rw [List.length_map, hul, kl]
  walk_at "rs"
  refine z8m (fun n => absurd rfl n) (fun _ => ?_)
  have t4 := s3.trans s4
  have nd0 : H d = none := s3.free nd
  obtain ⟨t0, e0, PR0, a0⟩ := PA4.get (i := 0) (by omega)
  obtain ⟨p0, f0, PC0, R0⟩ := PR0
  obtain ⟨pp0, pm0, k01, _, _⟩ := id PC0
  have R0l := R0.len
  walk_at "rs"
  refine ⟨d, kvF Ss ps, g4, _, rfl, d, _, rfl, g4, fun ob => ?_⟩
  have o5 : ∀ b o, b ≠ d -> H4 b = some o -> (upd H4 d (.frz ob (.dK (kvF Ss ps)))) b = some o := fun b o nb e => (z06 nb).trans e
  have tp5 : ∀ {b : Addr} {xs : List V}, H4 b = some (.tup xs) -> (upd H4 d (.frz ob (.dK (kvF Ss ps)))) b = some (.tup xs) := fun {b xs} e => o5 b _ (z1H e g4 fun z => nomatch z) e
  have ls5 : (upd H4 d (.frz ob (.dK (kvF Ss ps)))) l = some (.lst (us.map V.ref)) := o5 l _ (z1H PA4.lst g4 fun z => nomatch z) PA4.lst
  have fz5 : (upd H4 d (.frz ob (.dK (kvF Ss ps)))) d = some (.frz ob (.dK (kvF Ss ps))) := z05
  have sm5 : Same H (upd H4 d (.frz ob (.dK (kvF Ss ps)))) := t4.put nd0
  generalize upd H4 d (.frz ob (.dK (kvF Ss ps))) = H5 at o5 tp5 ls5 fz5 sm5
  refine z1S (n := Ss.length) (fun i σ zs H6 => ∃ v, σ = [v, some (.ref l)] /\ zs = (List.replicate i true).map V.bl /\ H6 = H5) ⟨none, rfl, rfl, rfl⟩ (Nat.le_of_lt (z0D (by omega))) ?_ ?_ ?_ ?_ ?_
  . rintro i σ zs H6 ⟨v, _, rfl, _⟩
    rw [List.length_map, List.length_replicate]
  . rintro σ zs H6 ⟨v, _, _, rfl⟩
    exact ⟨fz5, by rw [kl]; exact Nat.le_refl _⟩
  . rintro i σ zs H6 hi ⟨v, _, _, rfl⟩
    exact ⟨fz5, by rw [kl]; exact hi⟩
  . rintro i σ zs H6 x H' Z hi ⟨v, rfl, rfl, rfl⟩ ⟨rfl, k, hx⟩ hZ
    rw [z57 hpl hi] at hx
    cases hx
    obtain ⟨_, PCi, Ri⟩ := hps i (us[i]'(by omega)) (Ss[i]'hi) (ps[i]'(by omega)) (List.getElem?_eq_getElem _) (List.getElem?_eq_getElem hi) (List.getElem?_eq_getElem _)
    obtain ⟨ppi, pmi, ki, _, _⟩ := PCi
    have Ril := Ri.len
    refine ⟨_, rfl, ps[i]'(by omega), _, 1, _, rfl, rfl, SqT.of (tp5 (t4 _ _ ki)), rfl, ?_⟩
    refine ⟨_, rfl, l, _, 0, _, rfl, rfl, SqL.of ls5, a0, t0, _, 1, _, rfl, rfl, SqT.of (tp5 f0), rfl, p0, _, 1, _, rfl, rfl, SqT.of (tp5 k01), rfl, ?_⟩
    walk_at "rs"
    refine hZ _ _ _ ⟨_, rfl, ?_, rfl⟩
    rw [List.replicate_succ', List.map_append, Ril, R0l, decide_eq_true rfl]
    rfl
  . rintro σ zs H6 ⟨v, rfl, rfl, rfl⟩ lc nlc
    have ncd : lc ≠ d := fun e => by rw [e, fz5] at nlc; cases nlc
    refine ⟨ob, (z06 (Ne.symm ncd)).trans fz5, ?_⟩
    refine ⟨lc, List.replicate Ss.length true, rfl, SqL.of ((z06 ncd).trans z05), _, rfl, z1Z (by simp) ?_⟩
    have nlc0 : H lc = none := sm5.free nlc
    refine ⟨_, rfl, ?_⟩
    have s7 : Same H (upd (upd H6 lc (.lst ((List.replicate Ss.length true).map V.bl))) d (.dK (kvF Ss ps))) := (sm5.put nlc0).put nd0
    refine q d _ s7 nd0 ⟨ps, hpl, z05, fun i S p e1 e2 => ?_⟩
    have hi : i < us.length := by
      rw [hul]
      exact (List.getElem?_eq_some_iff.mp e1).1
    exact (hps i _ S p (List.getElem?_eq_getElem hi) e1 e2).2.1.mono s7
theorem z4g : FnScope ["self", "pairs", "gap"] ["self", "pairs", "gap"] (z04 z19) := ⟨rfl, rfl, rfl, by decide +kernel, rfl, by decide +kernel, by decide +kernel⟩
theorem z4h {f : Addr} {fd : FuncData} {T : Addr}
    {c_Font : Addr} (Zo : Co K mg c_Font)
    {c_GlowError c_NoFont c_NoSign c_TooWide : Addr} (Z : Cl K mg c_GlowError c_NoFont c_NoSign c_TooWide)
    (O_iswithin : Ow P w K mg base "is_within" ["thing", "least", "most"] 2 z2L)
    (O_picsbysigns : Ow2 P w K mg base "pics_by_signs" ["pairs"] 7 z3V)
    (E_NoFont : Oo K mg "NoFont" c_NoFont) (D : FunD K "__init__" "Font.__init__" z19 f fd T) (B : Blt mg) :
    FnOk P w K mg base (CX2 P w) 8 f fd ["self", "pairs", "gap"] (z3R c_Font) := by
  refine D.ok2 z4g (fun vs H Q E h => ?_) (fun cdv A outer s H vs Q E hr h => ?_)
  . obtain ⟨x, dx, l, us, Ss, hg, gap, rfl, _⟩ := h
    rfl
  obtain ⟨x, dx, l, us, Ss, hg, gap, rfl, hx, PA, FO, g0, g1, q⟩ := h
  refine ⟨_, (z02 (z0W (z0n (z0g (z0E O_iswithin hr rfl (z00 (pv 2) (z00 z03 (z00 z03 z01)))))) (z07 (z1g z1q rfl E_NoFont rfl (z00 z0f z01))) z0G)
    (z02 (z6K (pv 0) (z8J O_picsbysigns hr z77 rfl (z00 (pv 1) z01)) rfl)
    (z02 (z6K (pv 0) (z0V ix_tup (z0V ix_tup (z0V ix_list (pv 1) z03 (fun _ _ => rfl)) z03 (fun _ _ => rfl)) z03 (fun _ _ => rfl)) rfl)
    (z07 (z6K (pv 0) (pv 2) rfl))))), ?_⟩
  have ein : inB (.int gap) 0 8 = true := by
    show (decide ((0 : Int) <= gap) && decide (gap <= 8)) = true
    rw [decide_eq_true g0, decide_eq_true g1]
    rfl
  refine ⟨_, rfl, _, _, _, "int", rfl, rfl, _, rfl, ?_⟩
  rw [ein]
  refine z1Z rfl ?_
  obtain ⟨p0, f0, PC0, R0⟩ := PA.at' 0 _ _ (List.getElem?_eq_getElem (show 0 < us.length by have := PA.len; have := FO.n1; omega)) (List.getElem?_eq_getElem (show 0 < Ss.length by have := FO.n1; omega))
  obtain ⟨t0, e0, _, a0⟩ := PA.get (i := 0) (by have := FO.n1; omega)
  rw [List.getElem?_eq_getElem (show 0 < us.length by have := PA.len; have := FO.n1; omega)] at e0
  cases e0
  obtain ⟨pp0, pm0, k01, _, _⟩ := id PC0
  have R0l := R0.len
  refine ⟨_, rfl, l, us, Ss, hg, rfl, PA, FO, fun d H1 s1 nd PK => ?_⟩
  refine ⟨_, rfl, x, c_Font, dx, [], rfl, s1 _ _ hx, Zo.k_Font, Zo.n_Font_pics, by decide, ?_⟩
  have o2 : ∀ b o, b ≠ x -> H1 b = some o -> (upd H1 x (.ins c_Font dx (z2n "pics" (.ref d) []))) b = some o := fun b o nb e => (z06 nb).trans e
  have x2 : (upd H1 x (.ins c_Font dx (z2n "pics" (.ref d) []))) x = some (.ins c_Font dx [("pics", .ref d)]) := z05
  generalize upd H1 x (.ins c_Font dx (z2n "pics" (.ref d) [])) = H2 at o2 x2
  have nt : ∀ {b : Addr} {xs : List V}, H b = some (.tup xs) -> H2 b = some (.tup xs) := fun {b xs} e => o2 b _ (z1H e hx fun z => nomatch z) (s1 _ _ e)
  have nl : H2 l = some (.lst (us.map V.ref)) := o2 l _ (z1H PA.lst hx fun z => nomatch z) (s1 _ _ PA.lst)
  refine ⟨_, rfl, l, _, 0, _, rfl, rfl, SqL.of nl, a0, _, _, 1, _, rfl, rfl, SqT.of (nt f0), rfl, p0, _, 1, _, rfl, rfl, SqT.of (nt k01), rfl, ?_⟩
  refine ⟨_, rfl, x, c_Font, dx, _, rfl, x2, Zo.k_Font, Zo.n_Font_high, (by show 1 < 1000; decide), ?_⟩
  refine ⟨_, rfl, _, rfl, x, c_Font, dx, _, rfl, z05, Zo.k_Font, Zo.n_Font_gap, (by show 2 < 1000; decide), ?_⟩
  rw [z4G, R0l]
  refine q _ (fun b o nb e => (z06 nb).trans (o2 b o nb (s1 _ _ e))) ⟨dx, d, z05, ?_⟩
  obtain ⟨ps, a, b, c⟩ := PK
  have ot : ∀ {b' : Addr} {o : HO}, H1 b' = some o -> b' ≠ x -> (upd H2 x (.ins c_Font dx (z2n "gap" (.int gap) (z2n "high" (.int hg) [("pics", .ref d)])))) b' = some o := fun {b' o} e nb => (z06 nb).trans (o2 b' o nb e)
  have nx := s1 _ _ hx
  refine ⟨ps, a, ot b (z1H b nx fun z => nomatch z), fun i S p g1 g2 => ?_⟩
  obtain ⟨pp, pm, k1, k2, k3⟩ := c i S p g1 g2
  exact ⟨pp, pm, ot k1 (z1H k1 nx fun z => nomatch z), ot k2 (z1H k2 nx fun z => nomatch z), ot k3 (z1H k3 nx fun z => nomatch z)⟩
theorem sc_Fontpicsof : FnScope ["self", "text", "at", "sign"] ["self", "text"] (z04 z0a) := ⟨rfl, rfl, rfl, by decide +kernel, rfl, by decide +kernel, by decide +kernel⟩
theorem z3X {f : Addr} {fd : FuncData}
    {c_Font : Addr} (Zo : Co K mg c_Font)
    {c_GlowError c_NoFont c_NoSign c_TooWide : Addr} (Z : Cl K mg c_GlowError c_NoFont c_NoSign c_TooWide)
    (E_NoSign : Oe P w K mg base "NoSign" c_NoSign ["self", "sign", "at"] 1 (zB3 c_NoSign "sign" "at")) (D : Fun K "pics_of" "Font.pics_of" z0a f fd) (B : Blt mg) :
    FnOk P w K mg base (CX2 P w) 3 f fd ["self", "text"] (z2R c_Font c_NoSign) := by
  refine D.ok2 sc_Fontpicsof (fun vs H Q E h => ?_) (fun cdv A outer s H vs Q E hr h => ?_)
  . obtain ⟨x, z, Ss, hg, gap, rfl, _⟩ := h
    rfl
  obtain ⟨x, z, Ss, hg, gap, rfl, FAt, FO, hz, hI, q1, q2⟩ := h
  refine ⟨_, (z02 (z1I PassesOwn.leaving rfl (z8N rfl B.f_enumerate (z00 (pv 1) z01)) (z68 (n := 2) rfl (z1h (z0N (i := 2) sc_Fontpicsof.nd rfl (Or.inl rfl)) (z1h (z0N (i := 3) sc_Fontpicsof.nd rfl (Or.inl rfl)) z4H))) (z07 (z0W (z8Y (z3i (z6X hr) (pv 3) (z6J (pv 0) rfl))) (z07 (z3t z1q rfl E_NoSign hr rfl (z00 (pv 3) (z00 (pv 2) z01)))) z0G)))
    (z07 (z0H (z1R (locs := ["sign"]) (ix := [0]) rfl (BlkSc.look (dsc := z04 z0a) (N := ["self", "text", "at", "sign"]) rfl rfl (by decide +kernel)) (zAh (pv 1)) (fun _ _ _ _ _ _ => (z0N (i := 0) (by decide +kernel : (["sign", "self"] : List Str).Nodup) rfl (Or.inl rfl))) (fun _ _ _ _ _ _ => z1Q) (fun _ _ _ _ _ _ => (z56 (z6X hr) (z9j (pv 1) rfl) (pv 0) (fun _ _ => rfl))))))), ?_⟩
  obtain ⟨dx, d, fx, ps, hpl, hd, hps⟩ := id FAt
  have hd : H d = some (.dK (kvF Ss ps)) := hd
  have hzs : z.cps.size = z.cps.toList.length := by simp
  have hzl : z.cps.size <= 1000 := hz
  have lp : ([("pics", V.ref d), ("high", V.int hg), ("gap", V.int gap)] : List (Str × V)).lookup ("pics" : Str) = some (V.ref d) := rfl
  have raise0 : ∀ H2, Same H H2 -> ∀ (c i : Nat), c ∈ sgnL -> i <= 1000 -> firstBad Ss z.cps.toList 0 = some (c, i) -> ∀ y, H2 y = none -> zB3 c_NoSign "sign" "at" [.ref y, .str (one c), .int (i : Nat)] (upd H2 y (.ext (ErrO y c_NoSign none))) (fun v H3 => v = .non /\ ∃ d, H3 y = some (.ext (ErrO y c_NoSign d)) /\ E (.ref c_NoSign) d (del H3 y)) E0 := fun H2 s2 c i hc hi hb y ny =>
    ⟨y, one c, .int (i : Nat), rfl, z05, z9k c hc, (by
      show (i : Int).natAbs.log2 < 1920
      rw [Int.natAbs_natCast]
      have := Nat.log2_le_self i
      omega), fun d nd hd => by
      obtain ⟨g1, g2, g3⟩ := z33 (fs := [("at", .int (i : Nat)), ("sign", .str (one c))]) ny nd hd
      exact ⟨rfl, some d, g1, q2 c i d _ hb (s2.trans g2) g3⟩⟩
  refine ⟨_, rfl, z, rfl, ?_⟩
  refine z7E (z := z) (fun i σ H2 => ∃ v w, σ = [some (.ref x), some (.str z), v, w] /\ Same H H2 /\ ∀ c ∈ z.cps.toList.take i, known Ss c = true) ⟨none, none, rfl, Same.refl _, fun c hc => nomatch hc⟩ ?_ ?_
  . rintro i c σ H2 T hc ⟨v, w, rfl, s2, hk⟩ nT
    have hc' : z.cps.toList[i]? = some c := by rw [Array.getElem?_toList]; exact hc
    have hil : i < z.cps.size := (Array.getElem?_eq_some_iff.mp hc).1
    have s3 := s2.trans (Same.new (o := .tup [.int i, .str ⟨#[c]⟩]) nT)
    refine ⟨T, _, rfl, SqT.of z05, rfl, _, _, rfl, _, _, rfl, rfl, ?_⟩
    refine ⟨_, rfl, _, rfl, x, c_Font, dx, _, _, rfl, s3 _ _ fx, Zo.k_Font, Zo.n_Font_pics, lp, d, _, rfl, DGet.k (k := Sum.inr (one c)) (s3 _ _ hd), ?_⟩
    rw [z3S c hpl]
    cases ek : known Ss c with
    | false =>
      refine ⟨_, rfl, z2b ?_⟩
      have hb := z1r (i := 0) hk hc' ek
      rw [Nat.zero_add] at hb
      exact ⟨_, rfl, _, rfl, (by show 2 <= 1000; decide), raise0 _ s3 c i (hI c (List.mem_of_getElem? hc')) (by omega) hb⟩
    | true =>
      refine ⟨_, rfl, z5T ⟨_, _, rfl, s3, fun d' hd' => ?_⟩⟩
      rw [List.take_succ, hc'] at hd'
      rcases List.mem_append.mp hd' with y | y
      . exact hk d' y
      . rw [show d' = c by simpa using y]
        exact ek
  . rintro σ H2 ⟨v, w, rfl, s2, hk⟩
    rw [hzs, List.take_length] at hk
    have hb : firstBad Ss z.cps.toList 0 = none := z0p hk
    have fx2 := s2 _ _ fx
    have hd2 := s2 _ _ hd
    refine ⟨_, rfl, z, rfl, ?_⟩
    refine z1S (n := z.cps.size) (fun i σ zs H3 => ∃ v, σ = [v, some (.ref x)] /\ H3 = H2 /\ ∃ qs : List Addr, qs.length = i /\ zs = qs.map V.ref /\ ∀ (j : Nat) p c, qs[j]? = some p -> z.cps.toList[j]? = some c -> ∃ S ∈ Ss, S.c = c /\ PicAt H p S.w S.rows) ⟨none, rfl, rfl, [], rfl, rfl, fun j p c e => by simp at e⟩ (Nat.le_of_lt (z0D hzl)) ?_ ?_ ?_ ?_ ?_
    . rintro i σ zs H3 ⟨_, _, _, qs, e, rfl, _⟩
      rw [List.length_map, e]
    . intro σ zs H3 _
      exact Nat.le_refl _
    . intro i σ zs H3 hi _
      exact hi
    . rintro i σ zs H3 y H' Z hi ⟨v, rfl, rfl, qs, hq, rfl, hqs⟩ ⟨rfl, c, hc, rfl⟩ hZ
      have hc' : z.cps.toList[i]? = some c := by rw [Array.getElem?_toList]; exact hc
      obtain ⟨j, S, p, e1, e2, e3, e4⟩ := z3T hpl (hk c (List.mem_of_getElem? hc'))
      refine ⟨_, rfl, x, c_Font, dx, _, _, rfl, fx2, Zo.k_Font, Zo.n_Font_pics, lp, _, rfl, d, .ref p, rfl, ?_, ?_⟩
      . have g := DGet.k (k := Sum.inr (one c)) hd2
        rw [e4] at g
        exact g
      . refine hZ _ _ _ ⟨_, rfl, rfl, qs ++ [p], by rw [List.length_append, hq]; rfl, by rw [List.map_append]; rfl, fun m p' c' g1 g2 => ?_⟩
        by_cases hm : m < qs.length
        . rw [List.getElem?_append_left hm] at g1
          exact hqs m p' c' g1 g2
        . rw [List.getElem?_append_right (by omega)] at g1
          cases hk' : m - qs.length with
          | zero =>
            rw [hk'] at g1
            cases g1
            have em : m = i := by omega
            rw [em, hc'] at g2
            cases g2
            exact ⟨S, List.mem_of_getElem? e1, e3, hps j S p e1 e2⟩
          | succ n =>
            rw [hk'] at g1
            cases g1
    . rintro σ zs H3 ⟨v, rfl, rfl, qs, hq, rfl, hqs⟩ l nl
      refine q1 hb l _ (s2.trans (Same.new nl)) (s2.free nl) ⟨qs, by rw [hq, hzs], z05, fun j p c e1 e2 => ?_⟩
      obtain ⟨S, a, b, e⟩ := hqs j p c e1 e2
      exact ⟨S, a, b, e.mono (s2.trans (Same.new nl))⟩
theorem sc_Fontwidth : FnScope ["self", "text", "pics"] ["self", "text"] (z04 z0l) := ⟨rfl, rfl, rfl, by decide +kernel, rfl, by decide +kernel, by decide +kernel⟩
theorem z4B {f : Addr} {fd : FuncData}
    {c_Font : Addr} (Zo : Co K mg c_Font)
    {c_GlowError c_NoFont c_NoSign c_TooWide : Addr} (Z : Cl K mg c_GlowError c_NoFont c_NoSign c_TooWide)
    (O_Fontpicsof : Om P w K mg base (CX2 P w) c_Font "pics_of" ["self", "text"] [] 3 (z2R c_Font c_NoSign)) (D : Fun K "width" "Font.width" z0l f fd) (B : Blt mg) :
    FnOk P w K mg base (CX2 P w) 4 f fd ["self", "text"] (z4X c_Font c_NoSign) := by
  refine D.ok2 sc_Fontwidth (fun vs H Q E h => ?_) (fun cdv A outer s H vs Q E hr h => ?_)
  . obtain ⟨x, z, Ss, hg, gap, rfl, _⟩ := h
    rfl
  obtain ⟨x, z, Ss, hg, gap, rfl, FAt, FO, g0, g1, hz, hI, q1, q2⟩ := h
  refine ⟨_, (z02 (z0B (i := 2) sc_Fontwidth.nd rfl (Or.inl rfl) (z8L O_Fontpicsof hr z77 (pv 0) (z00 (pv 1) z01)))
    (z02 (z0W (z0J z1b (z09 z0A rfl B.f_len boot_len (z00 (pv 2) z01)) z03 (z0K _)) (z07 (z0H z03)) z0G)
    (z07 (z0H (z0I z0T (z09 (z6d rfl) rfl B.f_sum boot_sum (z00 (z1R (locs := ["pic"]) (ix := []) rfl (BlkSc.look (dsc := z04 z0l) (N := ["self", "text", "pics"]) rfl rfl (by decide +kernel)) (z24 (pv 2)) (fun _ _ _ _ _ _ => (z0N (i := 0) (by decide +kernel : (["pic"] : List Str).Nodup) rfl (Or.inl rfl))) (fun _ _ _ _ _ _ => z1Q) (fun _ _ _ _ _ _ => (z0V z2d (pv 0) z03 (fun _ _ => rfl)))) z01)) (z0I z1a (z6J (pv 0) rfl) (z0I z4n (z09 z0A rfl B.f_len boot_len (z00 (pv 2) z01)) z03))))))), ?_⟩
  obtain ⟨dx, d, fx, hPs⟩ := id FAt
  obtain ⟨_, fs', fx', l1, l2, l3, l4⟩ := FAt.ins
  rw [fx] at fx'
  cases fx'
  refine ⟨_, rfl, x, dx, _, rfl, fx, l4, _, rfl, x, z, Ss, hg, gap, rfl, FAt, FO, hz, hI, fun hb l H1 s1 nl PO => ?_, q2⟩
  obtain ⟨qs, hql, gl, hqs⟩ := PO
  walk_at "rs"
  refine ⟨l, _, rfl, .inl (SqL.of gl), ?_⟩
  rw [List.length_map, hql]
  walk_at "rs"
  have ezl : z.length = z.cps.toList.length := (Array.length_toList).symm
  have hzl : z.cps.toList.length <= 1000 := by rw [<- ezl]; exact hz
  have wok : ∀ {i : Nat} {p : Addr} {c : Nat}, qs[i]? = some p -> z.cps.toList[i]? = some c -> wOf Ss c <= 64 /\ ∃ pp pm n, H1 p = some (.tup [.int (wOf Ss c : Nat), .int (n : Nat), .ref pp, .ref pm]) := fun {i p c} e1 e2 => by
    obtain ⟨S, hS, ec, pp, pm, g, _, _⟩ := hqs i p c e1 e2
    rw [<- ec, z7G FO hS]
    exact ⟨(FO.rect S hS).w2, pp, pm, _, g⟩
  refine z26 (fun e0 => ?_) (fun e0 => ?_)
  . have e0 : z.cps.toList.length = 0 := by
      injection e0 with e0
      omega
    have := q1 hb H1 s1
    rw [ezl, e0, z3q] at this
    exact this
  walk_at "rs"
  refine ⟨⟨_, SqL.of gl⟩, ?_⟩
  refine z1S (n := z.cps.toList.length) (fun i σ zs H3 => ∃ v, σ = [v] /\ zs = ((z.cps.toList.take i).map fun c => ((wOf Ss c : Nat) : Int)).map V.int /\ H3 = H1 /\ i <= z.cps.toList.length) ⟨none, rfl, rfl, rfl, Nat.zero_le _⟩ (Nat.le_of_lt (z0D hzl)) ?_ ?_ ?_ ?_ ?_
  . rintro i σ zs H3 ⟨v, _, rfl, _, hi⟩
    rw [List.length_map, List.length_map, List.length_take]
    omega
  . rintro σ zs H3 ⟨v, _, _, rfl, _⟩
    exact ⟨_, SqL.of gl, by rw [List.length_map, hql]; exact Nat.le_refl _⟩
  . rintro i σ zs H3 hi ⟨v, _, _, rfl, _⟩
    exact ⟨_, .ref (qs[i]'(by omega)), SqL.of gl, by rw [List.getElem?_map, List.getElem?_eq_getElem (by omega)]; rfl⟩
  . rintro i σ zs H3 y H' Z hi ⟨v, rfl, rfl, rfl, _⟩ ⟨rfl, hx⟩ hZ
    have e := hx _ (SqL.of gl)
    rw [List.getElem?_map, List.getElem?_eq_getElem (by omega)] at e
    cases e
    obtain ⟨_, pp, pm, n, g⟩ := wok (List.getElem?_eq_getElem (show i < qs.length by omega)) (List.getElem?_eq_getElem hi)
    refine ⟨_, rfl, _, _, 0, _, rfl, rfl, SqT.of g, rfl, ?_⟩
    refine hZ _ _ _ ⟨_, rfl, ?_, rfl, hi⟩
    rw [List.take_succ, List.getElem?_eq_getElem hi, List.map_append, List.map_append]
    rfl
  rintro σ zs H3 ⟨v, rfl, rfl, rfl, _⟩ ls nls
  rw [List.take_length]
  have s4 : Same H3 (upd H3 ls (.lst ((z.cps.toList.map fun c => ((wOf Ss c : Nat) : Int)).map V.int))) := Same.new nls
  refine ⟨ls, _, rfl, SqL.of z05, by rw [List.length_map]; omega, fun w hw => ?_, ?_⟩
  . obtain ⟨c, hc, rfl⟩ := List.mem_map.mp hw
    obtain ⟨i, hi, e⟩ := List.mem_iff_getElem.mp hc
    have := (wok (List.getElem?_eq_getElem (show i < qs.length by omega)) (List.getElem?_eq_getElem hi)).1
    rw [e] at this
    omega
  have lg : ([("pics", V.ref d), ("high", V.int hg), ("gap", V.int gap)] : List (Str × V)).lookup ("gap" : Str) = some (V.int gap) := rfl
  walk_at "rs"
  refine ⟨x, c_Font, dx, _, _, rfl, s4 _ _ (s1 _ _ fx), Zo.k_Font, Zo.n_Font_gap, lg, ?_⟩
  walk_at "rs"
  refine ⟨l, _, rfl, .inl (SqL.of (s4 _ _ gl)), ?_⟩
  rw [List.length_map, hql]
  walk_at "rs"
  have := q1 hb _ (s1.trans s4)
  have e : z4P Ss gap z.cps.toList z.length = (z.cps.toList.map fun c => ((wOf Ss c : Nat) : Int)).sum + gap * ((z.cps.toList.length : Int) - 1) := by
    unfold z4P
    rw [ezl, List.take_length, z3x]
    have e0' : z.cps.toList.length ≠ 0 := fun e => e0 (by rw [e]; rfl)
    congr 2
    omega
  rw [e] at this
  exact this
theorem z60 : FnScope ["text"] ["text"] (z04 z1D) := ⟨rfl, rfl, rfl, by decide +kernel, rfl, by decide +kernel, by decide +kernel⟩
theorem z61 {f : Addr} {fd : FuncData} (D : Df K mg "words_of" z1D ["text"] f fd) (B : Blt mg) :
    Ow P w K mg base "words_of" ["text"] 1 z41 := by
  refine D.ow (D.F.ok z60 (fun vs H Q E h => ?_) (fun cdv A outer s H vs Q E hr h => ?_))
  . obtain ⟨ws, rfl, _⟩ := h
    rfl
  obtain ⟨ws, rfl, WS, q⟩ := h
  refine ⟨_, (z07 (z0H (z7i (z0J z1b (pv 0) z0f (z0K _)) (z2D z01) (z2Y PySem.F.plainAttrs_str PySem.F.slot_str_split PySem.F.type_str_split z5A (pv 0) (z00 z0f z01))))), ?_⟩
  have ne : JB ws = Str.ofString "" -> ws = [] := fun e => by
    by_cases c : ws = []
    . exact c
    . have := z7P c fun w hw => (WS.len w hw).1
      rw [e] at this
      exact absurd this (by decide)
  walk_at "rs"
  refine z26 (fun c => ?_) (fun c => ?_)
  . have e := ne (V.str.inj c)
    walk_at "rs"
    intro l nl
    refine q l _ (Same.new nl) nl ?_
    rw [z05, e]
    rfl
  . have ew : ws ≠ [] := fun e => c (by rw [e]; rfl)
    have ht := WS.text
    walk_at "rs"
    refine ⟨Nat.le_trans (Nat.add_le_add_right ht 2) (by decide), fun l nl => ?_⟩
    refine q l _ (Same.new nl) nl ?_
    rw [z05]
    have e := z5B ew WS.free
    rw [show Str.ofString " " = blankS by decide, e]
theorem sc_broken : FnScope ["font", "text", "wide", "words", "number", "word", "rows"] ["font", "text", "wide"] (z04 z1U) := ⟨rfl, rfl, rfl, by decide +kernel, rfl, by decide +kernel, by decide +kernel⟩
theorem z7d {f : Addr} {fd : FuncData} (D : Df K mg "broken" z1U ["font", "text", "wide"] f fd)
    {c_Font : Addr} (Zo : Co K mg c_Font)
    {c_GlowError c_NoFont c_NoSign c_TooWide : Addr} (Z : Cl K mg c_GlowError c_NoFont c_NoSign c_TooWide)
    (O_wordsof : Ow P w K mg base "words_of" ["text"] 1 z41)
    (O_Fontpicsof : Om P w K mg base (CX2 P w) c_Font "pics_of" ["self", "text"] [] 3 (z2R c_Font c_NoSign))
    (O_Fontwidth : Om P w K mg base (CX2 P w) c_Font "width" ["self", "text"] [] 4 (z4X c_Font c_NoSign))
    (E_TooWide : Oe P w K mg base "TooWide" c_TooWide ["self", "word"] 1 (zB2 c_TooWide "word")) (B : Blt mg) :
    Ow2 P w K mg base "broken" ["font", "text", "wide"] 5 (z3W c_Font c_NoSign c_TooWide) := by
  refine D.ow2 (D.F.ok2 sc_broken (fun vs H Q E h => ?_) (fun cdv A outer s H vs Q E hr h => ?_))
  . obtain ⟨x, ws, Ss, hg, gap, wide, rfl, _⟩ := h
    rfl
  obtain ⟨x, ws, Ss, hg, gap, wide, rfl, FAt, FO, g0, g1, WS, q1, q2, q3⟩ := h
  refine ⟨_, (z02 (z1L (z8L O_Fontpicsof hr z77 (pv 0) (z00 (pv 1) z01)))
    (z02 (z0B (i := 3) sc_broken.nd rfl (Or.inl rfl) (z0E O_wordsof hr rfl (z00 (pv 1) z01)))
    (z02 (z1I PassesOwn.leaving rfl (z9J rfl B.f_enumerate (z00 (pv 3) z01)) (z68 (n := 2) rfl (z1h (z0N (i := 4) sc_broken.nd rfl (Or.inl rfl)) (z1h (z0N (i := 5) sc_broken.nd rfl (Or.inl rfl)) z4H))) (z07 (z0W (z0J z3Z (z8L O_Fontwidth hr z77 (pv 0) (z00 (pv 5) z01)) (pv 2) (z0K _)) (z07 (z3t z1q rfl E_TooWide hr rfl (z00 (pv 4) z01))) z0G)))
    (z02 (z0B (i := 6) sc_broken.nd rfl (Or.inl rfl) (z2D z01))
    (z02 (z1I PassesOwn.leaving rfl (z24 (pv 3)) (z0N (i := 5) sc_broken.nd rfl (Or.inl rfl)) (z07 (z0W (PW.pt (z4l (z0J z3Z (z09 z0A rfl B.f_len boot_len (z00 (pv 6) z01)) z03 (z0K _)) (z3C (z0J z5L (z8L O_Fontwidth hr z77 (pv 0) (z00 (z0I z0X (z0I z0X (z0V ix_list (pv 6) (z7k z6B z03) (fun _ _ => rfl)) z0f) (pv 5)) z01)) (pv 2) (z0K _))))) (z07 (z8b (z0I z0X (z0I z0X (z0V ix_list (pv 6) (z7k z6B z03) (fun _ _ => rfl)) z0f) (pv 5)) (z8a (pv 6) (z7k z6B z03) set_list))) (z07 (z1L (z2Y PySem.F.plainAttrs_list PySem.F.slot_list_append PySem.F.type_list_append z1M (pv 6) (z00 (pv 5) z01)))))))
    (z07 (z0H (pv 6)))))))), ?_⟩
  obtain ⟨dx, fs', fx', l1, l2, l3, l4⟩ := FAt.ins
  have ht := WS.text
  have hI := WS.inSg
  have bl : Str.ofString " " = blankS := by decide
  refine ⟨_, rfl, x, dx, _, rfl, fx', l4, _, rfl, x, JB ws, Ss, hg, gap, rfl, FAt, FO, by omega, hI, fun hb pl H1 s1 npl PO => ?_, q2⟩
  have kn := z2k hb
  have FA1 := FAt.mono s1
  have raise0 : ∀ H2, Same H H2 -> ∀ (n : Nat) (h : n < ws.length), (∀ (j : Nat) w, j < n -> ws[j]? = some w -> z38 Ss gap w <= wide) -> wide < z38 Ss gap ws[n] -> ∀ y, H2 y = none -> zB2 c_TooWide "word" [.ref y, .int (n : Nat)] (upd H2 y (.ext (ErrO y c_TooWide none))) (fun v H3 => v = .non /\ ∃ d, H3 y = some (.ext (ErrO y c_TooWide d)) /\ E (.ref c_TooWide) d (del H3 y)) E0 := fun H2 s2 n h hj hw y ny =>
    ⟨y, .int (n : Nat), rfl, z05, (by
      show (n : Int).natAbs.log2 < 1920
      rw [Int.natAbs_natCast]
      have := Nat.log2_le_self n
      have := WS.many
      omega), fun d nd hd => by
      obtain ⟨e1, e2, e3⟩ := z33 (fs := [("word", .int (n : Nat))]) ny nd hd
      exact ⟨rfl, some d, e1, q3 n d _ hb h hj hw (s2.trans e2) e3⟩⟩
  walk_at "rs"
  refine ⟨WS, fun wl H2 s2 nwl gw => ?_⟩
  have s12 := s1.trans s2
  walk_at "rs"
  refine ⟨⟨_, SqL.of gw⟩, ?_⟩
  refine z80 (K := K) (a := wl) (xs := ws.map V.str) (fun i σ H3 => Same H2 H3 /\ (∃ v4 v5, σ = [some (.ref x), some (.str (JB ws)), some (.int wide), some (.ref wl), v4, v5, none]) /\ ∀ (j : Nat) w, j < i -> ws[j]? = some w -> z38 Ss gap w <= wide) ⟨Same.refl _, ⟨none, none, rfl⟩, fun j w h => absurd h (Nat.not_lt_zero _)⟩ (fun i σ H3 _ ⟨s3, _⟩ => SqL.of (s3 _ _ gw)) ?_ ?_
  . rintro i v σ H3 T hi ⟨s3, ⟨v4, v5, rfl⟩, hf⟩ nT
    have hil : i < ws.length := by
      have := (List.getElem?_eq_some_iff.mp hi).1
      rwa [List.length_map] at this
    rw [List.getElem?_map, List.getElem?_eq_getElem hil] at hi
    cases hi
    have s4 := Same.new (o := .tup [.int (i : Nat), .str ws[i]]) nT
    have gT : (upd H3 T (.tup [.int (i : Nat), .str ws[i]])) T = some (.tup [.int (i : Nat), .str ws[i]]) := z05
    generalize upd H3 T (.tup [.int (i : Nat), .str ws[i]]) = H4 at s4 gT
    have s34 := s3.trans s4
    have FA4 := FA1.mono (s2.trans s34)
    have hwm : ws[i] ∈ ws := List.getElem_mem hil
    have hw4 := WS.len _ hwm
    have nb : firstBad Ss (ws[i]).cps.toList 0 = none := z0p fun c hc => kn c (z2j hwm hc)
    refine ⟨T, _, rfl, SqT.of gT, rfl, _, _, rfl, _, _, rfl, rfl, ?_⟩
    obtain ⟨dx4, fs4, fx4, m1, _⟩ := FA4.ins
    refine ⟨_, rfl, x, dx4, _, rfl, fx4, m1, _, rfl, x, ws[i], Ss, hg, gap, rfl, FA4, FO, g0, g1, by omega, WS.sg _ hwm, fun _ H5 s5 => ?_, fun c k d H5 hb' => ?_⟩
    . walk_at "rs"
      refine z26 (fun c => ?_) (fun c => ?_)
      . exact ⟨_, rfl, (by show 1 <= 1000; decide), raise0 H5 ((s12.trans s34).trans s5) i hil hf c⟩
      . refine ⟨s34.trans s5, ⟨_, _, rfl⟩, fun j w hj ew => ?_⟩
        by_cases e : j < i
        . exact hf j w e ew
        . have ej : j = i := by omega
          rw [ej, List.getElem?_eq_getElem hil] at ew
          cases ew
          have c' : ¬ wide < z4P Ss gap (ws[i]).cps.toList (ws[i]).length := c
          show z4P Ss gap (ws[i]).cps.toList (ws[i]).length <= wide
          omega
    . rw [nb] at hb'
      cases hb'
  . rintro σ H3 ⟨s3, ⟨v4, v5, rfl⟩, hf⟩
    rw [List.length_map] at hf
    have fit : ∀ w ∈ ws, z38 Ss gap w <= wide := fun w hw => by
      obtain ⟨j, hj, e⟩ := List.mem_iff_getElem.mp hw
      exact hf j w hj (by rw [List.getElem?_eq_getElem hj, e])
    walk_at "rs"
    intro rl nrl
    have s4 := Same.new (o := .lst []) nrl
    have gr4 : (upd H3 rl (.lst [])) rl = some (.lst []) := z05
    generalize upd H3 rl (.lst []) = H4 at s4 gr4
    have s34 := s3.trans s4
    have nrl2 : H2 rl = none := s3.free nrl
    have nrl0 : H rl = none := s12.free nrl2
    have nwr : wl ≠ rl := z08 gw nrl2
    walk_at "rs"
    refine ⟨⟨_, SqL.of (s34 _ _ gw)⟩, ?_⟩
    refine z4m (K := K) (a := wl) (xs := ws.map V.str) (fun i σ H5 => ∃ v4 v5 gs, σ = [some (.ref x), some (.str (JB ws)), some (.int wide), some (.ref wl), v4, v5, some (.ref rl)] /\ Same H2 H5 /\ H5 rl = some (.lst (gs.map fun g => V.str (JB g))) /\ Grps (z38 Ss gap) wide (ws.take i) gs) ⟨_, _, [], rfl, s34, gr4, Grps.nil⟩ (fun i σ H5 _ ⟨_, _, _, _, s5, _⟩ => SqL.of (s5 _ _ gw)) ?_ ?_
    . rintro i v σ H5 hi ⟨v4, v5, gs, rfl, s5, gr5, GS⟩
      have hil : i < ws.length := by
        have := (List.getElem?_eq_some_iff.mp hi).1
        rwa [List.length_map] at this
      rw [List.getElem?_map, List.getElem?_eq_getElem hil] at hi
      cases hi
      have FA5 := FA1.mono (s2.trans s5)
      have tk : ws.take (i + 1) = ws.take i ++ [ws[i]] := by rw [List.take_succ, List.getElem?_eq_getElem hil]; rfl
      have hwm : ws[i] ∈ ws := List.getElem_mem hil
      have hw4 := WS.len _ hwm
      have fw := fit _ hwm
      have hgl : gs.length <= 60 := by
        have := GS.fl
        have h1 : gs.length <= gs.flatten.length := by
          clear this
          have hne := GS.ne
          clear GS gr5
          induction gs with
          | nil => exact Nat.le_refl _
          | cons g gs ih =>
            have := ih fun x hx => hne x (List.mem_cons_of_mem _ hx)
            have h1 : 1 <= g.length := List.length_pos_iff.mpr (hne g List.mem_cons_self)
            rw [List.flatten_cons, List.length_append, List.length_cons]
            omega
        rw [this, List.length_take] at h1
        have := WS.many
        omega
      generalize hwi : ws[i] = w at tk hwm hw4 fw
      walk_at "rs"
      refine ⟨rl, _, rfl, .inl (SqL.of gr5), ?_⟩
      rw [List.length_map]
      walk_at "rs"
      have pushed : (∀ g, gs.getLast? = some g -> wide < z38 Ss gap (JB g ++ blankS ++ w)) -> Grps (z38 Ss gap) wide (ws.take (i + 1)) (gs ++ [[w]]) := fun h => by
        rw [tk]
        exact GS.more fw h
      refine z26 (fun c => ?_) (fun c => ?_)
      . rcases List.eq_nil_or_concat gs with e0 | ⟨ini, g, e0⟩
        . subst e0
          exact absurd c (by decide)
        rw [List.concat_eq_append] at e0
        subst e0
        have lst : atI ((ini ++ [g]).map fun g => V.str (JB g)) (-1) = some (.str (JB g)) := by
          rw [List.map_append]
          exact z7r _ _
        have gm : ∀ y ∈ g, y ∈ ws := fun y hy => List.mem_of_mem_take (by rw [<- GS.fl]; exact List.mem_flatten.mpr ⟨g, List.mem_append_right _ (List.mem_singleton.mpr rfl), hy⟩)
        have gl : g.length <= i := by
          have h1 := congrArg List.length GS.fl
          rw [List.flatten_append, List.flatten_singleton, List.length_append, List.length_take] at h1
          omega
        have gne : g ≠ [] := GS.ne g (List.mem_append_right _ (List.mem_singleton.mpr rfl))
        have Wg : Words g := ⟨by have := WS.many; omega, fun y hy => WS.len y (gm y hy), fun y hy => WS.free y (gm y hy), fun y hy => WS.sg y (gm y hy)⟩
        have hgt := Wg.text
        have ez : JB g ++ Str.ofString " " ++ w = JB (g ++ [w]) := by rw [bl, z4a gne]
        have tz : TextOf Ss (JB (g ++ [w])) := z2l kn (fun y hy => by
          rcases List.mem_append.mp hy with e | e
          . exact gm y e
          . rw [List.mem_singleton.mp e]
            exact hwm) (by rw [List.length_append]; show g.length + 1 <= ws.length; omega)
        have bl1 : (Str.ofString " ").length = 1 := by decide
        have lz : (JB g ++ Str.ofString " ").length = (JB g).length + 1 := by rw [z0Q, bl1]
        have lz2 : (JB g ++ Str.ofString " " ++ w).length <= 1000 := by rw [z0Q, lz]; omega
        obtain ⟨dx5, fs5, fx5, m1, _⟩ := FA5.ins
        walk_at "rs"
        refine ⟨x, dx5, _, rfl, fx5, m1, ?_⟩
        walk_at "rs"
        refine ⟨rl, _, -1, _, rfl, rfl, SqL.of gr5, lst, ?_⟩
        have sl : ∀ n : Nat, n <= 5000 -> n <= sizeLine := fun n h => Nat.le_trans h (by decide)
        walk_at "rs"
        refine ⟨sl _ (by rw [bl1]; omega), ?_⟩
        walk_at "rs"
        refine ⟨sl _ (by rw [lz]; omega), ?_⟩
        refine ⟨x, _, Ss, hg, gap, rfl, FA5, FO, g0, g1, lz2, by rw [ez]; exact tz.inSg FO, fun _ H6 s6 => ?_, fun c k d H6 hb' => ?_⟩
        . have gr6 := s6 _ _ gr5
          have s56 := s5.trans s6
          walk_at "rs"
          refine z26 (fun c2 => ?_) (fun c2 => ?_)
          . walk_at "rs"
            refine ⟨rl, _, -1, _, rfl, rfl, SqL.of gr6, lst, ?_⟩
            walk_at "rs"
            refine ⟨sl _ (by rw [bl1]; omega), ?_⟩
            walk_at "rs"
            refine ⟨sl _ (by rw [lz]; omega), ?_⟩
            walk_at "rs"
            refine ⟨rl, _, -1, ini.length, rfl, rfl, gr6, ?_, ?_⟩
            . unfold ixN
              rw [List.length_map, List.length_append, if_neg (by decide), if_pos (by show -(((ini.length + 1 : Nat)) : Int) <= -1; omega)]
              congr 1
              show (-1 + ((ini.length + 1 : Nat) : Int)).toNat = ini.length
              omega
            refine ⟨_, _, ini ++ [g ++ [w]], rfl, s56.put nrl2, ?_, ?_⟩
            . rw [z05, ez, List.map_append, List.map_append, List.set_append_right _ _ (by rw [List.length_map]; exact Nat.le_refl _), List.length_map, Nat.sub_self]
              rfl
            . rw [tk]
              refine GS.grow ?_
              have c2' : z38 Ss gap (JB g ++ Str.ofString " " ++ w) <= wide := c2
              rw [bl] at c2'
              exact c2'
          . walk_at "rs"
            refine ⟨.inl ⟨rfl, _, SqL.of gr6⟩, ?_⟩
            walk_at "rs"
            refine ⟨rl, _, _, rfl, rfl, gr6, by rw [List.length_map]; exact z0D (by omega), ?_⟩
            refine ⟨_, _, ini ++ [g] ++ [[w]], rfl, s56.put nrl2, by rw [z05]; exact congrArg (fun xs => some (HO.lst xs)) (List.map_append (f := fun g => V.str (JB g)) (l₁ := ini ++ [g]) (l₂ := [[w]])).symm, pushed fun g' e => ?_⟩
            rw [List.getLast?_concat] at e
            cases e
            have c2' : ¬ z38 Ss gap (JB g ++ Str.ofString " " ++ w) <= wide := c2
            rw [bl] at c2'
            omega
        . rw [ez, z0p tz] at hb'
          cases hb'
      . have e0 : gs = [] := List.length_eq_zero_iff.mp (by omega)
        subst e0
        walk_at "rs"
        refine ⟨.inl ⟨rfl, _, SqL.of gr5⟩, ?_⟩
        walk_at "rs"
        refine ⟨rl, _, _, rfl, rfl, gr5, by decide, ?_⟩
        exact ⟨_, _, [[w]], rfl, s5.put nrl2, by rw [z05]; rfl, pushed fun g e => nomatch e⟩
    . rintro σ H5 ⟨v4, v5, gs, rfl, s5, gr5, GS⟩
      walk_at "rs"
      rw [List.length_map, List.take_length] at GS
      exact q1 hb fit rl gs H5 (s12.trans s5) nrl0 GS gr5
theorem sc_lawsigns : FnScope ["_law_script", "_law_k", "_law_many", "_law_high", "_law_start", "_law_signs_here", "_law_n", "_law_wide", "_law_sign_here"] ["_law_script", "_law_k", "_law_many", "_law_high"] (z04 z0v) := ⟨rfl, rfl, rfl, by decide +kernel, rfl, by decide +kernel, by decide +kernel⟩
theorem z4i {f : Addr} {fd : FuncData} (D : Df K mg "_law_signs" z0v ["_law_script", "_law_k", "_law_many", "_law_high"] f fd)
    (O_lawdraw : Ow P w K mg base "_law_draw" ["_law_script", "_law_k", "_law_prime", "_law_many"] 1 (z28 K))
    (O_lawrows : Ow P w K mg base "_law_rows" ["_law_script", "_law_k", "_law_wide", "_law_high"] 3 (z6l K))
    (O_lawsign : Ow P w K mg base "_law_sign" ["_law_number"] 1 z6s) (B : Blt mg) :
    Ow P w K mg base "_law_signs" ["_law_script", "_law_k", "_law_many", "_law_high"] 4 (z42 K) := by
  refine D.ow (D.F.ok sc_lawsigns (fun vs H Q E h => ?_) (fun cdv A outer s H vs Q E hr h => ?_))
  . obtain ⟨a, ns, k, m, h, rfl, _⟩ := h
    rfl
  obtain ⟨a, ns, k, m, hg, rfl, hS, k0, k1, m1, m2, h1, h2, q⟩ := h
  refine ⟨_, (z02 (z0B (i := 4) sc_lawsigns.nd rfl (Or.inl rfl) (z0E O_lawdraw hr rfl (z00 (pv 0) (z00 (pv 1) (z00 z03 (z00 z03 z01))))))
    (z02 (z0B (i := 5) sc_lawsigns.nd rfl (Or.inl rfl) (z2D z01))
    (z02 (z1I PassesOwn.never rfl (z0h rfl B.f_range (z00 (pv 2) z01)) (z0N (i := 6) sc_lawsigns.nd rfl (Or.inl rfl)) (z02 (z0B (i := 7) sc_lawsigns.nd rfl (Or.inl rfl) (z0I z0T z03 (z0E O_lawdraw hr rfl (z00 (pv 0) (z00 (z0I z0T (z0I z0T (pv 1) z03) (pv 6)) (z00 z03 (z00 z03 z01)))))))
    (z2e (z0W (z0J z1b (z0E O_lawdraw hr rfl (z00 (pv 0) (z00 (z0I z0T (z0I z0T (pv 1) z03) (pv 6)) (z00 z03 (z00 z03 z01))))) z03 (z0K _)) (z07 (z0B (i := 7) sc_lawsigns.nd rfl (Or.inl rfl) z03)) z0G)
    (z02 (z0B (i := 8) sc_lawsigns.nd rfl (Or.inl rfl) (z0E O_lawsign hr rfl (z00 (z0I z0T z03 (z0I z2u (z0I z0T (pv 4) (z0I z1a z03 (pv 6))) z03)) z01)))
    (z07 (z1L (z2Y PySem.F.plainAttrs_list PySem.F.slot_list_append PySem.F.type_list_append z1M (pv 5) (z00 (z2w (z00 (pv 8) (z00 (z0E O_lawrows hr rfl (z00 (pv 0) (z00 (z0I z0T (pv 1) (z0I z1a z03 (pv 6))) (z00 (pv 7) (z00 (pv 3) z01))))) z01))) z01))))))))
    (z07 (z0H (pv 5)))))), ?_⟩
  walk_at "rs"
  refine ⟨a, ns, k, 10039, 93, rfl, hS, k0, by omega, by decide, by decide, ?_⟩
  generalize z18 ns k 10039 93 = st at q
  refine ⟨szV (by simp), fun l nl => ?_⟩
  refine ⟨_, rfl, _, rfl, (z2x (by omega) (by omega)).1, (z2x (by omega) (by omega)).2, ?_⟩
  refine z0o (n := m.toNat) (fun i σ H2 => ∃ v6 v7 v8 ts Ss, σ = [some (.ref a), some (.int k), some (.int m), some (.int hg), some (.int st), some (.ref l), v6, v7, v8] /\ Same H H2 /\ H2 l = some (.lst (ts.map V.ref)) /\ ts.length = i /\ Ss.length = i /\ (∀ (j : Nat) t S, ts[j]? = some t -> Ss[j]? = some S -> SgAtX l hg.toNat H2 t S) /\ ∀ (j : Nat) S, Ss[j]? = some S -> S.c = z1o (1 + (st + 37 * j) % 93))
    ⟨none, none, none, [], [], rfl, Same.new nl, z05, rfl, rfl, (fun _ _ _ h => nomatch h), (fun _ _ h => nomatch h)⟩ ?_ ?_
  . rintro i σ H2 hi ⟨v6, v7, v8, ts, Ss, rfl, s2, hl, ht, hs, hat, hc⟩
    have hS2 := s2.seq hS
    walk_at "rs"
    refine ⟨a, ns, k + 1 + (0 + (i : Int)), _, _, rfl, hS2, by omega, by omega, by decide, by decide, ?_⟩
    obtain ⟨r0, r1⟩ := z0d (ns := ns) (k := k + 1 + (0 + (i : Int))) (p := 10061) (m := 5) (by decide)
    generalize z18 ns (k + 1 + (0 + (i : Int))) 10061 5 = r at r0 r1
    walk_at "rs"
    refine ⟨fun σ H3 => H3 = H2 /\ ∃ wd : Int, σ = [some (.ref a), some (.int k), some (.int m), some (.int hg), some (.int st), some (.ref l), some (.int (0 + (i : Int))), some (.int wd), v8] /\ 1 <= wd /\ wd <= 64, ?_, ?_⟩
    . walk_at "rs"
      refine ⟨a, ns, k + 1 + (0 + (i : Int)), _, _, rfl, hS2, by omega, by omega, by decide, by decide, ?_⟩
      walk_at "rs"
      refine z26 (fun _ => ?_) (fun _ => ?_)
      . exact ⟨rfl, 64, rfl, by decide, by decide⟩
      . exact ⟨rfl, _, rfl, by omega, by omega⟩
    . rintro σ H3 ⟨rfl, wd, rfl, w1, w2⟩
      walk_at "rs"
      refine ⟨.inl ⟨rfl, _, SqL.of hl⟩, ?_⟩
      walk_at "rs"
      refine ⟨a, ns, k + 70 * (0 + (i : Int)), wd, hg, rfl, hS2, by omega, by omega, w1, w2, h1, h2, fun rl ps rows H4 s4 nrl nps RA R => ?_⟩
      refine ⟨szV (by simp), fun t nt => ?_⟩
      have s5 : Same H4 (upd H4 t (.tup [.str (sgn (1 + (st + 37 * (0 + (i : Int))) % 93)), .ref rl])) := Same.new nt
      have hl5 := s5 _ _ (s4 _ _ hl)
      refine ⟨l, _, _, rfl, rfl, hl5, z0D (by rw [List.length_map]; omega), ?_⟩
      have e0 : (0 : Int) + (i : Int) = (i : Nat) := by omega
      refine ⟨_, _, _, ts ++ [t], Ss ++ [⟨z1o (1 + (st + 37 * i) % 93), wd.toNat, rows⟩], rfl, ((s2.trans s4).trans s5).put nl, by rw [z05, List.map_append]; rfl, by rw [List.length_append, ht]; rfl, by rw [List.length_append, hs]; rfl, ?_, z88 (f := fun j => z1o (1 + (st + 37 * j) % 93)) hc (by rw [hs])⟩
      refine z6t (by omega) (fun t S h => ((h.mono s4).mono s5).put hl5) hat ?_
      refine SgAtX.put hl5 ⟨rl, ps, ?_, RA.mono s5, R, Ne.symm (z08 hl nrl), fun p hp => Ne.symm (z08 hl (nps p hp))⟩
      rw [z05, e0]
      rfl
  . rintro σ H2 ⟨v6, v7, v8, ts, Ss, rfl, s2, hl, ht, hs, hat, hc⟩
    exact ⟨_, rfl, q l ts Ss H2 s2 nl ⟨hl, by omega, fun j t S x y => (hat j t S x y).at⟩ hs hc⟩
theorem sc_lawwords : FnScope ["_law_script", "_law_signs_here", "_law_many", "_law_most", "_law_words_here", "_law_n", "_law_size", "_law_word", "_law_k"] ["_law_script", "_law_signs_here"] (z04 z0w) := ⟨rfl, rfl, rfl, by decide +kernel, rfl, by decide +kernel, by decide +kernel⟩
theorem z4j {f : Addr} {fd : FuncData} (D : Df K mg "_law_words" z0w ["_law_script", "_law_signs_here"] f fd)
    (O_lawdraw : Ow P w K mg base "_law_draw" ["_law_script", "_law_k", "_law_prime", "_law_many"] 1 (z28 K)) (B : Blt mg) :
    Ow P w K mg base "_law_words" ["_law_script", "_law_signs_here"] 2 (z43 K) := by
  refine D.ow (D.F.ok sc_lawwords (fun vs H Q E h => ?_) (fun cdv A outer s H vs Q E hr h => ?_))
  . obtain ⟨a, l, ns, ts, Ss, hg, rfl, _⟩ := h
    rfl
  obtain ⟨a, l, ns, ts, Ss, hg, rfl, hS, SA, n1, n2, hc, q⟩ := h
  refine ⟨_, (z02 (z0B (i := 2) sc_lawwords.nd rfl (Or.inl rfl) (z0E O_lawdraw hr rfl (z00 (pv 0) (z00 z03 (z00 z03 (z00 z03 z01))))))
    (z02 (z0B (i := 3) sc_lawwords.nd rfl (Or.inl rfl) z03)
    (z2e (z0W (z0J z1b (z0E O_lawdraw hr rfl (z00 (pv 0) (z00 z03 (z00 z03 (z00 z03 z01))))) z03 (z0K _)) (z02 (z0B (i := 2) sc_lawwords.nd rfl (Or.inl rfl) (z0I z0T z03 (z0E O_lawdraw hr rfl (z00 (pv 0) (z00 z03 (z00 z03 (z00 z03 z01)))))))
    (z07 (z0B (i := 3) sc_lawwords.nd rfl (Or.inl rfl) z03))) z0G)
    (z02 (z0B (i := 4) sc_lawwords.nd rfl (Or.inl rfl) (z2D z01))
    (z02 (z1I PassesOwn.never rfl (z0h rfl B.f_range (z00 (pv 2) z01)) (z0N (i := 5) sc_lawwords.nd rfl (Or.inl rfl)) (z02 (z0B (i := 6) sc_lawwords.nd rfl (Or.inl rfl) (z0I z0T z03 (z0E O_lawdraw hr rfl (z00 (pv 0) (z00 (z0I z0T z03 (pv 5)) (z00 z03 (z00 (pv 3) z01)))))))
    (z02 (z0B (i := 7) sc_lawwords.nd rfl (Or.inl rfl) z0f)
    (z02 (z1I PassesOwn.never rfl (z0h rfl B.f_range (z00 (pv 6) z01)) (z0N (i := 8) sc_lawwords.nd rfl (Or.inl rfl)) (z07 (z0B (i := 7) sc_lawwords.nd rfl (Or.inl rfl) (z0I z0X (pv 7) (z0V ix_tup (z0V ix_list (pv 1) (z0E O_lawdraw hr rfl (z00 (pv 0) (z00 (z0I z0T (z0I z0T z03 (z0I z1a z03 (pv 5))) (pv 8)) (z00 z03 (z00 (z09 z0A rfl B.f_len boot_len (z00 (pv 1) z01)) z01))))) (fun _ _ => rfl)) z03 (fun _ _ => rfl))))))
    (z07 (z1L (z2Y PySem.F.plainAttrs_list PySem.F.slot_list_append PySem.F.type_list_append z1M (pv 4) (z00 (pv 7) z01))))))))
    (z07 (z0H (pv 4)))))))), ?_⟩
  have hlen := SA.len
  walk_at "rs"
  refine ⟨a, ns, 3, 10079, 13, rfl, hS, by decide, by decide, by decide, by decide, ?_⟩
  have m0 := z0d (ns := ns) (k := 3) (p := 10079) (m := 13) (by decide)
  generalize z18 ns 3 10079 13 = zm at m0
  walk_at "rs"
  refine ⟨fun σ' H' => H' = H /\ ∃ mn mo : Int, σ' = [some (.ref a), some (.ref l), some (.int mn), some (.int mo), none, none, none, none, none] /\ 0 <= mn /\ mn <= 60 /\ 1 <= mo /\ mo <= 4, ?_, ?_⟩
  . walk_at "rs"
    refine ⟨a, ns, 5, 10091, 8, rfl, hS, by decide, by decide, by decide, by decide, ?_⟩
    walk_at "rs"
    refine z26 (fun _ => ?_) (fun _ => ?_)
    . walk_at "rs"
      refine ⟨a, ns, 7, 10093, 21, rfl, hS, by decide, by decide, by decide, by decide, ?_⟩
      have m1 := z0d (ns := ns) (k := 7) (p := 10093) (m := 21) (by decide)
      walk_at "rs"
      exact ⟨_, _, rfl, by omega, by omega, by decide, by decide⟩
    . exact ⟨rfl, _, _, rfl, by omega, by omega, by decide, by decide⟩
  rintro σ1 H1 ⟨rfl, mn, mo, rfl, n0, n60, o0, o4⟩
  walk_at "rs"
  intro wl nwl
  have s1 := Same.new (o := .lst []) nwl
  have gw1 : (upd H1 wl (.lst [])) wl = some (.lst []) := z05
  generalize upd H1 wl (.lst []) = H2 at s1 gw1
  walk_at "rs"
  refine ⟨(z2x (by omega) (by omega)).1, (z2x (by omega) (by omega)).2, ?_⟩
  refine z0o (n := mn.toNat) (fun i σ H3 => ∃ (ws : List Str) (v5 v6 v7 v8 : Option V), σ = [some (.ref a), some (.ref l), some (.int mn), some (.int mo), some (.ref wl), v5, v6, v7, v8] /\ Same H1 H3 /\ H3 wl = some (.lst (ws.map V.str)) /\ ws.length = i /\ Words ws /\ ∀ w ∈ ws, TextOf Ss w) ⟨[], none, none, none, none, rfl, s1, gw1, rfl, ⟨by decide, (fun _ h => nomatch h), (fun _ h => nomatch h), (fun _ h => nomatch h)⟩, (fun _ h => nomatch h)⟩ ?_ ?_
  . rintro i σ H3 hi ⟨ws, v5, v6, v7, v8, rfl, s3, gw, hwl, WS, hT⟩
    walk_at "rs"
    refine ⟨a, ns, _, 10099, mo, rfl, s3.seq hS, by omega, by omega, by decide, by omega, ?_⟩
    have z0 := z0d (ns := ns) (k := 30 + (0 + (i : Int))) (p := 10099) (m := mo) (by omega)
    generalize z18 ns (30 + (0 + (i : Int))) 10099 mo = zs at z0
    walk_at "rs"
    refine ⟨(z2x (by omega) (by omega)).1, (z2x (by omega) (by omega)).2, ?_⟩
    refine z0o (n := (1 + zs).toNat) (fun j σ H4 => H4 = H3 /\ ∃ (w : Str) (v8 : Option V), σ = [some (.ref a), some (.ref l), some (.int mn), some (.int mo), some (.ref wl), some (.int (0 + (i : Int))), some (.int (1 + zs)), some (.str w), v8] /\ w.length = j /\ (∀ c ∈ w.cps.toList, known Ss c = true) /\ z5k w /\ z8P w) ⟨rfl, _, _, rfl, rfl, (fun c hc => nomatch hc), (fun hc => nomatch hc), (fun c hc => nomatch hc)⟩ ?_ ?_
    . rintro j σ H4 hj ⟨rfl, w, v8, rfl, hwl', hk, hF, hI⟩
      have SA3 := SA.mono s3
      walk_at "rs"
      refine ⟨l, _, rfl, .inl (SqL.of SA3.lst), ?_⟩
      refine ⟨a, ns, _, 10103, _, rfl, s3.seq hS, by omega, by omega, by decide, by rw [List.length_map]; omega, ?_⟩
      obtain ⟨r0, r1⟩ := z0d (ns := ns) (k := 100 + 5 * (0 + (i : Int)) + (0 + (j : Int))) (p := 10103) (m := ((ts.map V.ref).length : Int)) (by rw [List.length_map]; omega)
      generalize z18 ns (100 + 5 * (0 + (i : Int)) + (0 + (j : Int))) 10103 ((ts.map V.ref).length : Int) = r at r0 r1
      rw [List.length_map, hlen] at r1
      obtain ⟨rn, rfl⟩ : ∃ rn : Nat, r = (rn : Int) := ⟨r.toNat, by omega⟩
      obtain ⟨t, e1, ⟨rl, ps, t1, _, _⟩, e3⟩ := SA3.get (i := rn) (by omega)
      obtain ⟨c1, c2⟩ := hc _ (List.getElem_mem (show rn < Ss.length by omega))
      have kc : known Ss (Ss[rn]'(by omega)).c = true := z3p (List.getElem_mem _)
      refine ⟨l, _, _, _, rfl, rfl, SqL.of SA3.lst, e3, t, _, 0, _, rfl, rfl, SqT.of t1, rfl, ?_⟩
      generalize (Ss[rn]'(by omega)).c = cc at c1 c2 kc
      have ec : (w ++ one cc).cps.toList = w.cps.toList ++ [cc] := by
        rw [PySem.Str.cps_append, Array.toList_append]
        rfl
      refine ⟨_, _, rfl, rfl, Nat.le_of_lt (z0D (show w.length + 1 <= 1000 by omega)), ?_⟩
      refine ⟨rfl, w ++ one cc, _, rfl, by rw [z0Q, hwl']; rfl, fun c hc' => ?_, fun hc' => ?_, fun c hc' => ?_⟩
      all_goals rw [ec] at hc'; rcases List.mem_append.mp hc' with e | e
      . exact hk c e
      . rw [List.mem_singleton.mp e]
        exact kc
      . exact hF e
      . exact c2 (List.mem_singleton.mp e).symm
      . exact hI c e
      . rw [List.mem_singleton.mp e]
        exact c1
    . rintro σ H4 ⟨rfl, w, v8, rfl, hwl', hk, hF, hI⟩
      walk_at "rs"
      refine ⟨.inl ⟨rfl, _, SqL.of gw⟩, ?_⟩
      walk_at "rs"
      refine ⟨wl, _, _, rfl, rfl, gw, by rw [List.length_map]; exact z0D (by omega), ?_⟩
      refine ⟨ws ++ [w], _, _, _, _, rfl, s3.put nwl, by rw [z05, List.map_append]; rfl, by rw [List.length_append, hwl]; rfl, ⟨by rw [List.length_append, hwl]; show i + 1 <= 60; omega, fun y hy => ?_, fun y hy => ?_, fun y hy => ?_⟩, fun y hy => ?_⟩
      all_goals rcases List.mem_append.mp hy with e | e
      . exact WS.len y e
      . rw [List.mem_singleton.mp e]
        omega
      . exact WS.free y e
      . rw [List.mem_singleton.mp e]
        exact hF
      . exact WS.sg y e
      . rw [List.mem_singleton.mp e]
        exact hI
      . exact hT y e
      . rw [List.mem_singleton.mp e]
        exact hk
  . rintro σ H3 ⟨ws, v5, v6, v7, v8, rfl, s3, gw, hwl, WS, hT⟩
    walk_at "rs"
    exact q wl ws H3 s3 nwl WS hT gw
theorem sc_lawwidth : FnScope ["_law_table", "_law_text", "_law_gap", "_law_wide", "_law_at"] ["_law_table", "_law_text", "_law_gap"] (z04 z0x) := ⟨rfl, rfl, rfl, by decide +kernel, rfl, by decide +kernel, by decide +kernel⟩
theorem z4k {f : Addr} {fd : FuncData} (D : Df K mg "_law_width" z0x ["_law_table", "_law_text", "_law_gap"] f fd) (B : Blt mg) :
    Ow P w K mg base "_law_width" ["_law_table", "_law_text", "_law_gap"] 1 z2T := by
  refine D.ow (D.F.ok sc_lawwidth (fun vs H Q E h => ?_) (fun cdv A outer s H vs Q E hr h => ?_))
  . obtain ⟨d, z, gap, Ss, hg, rfl, _⟩ := h
    rfl
  obtain ⟨d, z, gap, Ss, hg, rfl, TA, FO, hz, hT, q⟩ := h
  refine ⟨_, (z02 (z0B (i := 3) sc_lawwidth.nd rfl (Or.inl rfl) z03)
    (z02 (z1I PassesOwn.never rfl (z0h rfl B.f_range (z00 (z09 z1J rfl B.f_len boot_len (z00 (pv 1) z01)) z01)) (z0N (i := 4) sc_lawwidth.nd rfl (Or.inl rfl)) (z2e (z0W (z0J z3Z (pv 4) z03 (z0K _)) (z07 (z0B (i := 3) sc_lawwidth.nd rfl (Or.inl rfl) (z0I z0T (pv 3) (pv 2)))) z0G)
    (z07 (z0B (i := 3) sc_lawwidth.nd rfl (Or.inl rfl) (z0I z0T (pv 3) (z09 z0A rfl B.f_len boot_len (z00 (z0V ix_list (z6T (z6X hr) (pv 0) (z0V z3f (pv 1) (pv 4) (fun _ _ => rfl)) (fun _ _ => rfl)) z03 (fun _ _ => rfl)) z01)))))))
    (z07 (z0H (pv 3))))), ?_⟩
  obtain ⟨ls, hll, gd, hls⟩ := TA
  have sz : z.length <= sizeLine := Nat.le_of_lt (z0D hz)
  have ezl : z.length = z.cps.toList.length := (Array.length_toList).symm
  walk_at "rs"
  refine ⟨sz, ?_⟩
  walk_at "rs"
  refine ⟨(z2x (by omega) (by omega)).1, (z2x (by omega) (by omega)).2, ?_⟩
  refine z0o (n := ((z.length : Int)).toNat) (fun i σ H2 => H2 = H /\ ∃ v, σ = [some (.ref d), some (.str z), some (.int gap), some (.int (z4P Ss gap z.cps.toList i)), v]) ⟨rfl, none, by rw [z3q]; rfl⟩ ?_ ?_
  . rintro i σ H2 hi ⟨rfl, v, rfl⟩
    have hil : i < z.cps.toList.length := by omega
    have hc' : z.cps.toList[i]? = some (z.cps.toList[i]'hil) := List.getElem?_eq_getElem hil
    have ei : (0 : Int) + (i : Int) = ((i : Nat) : Int) := by omega
    have kn := hT _ (List.getElem_mem hil)
    have ws := z6v (Ss := Ss) (gap := gap) hc'
    generalize z.cps.toList[i]'hil = c at hc' kn ws
    have at1 : atI z.cps.toList (0 + (i : Int)) = some c := by rw [ei]; exact z0i hc'
    obtain ⟨j, S, rl, e1, e2, e3, e4⟩ := z3T hll kn
    obtain ⟨ps, RA⟩ := hls j S rl e1 e2
    have R := FO.rect S (List.mem_of_getElem? e1)
    have hRl := R.len
    have hR1 := R.h1
    obtain ⟨p0, hp0, g0⟩ := RA.at (i := 0) (by omega)
    obtain ⟨hw0, _⟩ := R.row0 (i := 0) (by omega)
    have k0 : atI (ps.map V.ref) 0 = some (.ref p0) := z0i (j := 0) (by rw [List.getElem?_map, hp0]; rfl)
    rw [<- e3, z7G FO (List.mem_of_getElem? e1)] at ws
    have gg := DGet.k (k := Sum.inr (one c)) gd
    rw [e4] at gg
    refine ⟨fun σ' H' => H' = H2 /\ σ' = [some (.ref d), some (.str z), some (.int gap), some (.int (z4P Ss gap z.cps.toList i + if 0 < i then gap else 0)), some (.int (0 + (i : Int)))], ?_, ?_⟩
    . walk_at "rs"
      refine z26 (fun c => ?_) (fun c => ?_)
      . walk_at "rs"
        rw [if_pos (by omega)]
        rfl
      . rw [if_neg (by omega), Int.add_zero]
        exact ⟨rfl, rfl⟩
    rintro σ3 H3 ⟨rfl, rfl⟩
    walk_at "rs"
    refine ⟨z, _, c, rfl, rfl, sz, at1, ?_⟩
    refine ⟨d, .ref rl, rfl, gg, ?_⟩
    walk_at "rs"
    refine ⟨rl, _, 0, _, rfl, rfl, SqL.of RA.lst, k0, ?_⟩
    walk_at "rs"
    refine ⟨p0, _, rfl, .inl (SqL.of g0), ?_⟩
    rw [List.length_map, hw0]
    walk_at "rs"
    refine ⟨some (.int (0 + (i : Int))), ?_⟩
    rw [ws]
    rfl
  . rintro σ H2 ⟨rfl, v, rfl⟩
    walk_at "rs"
    rw [Int.toNat_natCast]
    exact q
theorem sc_lawroom : FnScope ["_law_script", "_law_words_here", "_law_table", "_law_gap", "_law_widest", "_law_way"] ["_law_script", "_law_words_here", "_law_table", "_law_gap"] (z04 z17) := ⟨rfl, rfl, rfl, by decide +kernel, rfl, by decide +kernel, by decide +kernel⟩
theorem z62 {f : Addr} {fd : FuncData} (D : Df K mg "_law_room" z17 ["_law_script", "_law_words_here", "_law_table", "_law_gap"] f fd)
    (O_lawdraw : Ow P w K mg base "_law_draw" ["_law_script", "_law_k", "_law_prime", "_law_many"] 1 (z28 K))
    (O_lawwidth : Ow P w K mg base "_law_width" ["_law_table", "_law_text", "_law_gap"] 1 z2T) (B : Blt mg) :
    Ow P w K mg base "_law_room" ["_law_script", "_law_words_here", "_law_table", "_law_gap"] 2 (z5D K) := by
  refine D.ow (D.F.ok sc_lawroom (fun vs H Q E h => ?_) (fun cdv A outer s H vs Q E hr h => ?_))
  . obtain ⟨a, m, d, ns, gap, ws, Ss, hg, rfl, _⟩ := h
    rfl
  obtain ⟨a, m, d, ns, gap, ws, Ss, hg, rfl, hS, gm, WS, hT, TA, FO, q⟩ := h
  refine ⟨_, (z02 (z0B (i := 4) sc_lawroom.nd rfl (Or.inl rfl) (z9n rfl rfl B.f_max boot_max (z00 (z1R (locs := ["_law_word"]) (ix := [2, 3]) rfl (BlkSc.look (dsc := z04 z17) (N := ["_law_script", "_law_words_here", "_law_table", "_law_gap", "_law_widest", "_law_way"]) rfl rfl (by decide +kernel)) (z24 (pv 1)) (fun _ _ _ _ _ _ => (z0N (i := 0) (by decide +kernel : (["_law_word", "_law_table", "_law_gap"] : List Str).Nodup) rfl (Or.inl rfl))) (fun _ _ _ _ _ _ => z1Q) (fun _ _ _ _ _ _ => (z0E O_lawwidth hr rfl (z00 (pv 1) (z00 (pv 0) (z00 (pv 2) z01)))))) z01) (z98 z03 zAD)))
    (z02 (z0B (i := 5) sc_lawroom.nd rfl (Or.inl rfl) (z0E O_lawdraw hr rfl (z00 (pv 0) (z00 z03 (z00 z03 (z00 z03 z01))))))
    (z02 (z0W (z0J z1b (pv 5) z03 (z0K _)) (z07 (z0H (z09 (z6G rfl) rfl B.f_max boot_max (z00 z03 (z00 (z0I z4n (z0I z4n (pv 4) z03) (z0E O_lawdraw hr rfl (z00 (pv 0) (z00 z03 (z00 z03 (z00 z03 z01)))))) z01))))) z0G)
    (z02 (z0W (z0J z1b (pv 5) z03 (z0K _)) (z07 (z0H (z0I zA4 z03 z03))) z0G)
    (z07 (z0H (z0I z0T (pv 4) (z0E O_lawdraw hr rfl (z00 (pv 0) (z00 z03 (z00 z03 (z00 z03 z01)))))))))))), ?_⟩
  have hm := WS.many
  walk_at "rs"
  refine ⟨⟨_, SqL.of gm⟩, ?_⟩
  refine z1S (n := ws.length) (fun i σ zs H2 => ∃ (v : Option V) (xs : List Int), σ = [v, some (.ref d), some (.int gap)] /\ zs = xs.map V.int /\ xs.length = i /\ H2 = H) ⟨none, [], rfl, rfl, rfl, rfl⟩ (Nat.le_of_lt (z0D (by omega))) ?_ ?_ ?_ ?_ ?_
  . rintro i σ zs H2 ⟨v, xs, _, rfl, hx, _⟩
    rw [List.length_map, hx]
  . rintro σ zs H2 ⟨v, xs, _, _, _, rfl⟩
    exact ⟨_, SqL.of gm, by rw [List.length_map]; exact Nat.le_refl _⟩
  . rintro i σ zs H2 hi ⟨v, xs, _, _, _, rfl⟩
    exact ⟨_, _, SqL.of gm, List.getElem?_eq_getElem (show i < (ws.map V.str).length by rw [List.length_map]; exact hi)⟩
  . rintro i σ zs H2 y H' Z hi ⟨v, xs, rfl, rfl, hx, eH⟩ ⟨eH', hy⟩ hZ
    subst eH'
    subst eH
    have e := hy _ (SqL.of gm)
    rw [List.getElem?_map, List.getElem?_eq_getElem hi] at e
    cases e
    have hw := WS.len _ (List.getElem_mem hi)
    walk_at "rs"
    refine ⟨d, ws[i], gap, Ss, hg, rfl, TA, FO, by omega, hT _ (List.getElem_mem hi), ?_⟩
    exact hZ _ _ _ ⟨_, xs ++ [z38 Ss gap ws[i]], rfl, by rw [List.map_append]; rfl, by rw [List.length_append, hx]; rfl, rfl⟩
  rintro σ zs H2 ⟨v, xs, rfl, rfl, hx, rfl⟩ lx nlx
  have s3 := Same.new (o := .lst (xs.map V.int)) nlx
  have g3 : (upd H2 lx (.lst (xs.map V.int))) lx = some (.lst (xs.map V.int)) := z05
  generalize upd H2 lx (.lst (xs.map V.int)) = H3 at s3 g3
  refine ⟨lx, xs, 1, rfl, rfl, SqL.of g3, fun wd _ => ?_⟩
  walk_at "rs"
  refine ⟨a, ns, 9, 10111, 4, rfl, s3.seq hS, by decide, by decide, by decide, by decide, ?_⟩
  walk_at "rs"
  refine z26 (fun _ => ?_) (fun _ => ?_)
  . walk_at "rs"
    refine ⟨a, ns, 11, 10133, 3, rfl, s3.seq hS, by decide, by decide, by decide, by decide, ?_⟩
    walk_at "rs"
    refine ⟨_, _, rfl, ?_⟩
    exact q _ H3 s3
  walk_at "rs"
  refine z26 (fun _ => ?_) (fun _ => ?_)
  . walk_at "rs"
    exact q _ H3 s3
  walk_at "rs"
  refine ⟨a, ns, 13, 10139, 30, rfl, s3.seq hS, by decide, by decide, by decide, by decide, ?_⟩
  walk_at "rs"
  exact q _ H3 s3
theorem sc_lawcaught : FnScope ["_law_font", "_law_text", "_law_wide", "_law_told", "e"] ["_law_font", "_law_text", "_law_wide"] (z04 z0m) := ⟨rfl, rfl, rfl, by decide +kernel, rfl, by decide +kernel, by decide +kernel⟩
theorem z4C {f : Addr} {fd : FuncData} (D : Df K mg "_law_caught" z0m ["_law_font", "_law_text", "_law_wide"] f fd)
    {c_Font : Addr} (Zo : Co K mg c_Font)
    {c_GlowError c_NoFont c_NoSign c_TooWide : Addr} (Z : Cl K mg c_GlowError c_NoFont c_NoSign c_TooWide)
    (O_broken : Ow2 P w K mg base "broken" ["font", "text", "wide"] 5 (z3W c_Font c_NoSign c_TooWide)) (B : Blt mg) :
    Ow P w K mg base "_law_caught" ["_law_font", "_law_text", "_law_wide"] 6 (z39 c_Font) := by
  refine D.ow (D.F.ok sc_lawcaught (fun vs H Q E h => ?_) (fun cdv A outer s H vs Q E hr h => ?_))
  . obtain ⟨x, ws, Ss, hg, gap, wide, rfl, _⟩ := h
    rfl
  obtain ⟨x, ws, Ss, hg, gap, wide, rfl, FAt, FO, g0, g1, WS, hd, q1, q2⟩ := h
  refine ⟨_, (z02 (z0B (i := 3) sc_lawcaught.nd rfl (Or.inl rfl) z2t)
    (z02 (z9f (i := 4) (z8K O_broken hr rfl (z00 (pv 0) (z00 (pv 1) (z00 (pv 2) z01)))) rfl rfl rfl ⟨Z.m_GlowError, Z.x_GlowError⟩ sc_lawcaught.nd rfl rfl (fun _ => (z02 (z0W (PW.pt (z4l (z0g (z09 z1k rfl B.f_isinstance boot_isinstance (z00 (pv 4) (z00 (z3B (v := .ref _) rfl Z.m_NoSign rfl) z01)))) (z3C (z0n (z0g (z09 z1k rfl B.f_isinstance boot_isinstance (z00 (pv 4) (z00 (z3B (v := .ref _) rfl Z.m_TooWide rfl) z01)))))))) (z07 (z0B (i := 3) sc_lawcaught.nd rfl (Or.inl rfl) (z2w (z00 (z3P (pv 4) rfl) (z00 (z3P (pv 4) rfl) z01))))) z0G)
    (z07 (z0W (PW.pt (z4l (z0g (z09 z1k rfl B.f_isinstance boot_isinstance (z00 (pv 4) (z00 (z3B (v := .ref _) rfl Z.m_TooWide rfl) z01)))) (z3C (z0n (z0g (z09 z1k rfl B.f_isinstance boot_isinstance (z00 (pv 4) (z00 (z3B (v := .ref _) rfl Z.m_NoSign rfl) z01)))))))) (z07 (z0B (i := 3) sc_lawcaught.nd rfl (Or.inl rfl) (z3P (pv 4) rfl))) z0G)))))
    (z07 (z0H (pv 3))))), ?_⟩
  have kt := Z.kt 1 (by decide)
  have k1 := kt.one 1 (Nat.lt_of_sub_eq_succ rfl)
  have k2 := kt.one 2 (Nat.lt_of_sub_eq_succ rfl)
  walk_at "rs"
  refine ⟨fun Cv dd H2 => ∃ d', dd = some d' /\ Same H H2 /\ ((∃ c i, Cv = .ref c_NoSign /\ firstBad Ss (JB ws).cps.toList 0 = some (c, i) /\ H2 d' = some (.ext (z2G d' [("at", .int (i : Nat)), ("sign", .str (one c))]))) \/ ∃ n : Nat, Cv = .ref c_TooWide /\ firstBad Ss (JB ws).cps.toList 0 = none /\ z8W Ss gap wide ws n /\ H2 d' = some (.ext (z2G d' [("word", .int (n : Nat))]))), ?_, ?_⟩
  . refine ⟨_, rfl, _, rfl, _, rfl, x, ws, Ss, hg, gap, wide, rfl, FAt, FO, g0, g1, WS, fun hb fit l gs H2 s2 nl GS gl => ?_, fun c i d H2 hb s2 hdd => ⟨d, rfl, s2, .inl ⟨c, i, rfl, hb, hdd⟩⟩, fun n d H2 hb hn hj hw s2 hdd => ⟨d, rfl, s2, .inr ⟨n, rfl, hb, ⟨hn, hj, hw⟩, hdd⟩⟩⟩
    rcases hd with ⟨c, i, e⟩ | ⟨_, n, hn, _, hw⟩
    . rw [hb] at e
      cases e
    . have := fit _ (List.getElem_mem hn)
      omega
  . rintro Cv dd H2 ⟨d', rfl, s2, ⟨c, i, rfl, hb, hE0⟩ | ⟨n, rfl, hb, hW, hE0⟩⟩
    . refine ⟨c_NoSign, rfl, Z.x_NoSign, Z.ab _ (by simp), fun a na => ?_⟩
      obtain ⟨s3, hE⟩ := z34 (C := c_NoSign) na hE0
      generalize upd H2 a (.ext (z4v a c_NoSign (some d'))) = H3 at s3 hE
      refine ⟨_, rfl, a, _, _, _, _, _, rfl, hE, Z.x_NoSign, rfl, k1, _, rfl, z3k rfl ?_⟩
      refine ⟨_, rfl, a, _, _, _, _, _, rfl, hE, Z.x_NoSign, rfl, k2, _, rfl, z3k rfl ?_⟩
      refine ⟨_, rfl, a, c_NoSign, _, _, rfl, hE, Z.x_NoSign, Z.f_NoSign_sign, rfl, _, rfl, a, c_NoSign, _, _, rfl, hE, Z.x_NoSign, Z.f_NoSign_at, rfl, szV (by simp), fun t' nt => ?_⟩
      have s4 : Same H3 (upd H3 t' (.tup [.str (one c), .int (i : Nat)])) := Same.new nt
      have g4 : (upd H3 t' (.tup [.str (one c), .int (i : Nat)])) t' = some (.tup [.str (one c), .int (i : Nat)]) := z05
      have hE4 := hE.mono s4
      generalize upd H3 t' (.tup [.str (one c), .int (i : Nat)]) = H4 at s4 g4 hE4
      refine ⟨_, rfl, a, _, _, _, _, _, rfl, hE4, Z.x_NoSign, rfl, k2, _, rfl, z1Z rfl ?_⟩
      walk_at "rs"
      exact q1 t' c i H4 hb ((s2.trans s3).trans s4) g4
    . refine ⟨c_TooWide, rfl, Z.x_TooWide, Z.ab _ (by simp), fun a na => ?_⟩
      obtain ⟨s3, hE⟩ := z34 (C := c_TooWide) na hE0
      generalize upd H2 a (.ext (z4v a c_TooWide (some d'))) = H3 at s3 hE
      have kt2 := Z.kt 2 (by decide)
      have k1 := kt2.one 1 (Nat.lt_of_sub_eq_succ rfl)
      have k2 := kt2.one 2 (Nat.lt_of_sub_eq_succ rfl)
      refine ⟨_, rfl, a, _, _, _, _, _, rfl, hE, Z.x_TooWide, rfl, k1, _, rfl, z1Z rfl ?_⟩
      refine ⟨_, rfl, a, _, _, _, _, _, rfl, hE, Z.x_TooWide, rfl, k2, _, rfl, z3k rfl ?_⟩
      refine ⟨_, rfl, a, _, _, _, _, _, rfl, hE, Z.x_TooWide, rfl, k1, _, rfl, z3k rfl ?_⟩
      refine ⟨_, rfl, a, c_TooWide, _, _, rfl, hE, Z.x_TooWide, Z.f_TooWide_word, rfl, ?_⟩
      walk_at "rs"
      exact q2 n H3 hb hW (s2.trans s3)
theorem sc_lawdue : FnScope ["_law_table", "_law_text", "_law_words_here", "_law_gap", "_law_wide", "_law_at", "_law_n"] ["_law_table", "_law_text", "_law_words_here", "_law_gap", "_law_wide"] (z04 z1X) := ⟨rfl, rfl, rfl, by decide +kernel, rfl, by decide +kernel, by decide +kernel⟩
theorem z7e {f : Addr} {fd : FuncData} (D : Df K mg "_law_due" z1X ["_law_table", "_law_text", "_law_words_here", "_law_gap", "_law_wide"] f fd)
    (O_lawwidth : Ow P w K mg base "_law_width" ["_law_table", "_law_text", "_law_gap"] 1 z2T) (B : Blt mg) :
    Ow P w K mg base "_law_due" ["_law_table", "_law_text", "_law_words_here", "_law_gap", "_law_wide"] 2 z7R := by
  refine D.ow (D.F.ok sc_lawdue (fun vs H Q E h => ?_) (fun cdv A outer s H vs Q E hr h => ?_))
  . obtain ⟨d, m, ws, Ss, hg, gap, wide, rfl, _⟩ := h
    rfl
  obtain ⟨d, m, ws, Ss, hg, gap, wide, rfl, TA, FO, WS, gm, q1, q2, q3⟩ := h
  refine ⟨_, (z02 (z1I PassesOwn.never rfl (z0h rfl B.f_range (z00 (z09 z1J rfl B.f_len boot_len (z00 (pv 1) z01)) z01)) (z0N (i := 5) sc_lawdue.nd rfl (Or.inl rfl)) (z07 (z0W (z8Y (z3i (z6X hr) (z0V z3f (pv 1) (pv 5) (fun _ _ => rfl)) (pv 0))) (z07 (z0H (z2w (z00 (z0V z3f (pv 1) (pv 5) (fun _ _ => rfl)) (z00 (pv 5) z01))))) z0G)))
    (z02 (z1I PassesOwn.never rfl (z0h rfl B.f_range (z00 (z09 z0A rfl B.f_len boot_len (z00 (pv 2) z01)) z01)) (z0N (i := 6) sc_lawdue.nd rfl (Or.inl rfl)) (z07 (z0W (z0J z3Z (z0E O_lawwidth hr rfl (z00 (pv 0) (z00 (z0V ix_list (pv 2) (pv 6) (fun _ _ => rfl)) (z00 (pv 3) z01)))) (pv 4) (z0K _)) (z07 (z0H (pv 6))) z0G)))
    (z07 (z0H z2t)))), ?_⟩
  obtain ⟨ls, hll, gd, hls⟩ := id TA
  have ht := WS.text
  have hI := WS.inSg
  have sz : (JB ws).length <= sizeLine := Nat.le_of_lt (z0D (by omega))
  have ezl : (JB ws).length = (JB ws).cps.toList.length := (Array.length_toList).symm
  have hm60 := WS.many
  walk_at "rs"
  refine ⟨sz, ?_⟩
  walk_at "rs"
  refine ⟨(z2x (by omega) (by omega)).1, (z2x (by omega) (by omega)).2, ?_⟩
  refine z0o (n := (((JB ws).length : Int)).toNat) (fun i σ H2 => H2 = H /\ (∃ v5 v6, σ = [some (.ref d), some (.str (JB ws)), some (.ref m), some (.int gap), some (.int wide), v5, v6]) /\ ∀ c ∈ (JB ws).cps.toList.take i, known Ss c = true) ⟨rfl, ⟨none, none, rfl⟩, (fun c hc => nomatch hc)⟩ ?_ ?_
  . rintro i σ H2 hi ⟨rfl, ⟨v5, v6, rfl⟩, hk⟩
    have hil : i < (JB ws).cps.toList.length := by omega
    have hc' : (JB ws).cps.toList[i]? = some ((JB ws).cps.toList[i]'hil) := List.getElem?_eq_getElem hil
    have ei : (0 : Int) + (i : Int) = ((i : Nat) : Int) := by omega
    generalize (JB ws).cps.toList[i]'hil = c at hc'
    have at1 : atI (JB ws).cps.toList (0 + (i : Int)) = some c := by rw [ei]; exact z0i hc'
    have gg := DGet.k (k := Sum.inr (one c)) gd
    walk_at "rs"
    refine ⟨JB ws, _, c, rfl, rfl, sz, at1, ?_⟩
    refine ⟨_, rfl, d, _, rfl, gg, ?_⟩
    rw [z3S c hll]
    cases ek : known Ss c with
    | true =>
      refine ⟨_, rfl, z5T ⟨rfl, ⟨_, _, rfl⟩, fun c2 hc2 => ?_⟩⟩
      rw [List.take_succ, hc'] at hc2
      rcases List.mem_append.mp hc2 with e | e
      . exact hk c2 e
      . rw [show c2 = c by simpa using e]
        exact ek
    | false =>
      have hb := z1r (i := 0) hk hc' ek
      rw [Nat.zero_add] at hb
      refine ⟨_, rfl, z2b ?_⟩
      walk_at "rs"
      refine ⟨JB ws, _, c, rfl, rfl, sz, at1, ?_⟩
      walk_at "rs"
      intro t nt
      refine q1 t c i _ hb (Same.new nt) ?_
      rw [z05, ei]
      rfl
  . rintro σ H2 ⟨rfl, ⟨v5, v6, rfl⟩, hk⟩
    rw [Int.toNat_natCast, ezl, List.take_length] at hk
    have nb : firstBad Ss (JB ws).cps.toList 0 = none := z0p hk
    walk_at "rs"
    refine ⟨m, _, rfl, .inl (SqL.of gm), ?_⟩
    rw [List.length_map]
    walk_at "rs"
    refine ⟨(z2x (by omega) (by omega)).1, (z2x (by omega) (by omega)).2, ?_⟩
    refine z0o (n := ((ws.length : Int)).toNat) (fun i σ H3 => H3 = H2 /\ (∃ v5 v6, σ = [some (.ref d), some (.str (JB ws)), some (.ref m), some (.int gap), some (.int wide), v5, v6]) /\ ∀ (j : Nat) w, j < i -> ws[j]? = some w -> z38 Ss gap w <= wide) ⟨rfl, ⟨v5, v6, rfl⟩, fun j w h => absurd h (Nat.not_lt_zero _)⟩ ?_ ?_
    . rintro i σ H3 hi ⟨rfl, ⟨v5, v6, rfl⟩, hf⟩
      have hil : i < ws.length := by omega
      have ei : (0 : Int) + (i : Int) = ((i : Nat) : Int) := by omega
      have at1 : atI (ws.map V.str) (0 + (i : Int)) = some (.str ws[i]) := by rw [ei]; exact z0i (by rw [List.getElem?_map, List.getElem?_eq_getElem hil]; rfl)
      have hwm : ws[i] ∈ ws := List.getElem_mem hil
      have hw4 := WS.len _ hwm
      walk_at "rs"
      refine ⟨m, _, _, _, rfl, rfl, SqL.of gm, at1, ?_⟩
      walk_at "rs"
      refine ⟨d, ws[i], gap, Ss, hg, rfl, TA, FO, by omega, fun c hc => hk c (z2j hwm hc), ?_⟩
      walk_at "rs"
      refine z26 (fun c => ?_) (fun c => ?_)
      . walk_at "rs"
        rw [ei]
        exact q2 i nb ⟨hil, hf, c⟩
      . refine ⟨rfl, ⟨_, _, rfl⟩, fun j w hj ew => ?_⟩
        by_cases e : j < i
        . exact hf j w e ew
        . have ej : j = i := by omega
          rw [ej, List.getElem?_eq_getElem hil] at ew
          cases ew
          omega
    . rintro σ H3 ⟨rfl, ⟨v5, v6, rfl⟩, hf⟩
      walk_at "rs"
      refine q3 nb fun w hw => ?_
      obtain ⟨j, hj, e⟩ := List.mem_iff_getElem.mp hw
      exact hf j w (by omega) (by rw [List.getElem?_eq_getElem hj, e])
theorem sc_lawbroken : FnScope ["_law_found", "_law_table", "_law_text", "_law_gap", "_law_wide", "_law_k", "_law_joined"] ["_law_found", "_law_table", "_law_text", "_law_gap", "_law_wide"] (z04 z0b) := ⟨rfl, rfl, rfl, by decide +kernel, rfl, by decide +kernel, by decide +kernel⟩
theorem z4D {f : Addr} {fd : FuncData} (D : Df K mg "_law_broken" z0b ["_law_found", "_law_table", "_law_text", "_law_gap", "_law_wide"] f fd)
    (O_lawwidth : Ow P w K mg base "_law_width" ["_law_table", "_law_text", "_law_gap"] 1 z2T) (B : Blt mg) :
    Ow P w K mg base "_law_broken" ["_law_found", "_law_table", "_law_text", "_law_gap", "_law_wide"] 2 z44 := by
  refine D.ow (D.F.ok sc_lawbroken (fun vs H Q E h => ?_) (fun cdv A outer s H vs Q E hr h => ?_))
  . obtain ⟨l, d, ws, gs, Ss, hg, gap, wide, rfl, _⟩ := h
    rfl
  obtain ⟨l, d, ws, gs, Ss, hg, gap, wide, rfl, gl, GS, WS, TA, FO, hb, q⟩ := h
  refine ⟨_, (z02 (z0W (PW.pt (z2E (z0n (z0g (z09 z0c rfl B.f_isinstance boot_isinstance (z00 (pv 0) (z00 (z0q (v := .ty "list") rfl B.f_list boot_list rfl) z01))))) (z1Y (z0n (z0g (z09 (z2K rfl) rfl B.f_all boot_all (z00 (z1R (locs := ["_law_row"]) (ix := []) rfl (BlkSc.look (dsc := z04 z0b) (N := ["_law_found", "_law_table", "_law_text", "_law_gap", "_law_wide", "_law_k", "_law_joined"]) rfl rfl (by decide +kernel)) (z24 (pv 0)) (fun _ _ _ _ _ _ => (z0N (i := 0) (by decide +kernel : (["_law_row"] : List Str).Nodup) rfl (Or.inl rfl))) (fun _ _ _ _ _ _ => z1Q) (fun _ _ _ _ _ _ => (z09 z0c rfl B.f_isinstance boot_isinstance (z00 (pv 0) (z00 (z0q (v := .ty "str") rfl B.f_str boot_str rfl) z01))))) z01))))))) (z07 (z0H z1t)) z0G)
    (z02 (z0W (PW.pt (z2E (z0J z3D (z2Y PySem.F.plainAttrs_str PySem.F.slot_str_join PySem.F.type_str_join z4O z0f (z00 (pv 0) z01)) (pv 2) (z0K _)) (z1Y (z0J z3D (z1c z1b (z09 z0A rfl B.f_len boot_len (z00 (pv 0) z01)) z03 (z0K _)) (z1c z1b (pv 2) z0f (z0K _)) (z0K _))))) (z07 (z0H z1t)) z0G)
    (z02 (z1I PassesOwn.never rfl (z0h rfl B.f_range (z00 (z09 z0A rfl B.f_len boot_len (z00 (pv 0) z01)) z01)) (z0N (i := 5) sc_lawbroken.nd rfl (Or.inl rfl)) (z02 (z0W (PW.pt (z2E (z0J z1b (z0V ix_list (pv 0) (pv 5) (fun _ _ => rfl)) z0f (z0K _)) (z1Y (z0J z3Z (z0E O_lawwidth hr rfl (z00 (pv 1) (z00 (z0V ix_list (pv 0) (pv 5) (fun _ _ => rfl)) (z00 (pv 3) z01)))) (pv 4) (z0K _))))) (z07 (z0H z1t)) z0G)
    (z07 (z0W (z0J z3Z (pv 5) z03 (z0K _)) (z02 (z0B (i := 6) sc_lawbroken.nd rfl (Or.inl rfl) (z0I z0X (z0I z0X (z0V ix_list (pv 0) (z0I z4n (pv 5) z03) (fun _ _ => rfl)) z0f) (z0V zAE (z2Y PySem.F.plainAttrs_str PySem.F.slot_str_split PySem.F.type_str_split z5A (z0V ix_list (pv 0) (pv 5) (fun _ _ => rfl)) (z00 z0f z01)) z03 (fun _ _ => rfl))))
    (z07 (z0W (z0J z5L (z0E O_lawwidth hr rfl (z00 (pv 1) (z00 (pv 6) (z00 (pv 3) z01)))) (pv 4) (z0K _)) (z07 (z0H z1t)) z0G))) z0G))))
    (z07 (z0H z1t))))), ?_⟩
  have kn := z2k hb
  have hm60 := WS.many
  have hgl : gs.length <= 60 := by
    have h1 := GS.fl
    have h2 : gs.length <= gs.flatten.length := by
      have hne := GS.ne
      clear h1 GS gl
      induction gs with
      | nil => exact Nat.le_refl _
      | cons g gs ih =>
        have := ih fun x hx => hne x (List.mem_cons_of_mem _ hx)
        have h1 : 1 <= g.length := List.length_pos_iff.mpr (hne g List.mem_cons_self)
        rw [List.flatten_cons, List.length_append, List.length_cons]
        omega
    rw [h1] at h2
    omega
  have hgw : gs.length <= ws.length := by
    rw [<- GS.fl]
    have hne := GS.ne
    clear hgl GS gl
    induction gs with
    | nil => exact Nat.le_refl _
    | cons g gs ih =>
      have := ih fun x hx => hne x (List.mem_cons_of_mem _ hx)
      have h1 : 1 <= g.length := List.length_pos_iff.mpr (hne g List.mem_cons_self)
      rw [List.flatten_cons, List.length_append, List.length_cons]
      omega
  have gm : ∀ g ∈ gs, (∀ y ∈ g, y ∈ ws) /\ g.length <= ws.length := fun g hg => ⟨fun y hy => by rw [<- GS.fl]; exact List.mem_flatten.mpr ⟨g, hg, hy⟩, by
    rw [<- GS.fl]
    exact (List.sublist_flatten_of_mem hg).length_le⟩
  have Wg : ∀ g ∈ gs, Words g := fun g hg => ⟨by have := (gm g hg).2; omega, fun y hy => WS.len y ((gm g hg).1 y hy), fun y hy => WS.free y ((gm g hg).1 y hy), fun y hy => WS.sg y ((gm g hg).1 y hy)⟩
  have ej : JB (gs.map JB) = JB ws := by rw [z40 GS.ne, GS.fl]
  have bl : Str.ofString " " = blankS := by decide
  have ml : (gs.map JB).map V.str = gs.map fun g => V.str (JB g) := by rw [List.map_map]; rfl
  have jn : joinN blankS (gs.map JB) <= sizeLine := by
    have h2 := z2M (sep := blankS) (m := 300) (zs := gs.map JB) fun z hz => by
      obtain ⟨g, hg, rfl⟩ := List.mem_map.mp hz
      exact (Wg g hg).text
    rw [List.length_map] at h2
    have h3 : gs.length * (300 + blankS.length) <= 60 * 301 := Nat.mul_le_mul hgl (by decide)
    exact Nat.le_trans (Nat.le_trans h2 h3) (by decide)
  refine ⟨_, rfl, _, "list", "list", rfl, by decide, by simp only [tyS, gl], _, rfl, z1Z rfl ?_⟩
  refine ⟨_, rfl, l, rfl, ⟨_, SqL.of gl⟩, ?_⟩
  refine z1S (n := gs.length) (fun i σ zs H4 => ∃ v, σ = [v] /\ zs = (List.replicate i true).map V.bl /\ H4 = H) ⟨none, rfl, rfl, rfl⟩ (Nat.le_of_lt (z0D (by omega))) ?_ ?_ ?_ ?_ ?_
  . rintro i σ zs H4 ⟨v, _, rfl, _⟩
    rw [List.length_map, List.length_replicate]
  . rintro σ zs H4 ⟨v, _, _, rfl⟩
    exact ⟨_, SqL.of gl, by rw [List.length_map]; exact Nat.le_refl _⟩
  . rintro i σ zs H4 hi ⟨v, _, _, rfl⟩
    exact ⟨_, _, SqL.of gl, List.getElem?_eq_getElem (show i < (gs.map fun g => V.str (JB g)).length by rw [List.length_map]; exact hi)⟩
  . rintro i σ zs H4 z H' Z hi ⟨v, rfl, rfl, eH⟩ ⟨eH', hx⟩ hZ
    subst eH'
    subst eH
    have e := hx _ (SqL.of gl)
    rw [List.getElem?_map, List.getElem?_eq_getElem hi] at e
    cases e
    refine ⟨_, rfl, _, "str", "str", rfl, by decide, rfl, ?_⟩
    refine hZ _ _ _ ⟨_, rfl, ?_, rfl⟩
    rw [List.replicate_succ', List.map_append]
    rfl
  rintro σ zs H4 ⟨v, rfl, rfl, rfl⟩ la nla
  have s5 := Same.new (o := .lst ((List.replicate gs.length true).map V.bl)) nla
  refine ⟨la, List.replicate gs.length true, rfl, SqL.of z05, _, rfl, z1Z (by simp) ?_⟩
  generalize upd H4 la (.lst ((List.replicate gs.length true).map V.bl)) = H5 at s5
  have gl5 := s5 _ _ gl
  have TA5 := TA.mono s5
  walk_at "rs"
  refine ⟨_, l, gs.map JB, rfl, rfl, by rw [ml]; exact SqL.of gl5, by rw [bl]; exact jn, ?_⟩
  rw [show Str.join (Str.ofString " ") (gs.map JB) = JB ws by rw [bl]; exact ej]
  walk_at "rs"
  refine z8m (fun n => absurd rfl n) (fun _ => ?_)
  have eq0 : decide (V.int ((gs.map fun g => V.str (JB g)).length : Int) = V.int 0) = decide (V.str (JB ws) = V.str (Str.ofString "")) := by
    rw [List.length_map]
    by_cases c : gs = []
    . have ew : ws = [] := by rw [<- GS.fl, c]; rfl
      rw [c, ew]
      rfl
    . have h1 : ws ≠ [] := fun e => by
        have h2 := GS.fl
        rw [e] at h2
        cases hgs : gs with
        | nil => exact c hgs
        | cons g r =>
          rw [hgs, List.flatten_cons] at h2
          exact GS.ne g (by rw [hgs]; exact List.mem_cons_self) (List.append_eq_nil_iff.mp h2).1
      have h3 := z7P h1 fun w hw => (WS.len w hw).1
      have h4 : 0 < gs.length := List.length_pos_iff.mpr c
      rw [decide_eq_false (fun e => by injection e with e; omega), decide_eq_false (fun e => by
        injection e with e
        rw [e] at h3
        exact absurd h3 (by decide))]
  walk_at "rs"
  refine ⟨l, _, rfl, .inl (SqL.of gl5), ?_⟩
  walk_at "rs"
  refine z8m (fun n => absurd (congrArg V.bl eq0) n) (fun _ => ?_)
  walk_at "rs"
  refine ⟨l, _, rfl, .inl (SqL.of gl5), ?_⟩
  rw [List.length_map]
  walk_at "rs"
  refine ⟨(z2x (by omega) (by omega)).1, (z2x (by omega) (by omega)).2, ?_⟩
  refine z0o (n := ((gs.length : Int)).toNat) (fun k σ H6 => Same H5 H6 /\ ∃ v5 v6, σ = [some (.ref l), some (.ref d), some (.str (JB ws)), some (.int gap), some (.int wide), v5, v6]) ⟨Same.refl _, none, none, rfl⟩ ?_ ?_
  . rintro k σ H6 hk ⟨s6, v5, v6, rfl⟩
    have hkl : k < gs.length := by omega
    have ek : (0 : Int) + (k : Int) = ((k : Nat) : Int) := by omega
    have gl6 := s6 _ _ gl5
    have TA6 := TA5.mono s6
    have atk : atI (gs.map fun g => V.str (JB g)) (0 + (k : Int)) = some (.str (JB gs[k])) := by rw [ek]; exact z0i (by rw [List.getElem?_map, List.getElem?_eq_getElem hkl]; rfl)
    have hgk : gs[k] ∈ gs := List.getElem_mem hkl
    have ht := (Wg _ hgk).text
    have hne := GS.ne _ hgk
    have hn1 := z7P hne fun w hw => ((Wg _ hgk).len w hw).1
    have hfit := GS.fit _ hgk
    walk_at "rs"
    refine ⟨l, _, _, _, rfl, rfl, SqL.of gl6, atk, ?_⟩
    walk_at "rs"
    refine z26 (fun c => ?_) (fun c => ?_)
    . injection c with c
      rw [c] at hn1
      exact absurd hn1 (by decide)
    walk_at "rs"
    refine ⟨l, _, _, _, rfl, rfl, SqL.of gl6, atk, ?_⟩
    walk_at "rs"
    refine ⟨d, JB gs[k], gap, Ss, hg, rfl, TA6, FO, by omega, z2l kn (gm _ hgk).1 (gm _ hgk).2, ?_⟩
    walk_at "rs"
    refine z26 (fun c => absurd hfit (by omega)) (fun c => ?_)
    walk_at "rs"
    refine z26 (fun c => ?_) (fun c => ?_)
    . have hk1 : k - 1 < gs.length := by omega
      have atk1 : atI (gs.map fun g => V.str (JB g)) (0 + (k : Int) - 1) = some (.str (JB gs[k - 1])) := by
        rw [show (0 : Int) + (k : Int) - 1 = (((k - 1 : Nat)) : Int) by omega]
        exact z0i (by rw [List.getElem?_map, List.getElem?_eq_getElem hk1]; rfl)
      have hgk1 : gs[k - 1] ∈ gs := List.getElem_mem hk1
      have ht1 := (Wg _ hgk1).text
      have hne1 := GS.ne _ hgk1
      obtain ⟨h0, hh⟩ : ∃ h0, (gs[k]).head? = some h0 := by
        cases e : gs[k] with
        | nil => exact absurd e hne
        | cons y r => exact ⟨y, rfl⟩
      have hmem : h0 ∈ gs[k] := List.mem_of_head? hh
      have hgap := GS.gap (k - 1) gs[k - 1] gs[k] (List.getElem?_eq_getElem hk1) (by rw [show k - 1 + 1 = k by omega]; exact List.getElem?_eq_getElem hkl) h0 hh
      have h04 := (Wg _ hgk).len h0 hmem
      have bl1 : (Str.ofString " ").length = 1 := by decide
      have lz : (JB gs[k - 1] ++ Str.ofString " ").length = (JB gs[k - 1]).length + 1 := by rw [z0Q, bl1]
      have sl : ∀ n : Nat, n <= 5000 -> n <= sizeLine := fun n h => Nat.le_trans h (by decide)
      walk_at "rs"
      refine ⟨l, _, _, _, rfl, rfl, SqL.of gl6, atk1, ?_⟩
      walk_at "rs"
      refine ⟨sl _ (by rw [bl1]; omega), ?_⟩
      walk_at "rs"
      refine ⟨l, _, _, _, rfl, rfl, SqL.of gl6, atk, ?_⟩
      walk_at "rs"
      refine ⟨sl _ (by omega), fun sp nsp => ?_⟩
      have s7 := Same.new (o := .lst ((Txt.split (JB gs[k]) (Str.ofString " ")).map V.str)) nsp
      have g7 : (upd H6 sp (.lst ((Txt.split (JB gs[k]) (Str.ofString " ")).map V.str))) sp = some (.lst ((gs[k]).map V.str)) := by rw [z05, bl, z5B hne (Wg _ hgk).free]
      generalize upd H6 sp (.lst ((Txt.split (JB gs[k]) (Str.ofString " ")).map V.str)) = H7 at s7 g7
      have at0 : atI ((gs[k]).map V.str) 0 = some (.str h0) := z0i (j := 0) (by rw [List.getElem?_map, <- List.head?_eq_getElem?, hh]; rfl)
      have ez : JB gs[k - 1] ++ Str.ofString " " ++ h0 = JB (gs[k - 1] ++ [h0]) := by rw [bl, z4a hne1]
      have tz : TextOf Ss (JB (gs[k - 1] ++ [h0])) := fun c hc => by
        rcases z7Q hc with ⟨w, hw, hcw⟩ | ⟨_, e⟩
        . rcases List.mem_append.mp hw with e | e
          . exact kn c (z2j ((gm _ hgk1).1 w e) hcw)
          . rw [List.mem_singleton.mp e] at hcw
            exact kn c (z2j ((gm _ hgk).1 h0 hmem) hcw)
        . rw [e]
          exact kn 32 (z5C (by omega))
      have lz2 : (JB gs[k - 1] ++ Str.ofString " " ++ h0).length <= 1000 := by rw [z0Q, lz]; omega
      walk_at "rs"
      refine .inl ⟨sp, _, 0, _, rfl, rfl, SqL.of g7, at0, ?_⟩
      walk_at "rs"
      refine ⟨sl _ (by rw [lz]; omega), ?_⟩
      walk_at "rs"
      refine ⟨d, _, gap, Ss, hg, rfl, TA6.mono s7, FO, lz2, by rw [ez]; exact tz, ?_⟩
      walk_at "rs"
      refine z26 (fun c => ?_) (fun c => ?_)
      . rw [bl] at c
        omega
      . exact ⟨s6.trans s7, _, _, rfl⟩
    . exact ⟨s6, _, _, rfl⟩
  . rintro σ H6 ⟨s6, v5, v6, rfl⟩
    walk_at "rs"
    exact q H6 (s5.trans s6)
theorem sc_law : FnScope ["_law_script", "_law_high", "_law_signs_here", "_law_gap", "_law_words_here", "_law_at", "_law_blank", "_law_table", "_law_text", "_law_wide", "_law_fault", "_law_place", "_law_odd", "_law_word", "_law_font", "_law_due_here", "_law_told"] ["_law_script"] (z04 z2m) := ⟨rfl, rfl, rfl, by decide +kernel, rfl, by decide +kernel, by decide +kernel⟩
theorem zAo {f : Addr} {fd : FuncData} (D : Df K mg "law" z2m ["_law_script"] f fd)
    {c_Font : Addr} (Zo : Co K mg c_Font)
    {c_GlowError c_NoFont c_NoSign c_TooWide : Addr} (Z : Cl K mg c_GlowError c_NoFont c_NoSign c_TooWide)
    (O_broken : Ow2 P w K mg base "broken" ["font", "text", "wide"] 5 (z3W c_Font c_NoSign c_TooWide))
    (O_Fontinit : Oc P w K mg base (CX2 P w) "Font" c_Font ["self", "pairs", "gap"] [] 8 (z3R c_Font))
    (O_lawdraw : Ow P w K mg base "_law_draw" ["_law_script", "_law_k", "_law_prime", "_law_many"] 1 (z28 K))
    (O_lawwhole : Ow P w K mg base "_law_whole" ["_law_found"] 1 z2f)
    (O_lawrows : Ow P w K mg base "_law_rows" ["_law_script", "_law_k", "_law_wide", "_law_high"] 3 (z6l K))
    (O_lawbits : Ow P w K mg base "_law_bits" ["_law_rows_here"] 1 z4t)
    (O_lawsign : Ow P w K mg base "_law_sign" ["_law_number"] 1 z6s)
    (O_lawsigns : Ow P w K mg base "_law_signs" ["_law_script", "_law_k", "_law_many", "_law_high"] 4 (z42 K))
    (O_lawwords : Ow P w K mg base "_law_words" ["_law_script", "_law_signs_here"] 2 (z43 K))
    (O_lawroom : Ow P w K mg base "_law_room" ["_law_script", "_law_words_here", "_law_table", "_law_gap"] 2 (z5D K))
    (O_lawcaught : Ow P w K mg base "_law_caught" ["_law_font", "_law_text", "_law_wide"] 6 (z39 c_Font))
    (O_lawdue : Ow P w K mg base "_law_due" ["_law_table", "_law_text", "_law_words_here", "_law_gap", "_law_wide"] 2 z7R)
    (O_lawbroken : Ow P w K mg base "_law_broken" ["_law_found", "_law_table", "_law_text", "_law_gap", "_law_wide"] 2 z44) (B : Blt mg) :
    FnOk P w K mg base CX0 10 f fd ["_law_script"] (z7w K) := by
  refine D.F.ok sc_law (fun vs H Q E h => ?_) (fun cdv A outer s H vs Q E hr h => ?_)
  . obtain ⟨a, ns, rfl, _⟩ := h
    rfl
  obtain ⟨a, ns, rfl, hS, hn, q⟩ := h
  refine ⟨_, (z02 (z0B (i := 1) sc_law.nd rfl (Or.inl rfl) (z0I z0T z03 (z0E O_lawdraw hr rfl (z00 (pv 0) (z00 z03 (z00 z03 (z00 z03 z01)))))))
    (z02 (z0B (i := 2) sc_law.nd rfl (Or.inl rfl) (z0E O_lawsigns hr rfl (z00 (pv 0) (z00 z03 (z00 (z0I z0T z03 (z0E O_lawdraw hr rfl (z00 (pv 0) (z00 z03 (z00 z03 (z00 z03 z01)))))) (z00 (pv 1) z01))))))
    (z02 (z0B (i := 3) sc_law.nd rfl (Or.inl rfl) (z0E O_lawdraw hr rfl (z00 (pv 0) (z00 z03 (z00 z03 (z00 z03 z01))))))
    (z02 (z0B (i := 4) sc_law.nd rfl (Or.inl rfl) (z0E O_lawwords hr rfl (z00 (pv 0) (z00 (pv 2) z01))))
    (z02 (z0B (i := 5) sc_law.nd rfl (Or.inl rfl) (z0E O_lawdraw hr rfl (z00 (pv 0) (z00 z03 (z00 z03 (z00 (z0I z0T (z09 z0A rfl B.f_len boot_len (z00 (pv 2) z01)) z03) z01))))))
    (z02 (z0B (i := 6) sc_law.nd rfl (Or.inl rfl) (z2w (z00 z0f (z00 (z0E O_lawrows hr rfl (z00 (pv 0) (z00 z03 (z00 (z0I z0T z03 (z0E O_lawdraw hr rfl (z00 (pv 0) (z00 z03 (z00 z03 (z00 z03 z01)))))) (z00 (pv 1) z01))))) z01))))
    (z02 (z0B (i := 7) sc_law.nd rfl (Or.inr rfl) (z1v (z36 rfl) rfl B.f_dict boot_dict (z00 (z0I z8h (z0I z8h (z2J z6P (pv 2) z3F (z3G (pv 5))) (z2D (z00 (pv 6) z01))) (z2J z6P (pv 2) (z3G (pv 5)) z3F)) z01)))
    (z02 (z0B (i := 8) sc_law.nd rfl (Or.inl rfl) (z2Y PySem.F.plainAttrs_str PySem.F.slot_str_join PySem.F.type_str_join z4O z0f (z00 (pv 4) z01)))
    (z02 (z0B (i := 9) sc_law.nd rfl (Or.inl rfl) (z0E O_lawroom hr rfl (z00 (pv 0) (z00 (pv 4) (z00 (pv 7) (z00 (pv 3) z01))))))
    (z02 (z0B (i := 10) sc_law.nd rfl (Or.inl rfl) (z0E O_lawdraw hr rfl (z00 (pv 0) (z00 z03 (z00 z03 (z00 z03 z01))))))
    (z2e (z0W (z0J z1b (pv 10) z03 (z0K _)) (z07 (z1L (z7u (pv 7) z0f zCG))) z0G)
    (z2e (z0W (PW.pt (z4l (z0J z1b (pv 10) z03 (z0K _)) (z3C (z0J z3Z (z09 z0A rfl B.f_len boot_len (z00 (pv 4) z01)) z03 (z0K _))))) (z02 (z0B (i := 5) sc_law.nd rfl (Or.inl rfl) (z0E O_lawdraw hr rfl (z00 (pv 0) (z00 z03 (z00 z03 (z00 (z09 z0A rfl B.f_len boot_len (z00 (pv 4) z01)) z01))))))
    (z02 (z0B (i := 11) sc_law.nd rfl (Or.inl rfl) (z0E O_lawdraw hr rfl (z00 (pv 0) (z00 z03 (z00 z03 (z00 (z09 z1J rfl B.f_len boot_len (z00 (z0V ix_list (pv 4) (pv 5) (fun _ _ => rfl)) z01)) z01))))))
    (z02 (z0B (i := 12) sc_law.nd rfl (Or.inl rfl) (z0E O_lawsign hr rfl (z00 (z0I z0T z03 (z0I z2u (z0I z0T (z0E O_lawdraw hr rfl (z00 (pv 0) (z00 z03 (z00 z03 (z00 z03 z01))))) (z0I z1a z03 (z09 z0A rfl B.f_len boot_len (z00 (pv 2) z01)))) z03)) z01)))
    (z02 (z0B (i := 13) sc_law.nd rfl (Or.inl rfl) (z0V ix_list (pv 4) (pv 5) (fun _ _ => rfl)))
    (z02 (z8b (z0I z0X (z0I z0X (z2J z8q (pv 13) z3F (z3G (pv 11))) (pv 12)) (z2J z8q (pv 13) (z3G (z0I z0T (pv 11) z03)) z3F)) (z8a (pv 4) (pv 5) set_list))
    (z07 (z0B (i := 8) sc_law.nd rfl (Or.inl rfl) (z2Y PySem.F.plainAttrs_str PySem.F.slot_str_join PySem.F.type_str_join z4O z0f (z00 (pv 4) z01))))))))) z0G)
    (z02 (z0B (i := 14) sc_law.nd rfl (Or.inl rfl) (zC1 O_Fontinit hr z8t rfl (z00 (z7B (z1R (locs := ["_law_sign_here"]) (ix := [7]) rfl (BlkSc.look (dsc := z04 z2m) (N := ["_law_script", "_law_high", "_law_signs_here", "_law_gap", "_law_words_here", "_law_at", "_law_blank", "_law_table", "_law_text", "_law_wide", "_law_fault", "_law_place", "_law_odd", "_law_word", "_law_font", "_law_due_here", "_law_told"]) rfl rfl (by decide +kernel)) (z9p (pv 7)) (fun _ _ _ _ _ _ => (z0N (i := 0) (by decide +kernel : (["_law_sign_here", "_law_table"] : List Str).Nodup) rfl (Or.inl rfl))) (fun _ _ _ _ _ _ => z1Q) (fun _ _ _ _ _ _ => (z2w (z00 (pv 0) (z00 (z0E O_lawbits hr rfl (z00 (z56 (z6X hr) (pv 1) (pv 0) (fun _ _ => rfl)) z01)) z01)))))) (z00 (pv 3) z01))))
    (z02 (z0B (i := 15) sc_law.nd rfl (Or.inl rfl) (z0E O_lawdue hr rfl (z00 (pv 7) (z00 (pv 8) (z00 (pv 4) (z00 (pv 3) (z00 (pv 9) z01)))))))
    (z02 (z0W (z0J z6F (pv 15) z2t (z0K _)) (z02 (z0B (i := 16) sc_law.nd rfl (Or.inl rfl) (z0E O_lawcaught hr rfl (z00 (pv 14) (z00 (pv 8) (z00 (pv 9) z01)))))
    (z02 (z0W (PW.pt (z2E (z0J zA8 (pv 16) z2t (z0K _)) (z1Y (z0J (zAn (n := 0) (zAX hr)) (pv 16) (pv 15) (z0K _))))) (z07 (z0H z1t)) z0G)
    (z07 (z0H (zBD (z09 z0c rfl B.f_isinstance boot_isinstance (z00 (pv 16) (z00 (z0q (v := .ty "tuple") rfl B.f_tuple boot_tuple rfl) z01))) (z2C (z0E O_lawwhole hr rfl (z00 (pv 16) z01)))))))) z0G)
    (z07 (z0H (z0E O_lawbroken hr rfl (z00 (z8I O_broken hr rfl (z00 (pv 14) (z00 (pv 8) (z00 (pv 9) z01)))) (z00 (pv 7) (z00 (pv 8) (z00 (pv 3) (z00 (pv 9) z01))))))))))))))))))))))), ?_⟩
  walk_at "rs"
  refine ⟨a, ns, 1, 10037, 4, rfl, hS, by decide, by decide, by decide, by decide, ?_⟩
  have h0 := z0d (ns := ns) (k := 1) (p := 10037) (m := 4) (by decide)
  generalize z18 ns 1 10037 4 = zh at h0
  walk_at "rs"
  refine ⟨a, ns, 2, 10007, 8, rfl, hS, by decide, by decide, by decide, by decide, ?_⟩
  have m0 := z0d (ns := ns) (k := 2) (p := 10007) (m := 8) (by decide)
  generalize z18 ns 2 10007 8 = zm at m0
  walk_at "rs"
  refine ⟨a, ns, 0, _, _, rfl, hS, by decide, by decide, by omega, by omega, by omega, by omega, fun l ts Ss H1 s1 nl SA hSl hc => ?_⟩
  have chars : ∀ S ∈ Ss, S.c ∈ sgnL /\ S.c ≠ 32 := fun S hS' => by
    obtain ⟨i, hi, e⟩ := List.mem_iff_getElem.mp hS'
    rw [hc i S (by rw [List.getElem?_eq_getElem hi, e])]
    refine ⟨z3U _, fun z => ?_⟩
    have z' : z1o (1 + (z18 ns 0 10039 93 + 37 * (i : Int)) % 93) = z1o 0 := z
    have := z2O z'
    omega
  walk_at "rs"
  refine ⟨a, ns, 4, 10061, 9, rfl, s1.seq hS, by decide, by decide, by decide, by decide, ?_⟩
  have g0 := z0d (ns := ns) (k := 4) (p := 10061) (m := 9) (by decide)
  generalize z18 ns 4 10061 9 = gap at g0
  walk_at "rs"
  refine ⟨a, l, ns, ts, Ss, _, rfl, s1.seq hS, SA, by omega, by omega, chars, fun m ws H2 s2 nm WS hT gw => ?_⟩
  have s12 := s1.trans s2
  have SA2 := SA.mono s2
  have hul := SA.len
  walk_at "rs"
  refine ⟨l, _, rfl, .inl (SqL.of SA2.lst), ?_⟩
  rw [List.length_map, hul]
  walk_at "rs"
  refine ⟨a, ns, 15, 10141, _, rfl, s12.seq hS, by decide, by decide, by decide, by omega, ?_⟩
  have a0 := z0d (ns := ns) (k := 15) (p := 10141) (m := (Ss.length : Int) + 1) (by omega)
  generalize z18 ns 15 10141 ((Ss.length : Int) + 1) = at' at a0
  walk_at "rs"
  refine ⟨a, ns, 19, 10151, 3, rfl, s12.seq hS, by decide, by decide, by decide, by decide, ?_⟩
  have b0 := z0d (ns := ns) (k := 19) (p := 10151) (m := 3) (by decide)
  generalize z18 ns 19 10151 3 = zb at b0
  walk_at "rs"
  refine ⟨a, ns, 17, _, _, rfl, s12.seq hS, by decide, by decide, by omega, by omega, by omega, by omega, fun brl bps brows H3 s3 nbrl nbps RB RR => ?_⟩
  walk_at "rs"
  intro bt nbt
  have s4 := Same.new (o := .tup [.str (Str.ofString " "), .ref brl]) nbt
  have gbt : (upd H3 bt (.tup [.str (Str.ofString " "), .ref brl])) bt = some (.tup [.str (Str.ofString " "), .ref brl]) := z05
  generalize upd H3 bt (.tup [.str (Str.ofString " "), .ref brl]) = H4 at s4 gbt
  have s24 := s3.trans s4
  have SA4 := SA2.mono s24
  obtain ⟨an, rfl⟩ : ∃ an : Nat, at' = (an : Int) := ⟨at'.toNat, by omega⟩
  have han : an <= Ss.length := by omega
  have FOs := z5n SA (by omega) (by omega) hc
  have hTu : ∀ p : Nat, p <= ts.length -> p <= (ts.map V.ref).length := fun p h => by rw [List.length_map]; exact h
  walk_at "rs"
  refine ⟨l, _, rfl, SqL.of SA4.lst, fun p1 np1 => ?_⟩
  rw [z7T (hTu _ (by omega)), <- List.map_take]
  have s5 := Same.new (o := .lst ((ts.take an).map V.ref)) np1
  have g5 : (upd H4 p1 (.lst ((ts.take an).map V.ref))) p1 = some (.lst ((ts.take an).map V.ref)) := z05
  generalize upd H4 p1 (.lst ((ts.take an).map V.ref)) = H5 at s5 g5
  walk_at "rs"
  intro p2 np2
  have s6 := Same.new (o := .lst [.ref bt]) np2
  have g62 : (upd H5 p2 (.lst [.ref bt])) p2 = some (.lst [.ref bt]) := z05
  have g61 := s6 _ _ g5
  generalize upd H5 p2 (.lst [.ref bt]) = H6 at s6 g62 g61
  walk_at "rs"
  refine ⟨p1, p2, _, _, rfl, rfl, g61, g62, by rw [List.length_map, List.length_take]; exact Nat.le_of_lt (z0D (show min an ts.length + 1 <= 1000 by omega)), fun p3 np3 => ?_⟩
  have e3 : (ts.take an).map V.ref ++ [V.ref bt] = (ts.take an ++ [bt]).map V.ref := by rw [List.map_append]; rfl
  rw [e3]
  have s7 := Same.new (o := .lst ((ts.take an ++ [bt]).map V.ref)) np3
  have g7 : (upd H6 p3 (.lst ((ts.take an ++ [bt]).map V.ref))) p3 = some (.lst ((ts.take an ++ [bt]).map V.ref)) := z05
  generalize upd H6 p3 (.lst ((ts.take an ++ [bt]).map V.ref)) = H7 at s7 g7
  have s47 := (s5.trans s6).trans s7
  walk_at "rs"
  refine ⟨l, _, rfl, SqL.of (s47 _ _ SA4.lst), fun p4 np4 => ?_⟩
  rw [z7U (hTu _ (by omega)), <- List.map_drop]
  have s8 := Same.new (o := .lst ((ts.drop an).map V.ref)) np4
  have g84 : (upd H7 p4 (.lst ((ts.drop an).map V.ref))) p4 = some (.lst ((ts.drop an).map V.ref)) := z05
  have g83 := s8 _ _ g7
  generalize upd H7 p4 (.lst ((ts.drop an).map V.ref)) = H8 at s8 g84 g83
  walk_at "rs"
  refine ⟨p3, p4, _, _, rfl, rfl, g83, g84, by rw [List.length_map, List.length_map, List.length_append, List.length_take, List.length_drop]; exact Nat.le_of_lt (z0D (show min an ts.length + 1 + (ts.length - an) <= 1000 by omega)), fun p5 np5 => ?_⟩
  have e5 : (ts.take an ++ [bt]).map V.ref ++ (ts.drop an).map V.ref = (ts.take an ++ ([bt] ++ ts.drop an)).map V.ref := by rw [<- List.map_append, List.append_assoc]
  rw [e5]
  have s9 := Same.new (o := .lst ((ts.take an ++ ([bt] ++ ts.drop an)).map V.ref)) np5
  have g9 : (upd H8 p5 (.lst ((ts.take an ++ ([bt] ++ ts.drop an)).map V.ref))) p5 = some (.lst ((ts.take an ++ ([bt] ++ ts.drop an)).map V.ref)) := z05
  generalize upd H8 p5 (.lst ((ts.take an ++ ([bt] ++ ts.drop an)).map V.ref)) = H9 at s9 g9
  have s49 := (s47.trans s8).trans s9
  have bl : Str.ofString " " = one 32 := by decide
  have SB : ∀ (i : Nat) t S, (ts.take an ++ ([bt] ++ ts.drop an))[i]? = some t -> (z5m Ss an ⟨32, (1 + zb).toNat, brows⟩)[i]? = some S -> SgAt (1 + zh).toNat H9 t S :=
    zAm hul (fun i t S e1 e2 => (SA4.at' i t S e1 e2).mono s49) ⟨brl, bps, by rw [<- bl]; exact s49 _ _ gbt, (RB.mono s4).mono s49, RR⟩
  have FO := FOs.ins (b := ⟨32, (1 + zb).toNat, brows⟩) (by omega) rfl (fun S hS' => (chars S hS').2) RR an
  have hin : (z5m Ss an ⟨32, (1 + zb).toNat, brows⟩).length = Ss.length + 1 := (z1N _ _ _).length_eq
  have hul2 : (ts.take an ++ ([bt] ++ ts.drop an)).length = (z5m Ss an ⟨32, (1 + zb).toNat, brows⟩).length := by
    rw [hin, List.length_append, List.length_append, List.length_take, List.length_drop]
    show min an ts.length + (1 + (ts.length - an)) = Ss.length + 1
    omega
  have knI : ∀ c, known Ss c = true -> known (z5m Ss an ⟨32, (1 + zb).toNat, brows⟩) c = true := fun c h => z7S h
  have notO : ∀ S ∈ z5m Ss an ⟨32, (1 + zb).toNat, brows⟩, S ∈ Ss \/ S.c = 32 := fun S hS' => by
    rcases List.mem_cons.mp ((z1N _ _ _).mem_iff.mp hS') with e | e
    . exact .inr (by rw [e])
    . exact .inl e
  have some1 : ∃ S ∈ z5m Ss an ⟨32, (1 + zb).toNat, brows⟩, S.c ≠ 32 := by
    have h1 : 0 < Ss.length := by omega
    exact ⟨Ss[0], (z1N _ _ _).mem_iff.mpr (List.mem_cons_of_mem _ (List.getElem_mem h1)), (chars _ (List.getElem_mem h1)).2⟩
  have kn32 : known (z5m Ss an ⟨32, (1 + zb).toNat, brows⟩) 32 = true := List.any_eq_true.mpr ⟨_, (z1N _ _ _).mem_iff.mpr List.mem_cons_self, by simp⟩
  generalize z5m Ss an ⟨32, (1 + zb).toNat, brows⟩ = St at SB FO hin hul2 knI notO some1 kn32
  obtain ⟨ls, hll, hpr, hrw⟩ := z5E hul2 SB
  walk_at "rs"
  refine ⟨p5, _, kvF St ls, rfl, SqL.of g9, by rw [z2A hll, hul2], by rw [z4Z FO hll, z2A hll]; exact Nat.le_of_lt (z0D (by omega)), hpr, fun d nd => ?_⟩
  rw [z4Z FO hll]
  have s10 := Same.new (o := .dK (kvF St ls)) nd
  have TA10 : TblAt (1 + zh).toNat (upd H9 d (.dK (kvF St ls))) d St := ⟨ls, hll, z05, fun i S l' e1 e2 => let ⟨ps, r⟩ := hrw i S l' e1 e2; ⟨ps, r.mono s10⟩⟩
  generalize upd H9 d (.dK (kvF St ls)) = H10 at s10 TA10
  have s210 := (s24.trans s49).trans s10
  have nd2 : H2 d = none := (s24.trans s49).free nd
  have gw10 := s210 _ _ gw
  have blS : Str.ofString " " = blankS := by decide
  walk_at "rs"
  refine ⟨_, m, ws, rfl, rfl, SqL.of gw10, by rw [blS]; exact Nat.le_trans WS.joinN (by decide), ?_⟩
  rw [show Str.join (Str.ofString " ") ws = JB ws by rw [blS]; rfl]
  walk_at "rs"
  refine ⟨a, m, d, ns, gap, ws, St, _, rfl, (s12.trans s210).seq hS, gw10, WS, fun w hw c hc' => knI c (hT w hw c hc'), TA10, FO, fun wide H11 s11 => ?_⟩
  have s211 := s210.trans s11
  have TA11 := TA10.mono s11
  walk_at "rs"
  refine ⟨a, ns, 21, 10159, 6, rfl, (s12.trans s211).seq hS, by decide, by decide, by decide, by decide, ?_⟩
  generalize z18 ns 21 10159 6 = fault
  refine ⟨fun σ' H' => ∃ Sf, σ' = [some (.ref a), some (.int (1 + zh)), some (.ref l), some (.int gap), some (.ref m), some (.int (an : Int)), some (.ref bt), some (.ref d), some (.str (JB ws)), some (.int wide), some (.int fault), none, none, none, none, none, none] /\ Same H2 H' /\ TblAt (1 + zh).toNat H' d Sf /\ FontOk (1 + zh).toNat Sf, ?_, ?_⟩
  . walk_at "rs"
    refine z26 (fun _ => ?_) (fun _ => ?_)
    . obtain ⟨ls2, hl2, gd2, hr2⟩ := id TA11
      obtain ⟨j, S, p, x1, x2, x3, x4⟩ := z3T hl2 kn32
      walk_at "rs"
      refine ⟨.inl ⟨_, .inl gd2⟩, ?_⟩
      walk_at "rs"
      refine ⟨kvF St ls2, Sum.inr (one 32), .ref p, gd2, by rw [bl]; rfl, x4, ?_⟩
      exact ⟨z2H St 32, rfl, s211.put nd2, TblAt.less hl2 gd2 hr2, FO.less some1⟩
    . exact ⟨St, rfl, s211, TA11, FO⟩
  rintro σ1 H12 ⟨Sf, rfl, s12', TA12, FO12⟩
  have hSm := WS.many
  refine ⟨fun σ' H' => ∃ ws' v5 v11 v12 v13, σ' = [some (.ref a), some (.int (1 + zh)), some (.ref l), some (.int gap), some (.ref m), v5, some (.ref bt), some (.ref d), some (.str (JB ws')), some (.int wide), some (.int fault), v11, v12, v13, none, none, none] /\ Same H1 H' /\ TblAt (1 + zh).toNat H' d Sf /\ Words ws' /\ H' m = some (.lst (ws'.map V.str)), ?_, ?_⟩
  . have gm12 := s12' _ _ gw
    have SA12 := SA2.mono s12'
    have hS12 := (s12.trans s12').seq hS
    walk_at "rs"
    refine z26 (fun _ => ?_) (fun _ => ?_)
    . walk_at "rs"
      refine ⟨m, _, rfl, .inl (SqL.of gm12), ?_⟩
      rw [List.length_map]
      walk_at "rs"
      refine z26 (fun c => ?_) (fun c => ?_)
      . walk_at "rs"
        refine ⟨m, _, rfl, .inl (SqL.of gm12), ?_⟩
        rw [List.length_map]
        refine ⟨a, ns, 23, 10163, _, rfl, hS12, by decide, by decide, by decide, by omega, ?_⟩
        have x0 := z0d (ns := ns) (k := 23) (p := 10163) (m := (ws.length : Int)) (by omega)
        generalize z18 ns 23 10163 (ws.length : Int) = xa at x0
        obtain ⟨xn, rfl⟩ : ∃ xn : Nat, xa = (xn : Int) := ⟨xa.toNat, by omega⟩
        have hxn : xn < ws.length := by omega
        have atw : atI (ws.map V.str) (xn : Int) = some (.str ws[xn]) := z0i (by rw [List.getElem?_map, List.getElem?_eq_getElem hxn]; rfl)
        have hw4 := WS.len _ (List.getElem_mem hxn)
        have hwx := List.getElem?_eq_getElem hxn
        generalize ws[xn] = w at atw hw4 hwx
        have sz : w.length <= sizeLine := Nat.le_of_lt (z0D (by omega))
        walk_at "rs"
        refine ⟨m, _, _, _, rfl, rfl, SqL.of gm12, atw, ?_⟩
        walk_at "rs"
        refine ⟨sz, ?_⟩
        refine ⟨a, ns, 25, 10169, _, rfl, hS12, by decide, by decide, by decide, by omega, ?_⟩
        have y0 := z0d (ns := ns) (k := 25) (p := 10169) (m := (w.length : Int)) (by omega)
        generalize z18 ns 25 10169 (w.length : Int) = pl at y0
        walk_at "rs"
        refine ⟨a, ns, 0, 10039, 93, rfl, hS12, by decide, by decide, by decide, by decide, ?_⟩
        walk_at "rs"
        refine ⟨l, _, rfl, .inl (SqL.of SA12.lst), ?_⟩
        walk_at "rs"
        generalize hod : 1 + (z18 ns 0 10039 93 + 37 * ((ts.map V.ref).length : Int)) % 93 = od
        have c1 : z1o od ∈ sgnL := z3U _
        have c2 : z1o od ≠ 32 := fun z => by
          have z' : z1o od = z1o 0 := z
          have := z2O z'
          omega
        refine ⟨m, _, _, _, rfl, rfl, SqL.of gm12, atw, ?_⟩
        walk_at "rs"
        refine ⟨sz, ?_⟩
        have sl : ∀ n : Nat, n <= 5000 -> n <= sizeLine := fun n h => Nat.le_trans h (by decide)
        have cl1 := z3N w none (some pl)
        have cl2 := z3N w (some (pl + 1)) none
        have so1 : (sgn od).length = 1 := rfl
        have lz : (z27 w none (some pl) ++ sgn od).length = (z27 w none (some pl)).length + 1 := by rw [z0Q, so1]
        walk_at "rs"
        refine ⟨sl _ (by rw [so1]; omega), ?_⟩
        walk_at "rs"
        refine ⟨sz, ?_⟩
        refine ⟨_, _, rfl, rfl, sl _ (by rw [lz]; omega), ?_⟩
        have hw0 : ws ≠ [] := fun e => by rw [e] at hxn; exact absurd hxn (Nat.not_lt_zero _)
        have wl' := z45 (c := z1o od) y0.1 y0.2
        have wc' := z5G (w := w) (c := z1o od) y0.1 y0.2
        have esg : sgn od = one (z1o od) := rfl
        rw [esg]
        generalize z27 w none (some pl) ++ one (z1o od) ++ z27 w (some (pl + 1)) none = w' at wl' wc'
        have WS' : Words (ws.set xn w') := WS.set (c := z1o od) hwx wl' (fun x hx => by
          rw [wc'] at hx
          rcases List.mem_append.mp hx with e | e
          . exact .inl (List.mem_of_mem_take e)
          . rcases List.mem_cons.mp e with e | e
            . exact .inr e
            . exact .inl (List.mem_of_mem_drop e)) c1 c2
        walk_at "rs"
        refine ⟨m, _, _, xn, rfl, rfl, gm12, ?_, ?_⟩
        . unfold ixN
          rw [List.length_map, if_pos (by omega), if_pos (by omega), Int.toNat_natCast]
        rw [<- List.map_set]
        have TA13 := TA12.putS (o := .lst ((ws.set xn w').map V.str)) gm12 hw0
        have gm13 : (upd H12 m (.lst ((ws.set xn w').map V.str))) m = some (.lst ((ws.set xn w').map V.str)) := z05
        have s113 : Same H1 (upd H12 m (.lst ((ws.set xn w').map V.str))) := (s2.trans s12').put nm
        generalize upd H12 m (.lst ((ws.set xn w').map V.str)) = H13 at TA13 gm13 s113
        walk_at "rs"
        refine ⟨_, m, ws.set xn w', rfl, rfl, SqL.of gm13, by rw [blS]; exact Nat.le_trans WS'.joinN (by decide), ?_⟩
        rw [show Str.join (Str.ofString " ") (ws.set xn w') = JB (ws.set xn w') by rw [blS]; rfl]
        exact ⟨ws.set xn w', _, _, _, _, rfl, s113, TA13, WS', gm13⟩
      . exact ⟨ws, _, _, _, _, rfl, s2.trans s12', TA12, WS, gm12⟩
    . exact ⟨ws, _, _, _, _, rfl, s2.trans s12', TA12, WS, gm12⟩
  rintro σ2 H13 ⟨ws', v5, v11, v12, v13, rfl, s113, TA13, WS', gm13⟩
  obtain ⟨ls3, hl3, gd3, hr3⟩ := id TA13
  refine ⟨d, kvF Sf ls3, gd3, ?_⟩
  refine ⟨_, rfl, d, kvF Sf ls3, rfl, gd3, fun ob => ?_⟩
  have hk3 := z2A hl3
  have hn3 := FO12.n2
  have gf : (upd H13 d (.frz ob (.dK (kvF Sf ls3)))) d = some (.frz ob (.dK (kvF Sf ls3))) := z05
  have hr14 : ∀ (i : Nat) S l, Sf[i]? = some S -> ls3[i]? = some l -> ∃ ps, RowsAt (upd H13 d (.frz ob (.dK (kvF Sf ls3)))) l ps S.rows := fun i S l e1 e2 => let ⟨ps, r⟩ := hr3 i S l e1 e2; ⟨ps, r.putD gd3⟩
  have sm14 : ∀ b o, b ≠ d -> H13 b = some o -> (upd H13 d (.frz ob (.dK (kvF Sf ls3)))) b = some o := fun b o n e => by rw [z06 n]; exact e
  generalize upd H13 d (.frz ob (.dK (kvF Sf ls3))) = H14 at gf hr14 sm14
  refine z1S (n := Sf.length) (fun i σ zs H2 => ∃ (v : Option V) (us : List Addr), σ = [v, some (.ref d)] /\ zs = us.map V.ref /\ Same H14 H2 /\ us.length = i /\ ∀ (j : Nat) t S, us[j]? = some t -> Sf[j]? = some S -> PrAt (1 + zh).toNat H2 t S)
    ⟨none, [], rfl, rfl, Same.refl _, rfl, (fun _ _ _ h => nomatch h)⟩ (Nat.le_of_lt (z0D (by omega))) ?_ ?_ ?_ ?_ ?_
  . rintro i σ zs H2 ⟨v, us, _, rfl, _, hi, _⟩
    rw [List.length_map, hi]
  . rintro σ zs H2 ⟨v, us, _, _, s2, _⟩
    exact ⟨s2 _ _ gf, by rw [hk3]; exact Nat.le_refl _⟩
  . rintro i σ zs H2 hi ⟨v, us, _, _, s2, _⟩
    exact ⟨s2 _ _ gf, by rw [hk3]; exact hi⟩
  . rintro i σ zs H2 y H' Z hi ⟨v, us, rfl, rfl, s2, hu, gp⟩ ⟨eH, kk, vv, hkv, rfl⟩ hZ
    subst eH
    rw [z57 hl3 hi] at hkv
    cases hkv
    have knc : known Sf (Sf[i]).c = true := z3p (List.getElem_mem hi)
    obtain ⟨j, S, p, e1, e2, e3, e4⟩ := z3T hl3 knc
    have hj : j < Sf.length := (List.getElem?_eq_some_iff.mp e1).1
    have eij : j = i := by
      have h1 : (Sf.map (·.c))[j]'(by rw [List.length_map]; exact hj) = (Sf.map (·.c))[i]'(by rw [List.length_map]; exact hi) := by
        rw [List.getElem_map, List.getElem_map]
        have := (List.getElem?_eq_some_iff.mp e1).2
        rw [this]
        exact e3
      exact (List.getElem_inj FO12.nd).mp h1
    subst eij
    rw [List.getElem?_eq_getElem hj] at e1
    cases e1
    obtain ⟨ps, RA0⟩ := hr14 j _ p (List.getElem?_eq_getElem hj) e2
    have RA1 := RA0.mono s2
    have R1 := FO12.rect _ (List.getElem_mem hj)
    have gg : DGet H' d (.str (one (Sf[j]).c)) (some (.ref p)) := .inl ⟨_, Sum.inr (one (Sf[j]).c), .inr ⟨ob, s2 _ _ gf⟩, rfl, e4.symm⟩
    walk_at "rs"
    refine ⟨d, .ref p, rfl, gg, ?_⟩
    refine ⟨p, ps, _, _, _, rfl, RA1, R1, fun pc H3 s3 PC => ?_⟩
    walk_at "rs"
    intro u nu
    refine hZ _ _ _ ⟨_, us ++ [u], rfl, by rw [List.map_append]; rfl, (s2.trans s3).trans (Same.new nu), by rw [List.length_append, hu]; rfl, z87 (fun t S h => (h.mono s3).mono (Same.new nu)) gp fun S e => ?_⟩
    rw [hu, List.getElem?_eq_getElem hj] at e
    cases e
    exact ⟨pc, z05, PC.mono (Same.new nu), R1⟩
  rintro σ zs H15 ⟨v, us, rfl, rfl, s15, hu, gp⟩ lp nlp
  have s16 := Same.new (o := .lst (us.map V.ref)) nlp
  have gf16 := s16 _ _ (s15 _ _ gf)
  have gl16 : (upd H15 lp (.lst (us.map V.ref))) lp = some (.lst (us.map V.ref)) := z05
  have gp16 : ∀ (j : Nat) t S, us[j]? = some t -> Sf[j]? = some S -> PrAt (1 + zh).toNat (upd H15 lp (.lst (us.map V.ref))) t S := fun j t S e1 e2 => (gp j t S e1 e2).mono s16
  have s1416 := s15.trans s16
  generalize upd H15 lp (.lst (us.map V.ref)) = H16 at s16 gf16 gl16 gp16 s1416
  refine ⟨ob, gf16, ?_⟩
  have s17 : Same H13 (upd H16 d (.dK (kvF Sf ls3))) := fun b o e => by
    by_cases n : b = d
    . rw [n, gd3] at e
      cases e
      rw [n, z05]
    . rw [z06 n]
      exact s1416 b o (sm14 b o n e)
  have PA17 : PrsAt (1 + zh).toNat (upd H16 d (.dK (kvF Sf ls3))) lp us Sf := ⟨by rw [z06 (z1H gl16 gf16 fun z => nomatch z)]; exact gl16, hu, fun j t S e1 e2 => by
    obtain ⟨p, t1, ⟨pp, pm, c1, c2, c3⟩, R⟩ := gp16 j t S e1 e2
    exact ⟨p, by rw [z06 (z1H t1 gf16 fun z => nomatch z)]; exact t1, ⟨pp, pm, by rw [z06 (z1H c1 gf16 fun z => nomatch z)]; exact c1, by rw [z06 (z1H c2 gf16 fun z => nomatch z)]; exact c2, by rw [z06 (z1H c3 gf16 fun z => nomatch z)]; exact c3⟩, R⟩⟩
  generalize upd H16 d (.dK (kvF Sf ls3)) = H17 at s17 PA17
  walk_at "rs"
  intro x1 dx1 nx1 ndx1 nxd1
  have nx1' : (upd H17 dx1 (.own x1)) x1 = none := (z06 (Ne.symm nxd1)).trans nx1
  have s18 : Same H17 (upd (upd H17 dx1 (.own x1)) x1 (.ins c_Font dx1 [])) := (Same.new ndx1).trans (Same.new nx1')
  refine ⟨x1, dx1, lp, us, Sf, _, gap, rfl, z05, PA17.mono s18, FO12, g0.1, by omega, fun H18 sb18 FA18 => ⟨rfl, ?_⟩⟩
  have t18 : Same H17 H18 := sb18.fresh nx1 ndx1
  have s1318 := s17.trans t18
  have TA18 := TA13.mono s1318
  walk_at "rs"
  refine ⟨d, m, ws', Sf, _, gap, wide, rfl, TA18, FO12, WS', s1318 _ _ gm13, fun t c i H19 hb s19 ht => ?_, fun n hb hW => ?_, fun hb fit => ?_⟩
  . walk_at "rs"
    refine ⟨x1, ws', Sf, _, gap, wide, rfl, FA18.mono s19, FO12, g0.1, by omega, WS', .inl ⟨c, i, hb⟩, fun t' c' i' H20 hb' s20 ht' => ?_, fun n H20 hb' => ?_⟩
    . rw [hb] at hb'
      cases hb'
      walk_at "rs"
      refine .inr ⟨z5o ht' (s20 _ _ ht), ?_⟩
      walk_at "rs"
      refine ⟨_, "tuple", "tuple", rfl, by decide, by simp only [tyS, ht'], ?_⟩
      walk_at "rs"
      exact z3k rfl (q _)
    . rw [hb] at hb'
      cases hb'
  . walk_at "rs"
    refine ⟨x1, ws', Sf, _, gap, wide, rfl, FA18, FO12, g0.1, by omega, WS', .inr ⟨hb, n, hW⟩, fun t' c' i' H20 hb' => ?_, fun n' H20 _ hW' s20 => ?_⟩
    . rw [hb] at hb'
      cases hb'
    . have en : n' = n := by
        obtain ⟨h1, h2, h3⟩ := hW
        obtain ⟨h1', h2', h3'⟩ := hW'
        rcases Nat.lt_trichotomy n' n with e | e | e
        . have := h2 n' _ e (List.getElem?_eq_getElem h1')
          omega
        . exact e
        . have := h2' n _ e (List.getElem?_eq_getElem h1)
          omega
      subst en
      walk_at "rs"
      refine .inl ⟨rfl, ?_⟩
      refine ⟨_, rfl, ?_⟩
      rw [decide_eq_true rfl]
      refine z5T ?_
      walk_at "rs"
      refine ⟨_, "tuple", "int", rfl, by decide, rfl, ?_⟩
      walk_at "rs"
      exact q _
  . walk_at "rs"
    refine ⟨x1, ws', Sf, _, gap, wide, rfl, FA18, FO12, g0.1, by omega, WS', fun _ _ lb gs H20 s20 nlb GS glb => ?_, fun c i d' H20 hb' => ?_, fun n d' H20 _ hn _ hw => ?_⟩
    . walk_at "rs"
      exact ⟨lb, d, ws', gs, Sf, _, gap, wide, rfl, glb, GS, WS', TA18.mono s20, FO12, hb, fun H21 s21 => q _⟩
    . rw [hb] at hb'
      cases hb'
    . have := fit _ (List.getElem_mem hn)
      omega
end
theorem all_mk {l : PySem.W.OpenLaw} {w : World} {K : PySem.W.Frag} {h : Heap} {mg : Str -> Option Value} {fa f1 f2 f3 f4 f5 f6 f7 f8 f9 f10 f11 f12 f13 f14 f15 f16 f17 f18 f19 f20 f21 f22 f23 f24 f25 f26 f27 f28 f29 : Addr} (X : K.In h) (G : h.Ns mainGlobals mg) (hfa : mg "law" = some (.ref fa))
    {c_Font : Addr}
    {od1 an1 : Option Addr} {sl1 : Array (Option Value)} {oc1 kV1 dc1 pm1 cd1 ct1 : Value}
    {od2 an2 : Option Addr} {sl2 : Array (Option Value)} {oc2 kV2 dc2 pm2 cd2 ct2 : Value}
    {od3 an3 : Option Addr} {sl3 : Array (Option Value)} {oc3 kV3 dc3 pm3 cd3 ct3 : Value}
    {od4 an4 : Option Addr} {sl4 : Array (Option Value)} {oc4 kV4 dc4 pm4 cd4 ct4 : Value}
    {od5 an5 : Option Addr} {sl5 : Array (Option Value)} {oc5 kV5 dc5 pm5 cd5 ct5 : Value}
    {od6 an6 : Option Addr} {sl6 : Array (Option Value)} {oc6 kV6 dc6 pm6 cd6 ct6 : Value}
    {od7 an7 : Option Addr} {sl7 : Array (Option Value)} {oc7 kV7 dc7 pm7 cd7 ct7 : Value}
    {od8 an8 : Option Addr} {sl8 : Array (Option Value)} {oc8 kV8 dc8 pm8 cd8 ct8 : Value}
    {od9 an9 : Option Addr} {sl9 : Array (Option Value)} {oc9 kV9 dc9 pm9 cd9 ct9 : Value}
    {od10 an10 : Option Addr} {sl10 : Array (Option Value)} {oc10 kV10 dc10 pm10 cd10 ct10 : Value}
    {od11 an11 : Option Addr} {sl11 : Array (Option Value)} {oc11 kV11 dc11 pm11 cd11 ct11 : Value}
    {od12 an12 : Option Addr} {sl12 : Array (Option Value)} {oc12 kV12 dc12 pm12 cd12 ct12 : Value}
    {od13 an13 ot13 : Option Addr} {sl13 st13 : Array (Option Value)} {oc13 kV13 dc13 pm13 cd13 ct13 ov13 : Value} {T13 : Addr} {nt13 : Nat}
    {od14 an14 : Option Addr} {sl14 : Array (Option Value)} {oc14 kV14 dc14 pm14 cd14 ct14 : Value}
    {od15 an15 : Option Addr} {sl15 : Array (Option Value)} {oc15 kV15 dc15 pm15 cd15 ct15 : Value}
    {od16 an16 : Option Addr} {sl16 : Array (Option Value)} {oc16 kV16 dc16 pm16 cd16 ct16 : Value}
    {od17 an17 : Option Addr} {sl17 : Array (Option Value)} {oc17 kV17 dc17 pm17 cd17 ct17 : Value}
    {od18 an18 : Option Addr} {sl18 : Array (Option Value)} {oc18 kV18 dc18 pm18 cd18 ct18 : Value}
    {od19 an19 : Option Addr} {sl19 : Array (Option Value)} {oc19 kV19 dc19 pm19 cd19 ct19 : Value}
    {od20 an20 : Option Addr} {sl20 : Array (Option Value)} {oc20 kV20 dc20 pm20 cd20 ct20 : Value}
    {od21 an21 : Option Addr} {sl21 : Array (Option Value)} {oc21 kV21 dc21 pm21 cd21 ct21 : Value}
    {od22 an22 : Option Addr} {sl22 : Array (Option Value)} {oc22 kV22 dc22 pm22 cd22 ct22 : Value}
    {od23 an23 : Option Addr} {sl23 : Array (Option Value)} {oc23 kV23 dc23 pm23 cd23 ct23 : Value}
    {od24 an24 : Option Addr} {sl24 : Array (Option Value)} {oc24 kV24 dc24 pm24 cd24 ct24 : Value}
    {od25 an25 : Option Addr} {sl25 : Array (Option Value)} {oc25 kV25 dc25 pm25 cd25 ct25 : Value}
    {od26 an26 : Option Addr} {sl26 : Array (Option Value)} {oc26 kV26 dc26 pm26 cd26 ct26 : Value}
    {od27 an27 : Option Addr} {sl27 : Array (Option Value)} {oc27 kV27 dc27 pm27 cd27 ct27 : Value}
    {od28 an28 : Option Addr} {sl28 : Array (Option Value)} {oc28 kV28 dc28 pm28 cd28 ct28 : Value}
    {od29 an29 : Option Addr} {sl29 : Array (Option Value)} {oc29 kV29 dc29 pm29 cd29 ct29 : Value}
    {c_GlowError c_NoFont c_NoSign c_TooWide : Addr}
    {ia_NoSign : Addr} {iod_NoSign ian_NoSign : Option Addr} {isl_NoSign : Array (Option Value)} {ioc_NoSign ikV_NoSign idc_NoSign ipm_NoSign icd_NoSign ict_NoSign : Value}
    {ia_TooWide : Addr} {iod_TooWide ian_TooWide : Option Addr} {isl_TooWide : Array (Option Value)} {ioc_TooWide ikV_TooWide idc_TooWide ipm_TooWide icd_TooWide ict_TooWide : Value}
    (cm_Font : PySem.W.nsIn K mainGlobals "Font" = some (some (.ref c_Font))) (pg_Font : PySem.W.plainGet K c_Font Str.empty = true) (hd_Font : PySem.W.hasDictIn K c_Font = true) (po_Font : PySem.W.plainOver K c_Font = true) (sa_Font : PySem.W.findIn K (.ref c_Font) "__setattr__" = some (some (.builtin "object.__setattr__"))) (mk_Font : PySem.W.makesIn K c_Font = true) (kc_Font : PySem.W.keepIn K (.ref c_Font) = true)
    (na_Font_pics : PySem.W.findIn K (.ref c_Font) "pics" = some none)
    (na_Font_high : PySem.W.findIn K (.ref c_Font) "high" = some none)
    (na_Font_gap : PySem.W.findIn K (.ref c_Font) "gap" = some none)
    (a1 : PySem.W.nsIn K mainGlobals "is_whole" = some (some (.ref f1))) (l1 : K.lookup f1 = some ⟨oc1, od1, .func (PySem.W.fnOf "is_whole" "is_whole" (z0F z1B) (z0C z1B) (z04 z1B) .none kV1 dc1 pm1 an1 cd1 ct1), sl1⟩) (c1 : PySem.W.codeIn K cd1 "is_whole" = true) (k1 : PySem.W.keepIn K (.ref f1) = true)
    (a2 : PySem.W.nsIn K mainGlobals "is_within" = some (some (.ref f2))) (l2 : K.lookup f2 = some ⟨oc2, od2, .func (PySem.W.fnOf "is_within" "is_within" (z0F z0s) (z0C z0s) (z04 z0s) .none kV2 dc2 pm2 an2 cd2 ct2), sl2⟩) (c2 : PySem.W.codeIn K cd2 "is_within" = true) (k2 : PySem.W.keepIn K (.ref f2) = true)
    (a3 : PySem.W.nsIn K mainGlobals "is_side" = some (some (.ref f3))) (l3 : K.lookup f3 = some ⟨oc3, od3, .func (PySem.W.fnOf "is_side" "is_side" (z0F z1T) (z0C z1T) (z04 z1T) .none kV3 dc3 pm3 an3 cd3 ct3), sl3⟩) (c3 : PySem.W.codeIn K cd3 "is_side" = true) (k3 : PySem.W.keepIn K (.ref f3) = true)
    (a4 : PySem.W.nsIn K mainGlobals "paint_room" = some (some (.ref f4))) (l4 : K.lookup f4 = some ⟨oc4, od4, .func (PySem.W.fnOf "paint_room" "paint_room" (z0F z0j) (z0C z0j) (z04 z0j) .none kV4 dc4 pm4 an4 cd4 ct4), sl4⟩) (c4 : PySem.W.codeIn K cd4 "paint_room" = true) (k4 : PySem.W.keepIn K (.ref f4) = true)
    (a5 : PySem.W.nsIn K mainGlobals "is_bits_row" = some (some (.ref f5))) (l5 : K.lookup f5 = some ⟨oc5, od5, .func (PySem.W.fnOf "is_bits_row" "is_bits_row" (z0F z0k) (z0C z0k) (z04 z0k) .none kV5 dc5 pm5 an5 cd5 ct5), sl5⟩) (c5 : PySem.W.codeIn K cd5 "is_bits_row" = true) (k5 : PySem.W.keepIn K (.ref f5) = true)
    (a6 : PySem.W.nsIn K mainGlobals "has_form" = some (some (.ref f6))) (l6 : K.lookup f6 = some ⟨oc6, od6, .func (PySem.W.fnOf "has_form" "has_form" (z0F z1C) (z0C z1C) (z04 z1C) .none kV6 dc6 pm6 an6 cd6 ct6), sl6⟩) (c6 : PySem.W.codeIn K cd6 "has_form" = true) (k6 : PySem.W.keepIn K (.ref f6) = true)
    (a7 : PySem.W.nsIn K mainGlobals "is_picture" = some (some (.ref f7))) (l7 : K.lookup f7 = some ⟨oc7, od7, .func (PySem.W.fnOf "is_picture" "is_picture" (z0F z0Z) (z0C z0Z) (z04 z0Z) .none kV7 dc7 pm7 an7 cd7 ct7), sl7⟩) (c7 : PySem.W.codeIn K cd7 "is_picture" = true) (k7 : PySem.W.keepIn K (.ref f7) = true)
    (a8 : PySem.W.nsIn K mainGlobals "words_of" = some (some (.ref f8))) (l8 : K.lookup f8 = some ⟨oc8, od8, .func (PySem.W.fnOf "words_of" "words_of" (z0F z1D) (z0C z1D) (z04 z1D) .none kV8 dc8 pm8 an8 cd8 ct8), sl8⟩) (c8 : PySem.W.codeIn K cd8 "words_of" = true) (k8 : PySem.W.keepIn K (.ref f8) = true)
    (a9 : PySem.W.nsIn K mainGlobals "broken" = some (some (.ref f9))) (l9 : K.lookup f9 = some ⟨oc9, od9, .func (PySem.W.fnOf "broken" "broken" (z0F z1U) (z0C z1U) (z04 z1U) .none kV9 dc9 pm9 an9 cd9 ct9), sl9⟩) (c9 : PySem.W.codeIn K cd9 "broken" = true) (k9 : PySem.W.keepIn K (.ref f9) = true)
    (a10 : PySem.W.nsIn K mainGlobals "is_sign" = some (some (.ref f10))) (l10 : K.lookup f10 = some ⟨oc10, od10, .func (PySem.W.fnOf "is_sign" "is_sign" (z0F z1V) (z0C z1V) (z04 z1V) .none kV10 dc10 pm10 an10 cd10 ct10), sl10⟩) (c10 : PySem.W.codeIn K cd10 "is_sign" = true) (k10 : PySem.W.keepIn K (.ref f10) = true)
    (a11 : PySem.W.nsIn K mainGlobals "is_pair" = some (some (.ref f11))) (l11 : K.lookup f11 = some ⟨oc11, od11, .func (PySem.W.fnOf "is_pair" "is_pair" (z0F z1W) (z0C z1W) (z04 z1W) .none kV11 dc11 pm11 an11 cd11 ct11), sl11⟩) (c11 : PySem.W.codeIn K cd11 "is_pair" = true) (k11 : PySem.W.keepIn K (.ref f11) = true)
    (a12 : PySem.W.nsIn K mainGlobals "pics_by_signs" = some (some (.ref f12))) (l12 : K.lookup f12 = some ⟨oc12, od12, .func (PySem.W.fnOf "pics_by_signs" "pics_by_signs" (z0F z0O) (z0C z0O) (z04 z0O) .none kV12 dc12 pm12 an12 cd12 ct12), sl12⟩) (c12 : PySem.W.codeIn K cd12 "pics_by_signs" = true) (k12 : PySem.W.keepIn K (.ref f12) = true)
    (a13 : PySem.W.findIn K (.ref c_Font) "__init__" = some (some (.ref f13))) (l13 : K.lookup f13 = some ⟨oc13, od13, .func (PySem.W.fnOf "__init__" "Font.__init__" (z0F z19) (z0C z19) (z04 z19) (.ref T13) kV13 dc13 pm13 an13 cd13 ct13), sl13⟩) (c13 : PySem.W.codeIn K cd13 "Font.__init__" = true) (k13 : PySem.W.keepIn K (.ref f13) = true) (t13 : K.lookup T13 = some ⟨ov13, ot13, .seq #[.int 1 ka13] nt13, st13⟩)
    (i13 : PySem.W.isFn K (.ref f13) = true)
    (a14 : PySem.W.findIn K (.ref c_Font) "pics_of" = some (some (.ref f14))) (l14 : K.lookup f14 = some ⟨oc14, od14, .func (PySem.W.fnOf "pics_of" "Font.pics_of" (z0F z0a) (z0C z0a) (z04 z0a) .none kV14 dc14 pm14 an14 cd14 ct14), sl14⟩) (c14 : PySem.W.codeIn K cd14 "Font.pics_of" = true) (k14 : PySem.W.keepIn K (.ref f14) = true)
    (i14 : PySem.W.isFn K (.ref f14) = true)
    (a15 : PySem.W.findIn K (.ref c_Font) "width" = some (some (.ref f15))) (l15 : K.lookup f15 = some ⟨oc15, od15, .func (PySem.W.fnOf "width" "Font.width" (z0F z0l) (z0C z0l) (z04 z0l) .none kV15 dc15 pm15 an15 cd15 ct15), sl15⟩) (c15 : PySem.W.codeIn K cd15 "Font.width" = true) (k15 : PySem.W.keepIn K (.ref f15) = true)
    (i15 : PySem.W.isFn K (.ref f15) = true)
    (a16 : PySem.W.nsIn K mainGlobals "_law_draw" = some (some (.ref f16))) (l16 : K.lookup f16 = some ⟨oc16, od16, .func (PySem.W.fnOf "_law_draw" "_law_draw" (z0F z1E) (z0C z1E) (z04 z1E) .none kV16 dc16 pm16 an16 cd16 ct16), sl16⟩) (c16 : PySem.W.codeIn K cd16 "_law_draw" = true) (k16 : PySem.W.keepIn K (.ref f16) = true)
    (a17 : PySem.W.nsIn K mainGlobals "_law_whole" = some (some (.ref f17))) (l17 : K.lookup f17 = some ⟨oc17, od17, .func (PySem.W.fnOf "_law_whole" "_law_whole" (z0F z0t) (z0C z0t) (z04 z0t) .none kV17 dc17 pm17 an17 cd17 ct17), sl17⟩) (c17 : PySem.W.codeIn K cd17 "_law_whole" = true) (k17 : PySem.W.keepIn K (.ref f17) = true)
    (a18 : PySem.W.nsIn K mainGlobals "_law_shade" = some (some (.ref f18))) (l18 : K.lookup f18 = some ⟨oc18, od18, .func (PySem.W.fnOf "_law_shade" "_law_shade" (z0F z0u) (z0C z0u) (z04 z0u) .none kV18 dc18 pm18 an18 cd18 ct18), sl18⟩) (c18 : PySem.W.codeIn K cd18 "_law_shade" = true) (k18 : PySem.W.keepIn K (.ref f18) = true)
    (a19 : PySem.W.nsIn K mainGlobals "_law_rows" = some (some (.ref f19))) (l19 : K.lookup f19 = some ⟨oc19, od19, .func (PySem.W.fnOf "_law_rows" "_law_rows" (z0F z0z) (z0C z0z) (z04 z0z) .none kV19 dc19 pm19 an19 cd19 ct19), sl19⟩) (c19 : PySem.W.codeIn K cd19 "_law_rows" = true) (k19 : PySem.W.keepIn K (.ref f19) = true)
    (a20 : PySem.W.nsIn K mainGlobals "_law_bits" = some (some (.ref f20))) (l20 : K.lookup f20 = some ⟨oc20, od20, .func (PySem.W.fnOf "_law_bits" "_law_bits" (z0F z1F) (z0C z1F) (z04 z1F) .none kV20 dc20 pm20 an20 cd20 ct20), sl20⟩) (c20 : PySem.W.codeIn K cd20 "_law_bits" = true) (k20 : PySem.W.keepIn K (.ref f20) = true)
    (a21 : PySem.W.nsIn K mainGlobals "_law_sign" = some (some (.ref f21))) (l21 : K.lookup f21 = some ⟨oc21, od21, .func (PySem.W.fnOf "_law_sign" "_law_sign" (z0F z1G) (z0C z1G) (z04 z1G) .none kV21 dc21 pm21 an21 cd21 ct21), sl21⟩) (c21 : PySem.W.codeIn K cd21 "_law_sign" = true) (k21 : PySem.W.keepIn K (.ref f21) = true)
    (a22 : PySem.W.nsIn K mainGlobals "_law_signs" = some (some (.ref f22))) (l22 : K.lookup f22 = some ⟨oc22, od22, .func (PySem.W.fnOf "_law_signs" "_law_signs" (z0F z0v) (z0C z0v) (z04 z0v) .none kV22 dc22 pm22 an22 cd22 ct22), sl22⟩) (c22 : PySem.W.codeIn K cd22 "_law_signs" = true) (k22 : PySem.W.keepIn K (.ref f22) = true)
    (a23 : PySem.W.nsIn K mainGlobals "_law_words" = some (some (.ref f23))) (l23 : K.lookup f23 = some ⟨oc23, od23, .func (PySem.W.fnOf "_law_words" "_law_words" (z0F z0w) (z0C z0w) (z04 z0w) .none kV23 dc23 pm23 an23 cd23 ct23), sl23⟩) (c23 : PySem.W.codeIn K cd23 "_law_words" = true) (k23 : PySem.W.keepIn K (.ref f23) = true)
    (a24 : PySem.W.nsIn K mainGlobals "_law_width" = some (some (.ref f24))) (l24 : K.lookup f24 = some ⟨oc24, od24, .func (PySem.W.fnOf "_law_width" "_law_width" (z0F z0x) (z0C z0x) (z04 z0x) .none kV24 dc24 pm24 an24 cd24 ct24), sl24⟩) (c24 : PySem.W.codeIn K cd24 "_law_width" = true) (k24 : PySem.W.keepIn K (.ref f24) = true)
    (a25 : PySem.W.nsIn K mainGlobals "_law_room" = some (some (.ref f25))) (l25 : K.lookup f25 = some ⟨oc25, od25, .func (PySem.W.fnOf "_law_room" "_law_room" (z0F z17) (z0C z17) (z04 z17) .none kV25 dc25 pm25 an25 cd25 ct25), sl25⟩) (c25 : PySem.W.codeIn K cd25 "_law_room" = true) (k25 : PySem.W.keepIn K (.ref f25) = true)
    (a26 : PySem.W.nsIn K mainGlobals "_law_caught" = some (some (.ref f26))) (l26 : K.lookup f26 = some ⟨oc26, od26, .func (PySem.W.fnOf "_law_caught" "_law_caught" (z0F z0m) (z0C z0m) (z04 z0m) .none kV26 dc26 pm26 an26 cd26 ct26), sl26⟩) (c26 : PySem.W.codeIn K cd26 "_law_caught" = true) (k26 : PySem.W.keepIn K (.ref f26) = true)
    (a27 : PySem.W.nsIn K mainGlobals "_law_due" = some (some (.ref f27))) (l27 : K.lookup f27 = some ⟨oc27, od27, .func (PySem.W.fnOf "_law_due" "_law_due" (z0F z1X) (z0C z1X) (z04 z1X) .none kV27 dc27 pm27 an27 cd27 ct27), sl27⟩) (c27 : PySem.W.codeIn K cd27 "_law_due" = true) (k27 : PySem.W.keepIn K (.ref f27) = true)
    (a28 : PySem.W.nsIn K mainGlobals "_law_broken" = some (some (.ref f28))) (l28 : K.lookup f28 = some ⟨oc28, od28, .func (PySem.W.fnOf "_law_broken" "_law_broken" (z0F z0b) (z0C z0b) (z04 z0b) .none kV28 dc28 pm28 an28 cd28 ct28), sl28⟩) (c28 : PySem.W.codeIn K cd28 "_law_broken" = true) (k28 : PySem.W.keepIn K (.ref f28) = true)
    (a29 : PySem.W.nsIn K mainGlobals "law" = some (some (.ref f29))) (l29 : K.lookup f29 = some ⟨oc29, od29, .func (PySem.W.fnOf "law" "law" (z0F z2m) (z0C z2m) (z04 z2m) .none kV29 dc29 pm29 an29 cd29 ct29), sl29⟩) (c29 : PySem.W.codeIn K cd29 "law" = true) (k29 : PySem.W.keepIn K (.ref f29) = true)
    (z1 : PySem.W.nsIn K mainGlobals "len" = some none)
    (z2 : PySem.W.nsIn K mainGlobals "range" = some none)
    (z3 : PySem.W.nsIn K mainGlobals "enumerate" = some none)
    (z4 : PySem.W.nsIn K mainGlobals "zip" = some none)
    (z5 : PySem.W.nsIn K mainGlobals "reversed" = some none)
    (z6 : PySem.W.nsIn K mainGlobals "isinstance" = some none)
    (z7 : PySem.W.nsIn K mainGlobals "int" = some none)
    (z8 : PySem.W.nsIn K mainGlobals "bool" = some none)
    (z9 : PySem.W.nsIn K mainGlobals "str" = some none)
    (z10 : PySem.W.nsIn K mainGlobals "list" = some none)
    (z11 : PySem.W.nsIn K mainGlobals "tuple" = some none)
    (z12 : PySem.W.nsIn K mainGlobals "dict" = some none)
    (z13 : PySem.W.nsIn K mainGlobals "all" = some none)
    (z14 : PySem.W.nsIn K mainGlobals "sum" = some none)
    (z15 : PySem.W.nsIn K mainGlobals "max" = some none)
    (z16 : PySem.W.nsIn K mainGlobals "ord" = some none)
    (cm_GlowError : PySem.W.nsIn K mainGlobals "GlowError" = some (some (.ref c_GlowError)))
    (cm_NoFont : PySem.W.nsIn K mainGlobals "NoFont" = some (some (.ref c_NoFont)))
    (cm_NoSign : PySem.W.nsIn K mainGlobals "NoSign" = some (some (.ref c_NoSign)))
    (cm_TooWide : PySem.W.nsIn K mainGlobals "TooWide" = some (some (.ref c_TooWide)))
    (gs : PySem.W.specialIn K (.ref c_GlowError) "__getattribute__" = some (some (.builtin "type.__getattribute__"))) (gr : PySem.W.readsIn K c_GlowError (.type "type") = true) (gf : PySem.W.findCls K (.ref c_GlowError) (.type "type") "__init__" = some (.val (.builtin "ValueError.__init__")))
    (fi_NoFont : PySem.W.findIn K (.ref c_NoFont) "__init__" = some (some (.builtin "ValueError.__init__")))
    (fi_NoSign : PySem.W.findIn K (.ref c_NoSign) "__init__" = some (some (.ref ia_NoSign))) (il_NoSign : K.lookup ia_NoSign = some ⟨ioc_NoSign, iod_NoSign, .func (PySem.W.fnOf "__init__" "NoSign.__init__" (z0F z1l) (z0C z1l) (z04 z1l) .none ikV_NoSign idc_NoSign ipm_NoSign ian_NoSign icd_NoSign ict_NoSign), isl_NoSign⟩) (ic_NoSign : PySem.W.codeIn K icd_NoSign "NoSign.__init__" = true) (ik_NoSign : PySem.W.keepIn K (.ref ia_NoSign) = true) (it_NoSign : PySem.W.typeIn K (.ref ia_NoSign) = some (.type "function"))
    (ff_NoSign_sign : PySem.W.findIn K (.ref c_NoSign) "sign" = some none)
    (ff_NoSign_at : PySem.W.findIn K (.ref c_NoSign) "at" = some none)
    (fi_TooWide : PySem.W.findIn K (.ref c_TooWide) "__init__" = some (some (.ref ia_TooWide))) (il_TooWide : K.lookup ia_TooWide = some ⟨ioc_TooWide, iod_TooWide, .func (PySem.W.fnOf "__init__" "TooWide.__init__" (z0F z1O) (z0C z1O) (z04 z1O) .none ikV_TooWide idc_TooWide ipm_TooWide ian_TooWide icd_TooWide ict_TooWide), isl_TooWide⟩) (ic_TooWide : PySem.W.codeIn K icd_TooWide "TooWide.__init__" = true) (ik_TooWide : PySem.W.keepIn K (.ref ia_TooWide) = true) (it_TooWide : PySem.W.typeIn K (.ref ia_TooWide) = some (.type "function"))
    (ff_TooWide_word : PySem.W.findIn K (.ref c_TooWide) "word" = some none)
    (xall : ([c_GlowError, c_NoFont, c_NoSign, c_TooWide] : List Addr).all (xeB K) = true) (kall : z8s K [c_NoFont, c_NoSign, c_TooWide] c_GlowError = true) (k_tup : PySem.W.kitOne K (.type "tuple") (.ref c_GlowError) = some false) (aball : (([c_NoFont, c_NoSign, c_TooWide] : List Addr).all fun c => PySem.W.mroIn K c (.ref c_GlowError) == some true) = true)
    : ∃ fd : FuncData, (∀ (s : Shared) (v : Value), BindsTo s fd ⟨[v], []⟩ [("_law_script", v)]) /\ ∀ base : Heap, K.In base -> base.Ns mainGlobals mg -> FnOk l.prog w K mg base CX0 10 fa fd ["_law_script"] (z7w K) := by
  have e := hfa.symm.trans (PySem.W.mg_of X G a29)
  cases e
  have B : Blt mg := ⟨PySem.W.mg_none_of X G z1, PySem.W.mg_none_of X G z2, PySem.W.mg_none_of X G z3, PySem.W.mg_none_of X G z4, PySem.W.mg_none_of X G z5, PySem.W.mg_none_of X G z6, PySem.W.mg_none_of X G z7, PySem.W.mg_none_of X G z8, PySem.W.mg_none_of X G z9, PySem.W.mg_none_of X G z10, PySem.W.mg_none_of X G z11, PySem.W.mg_none_of X G z12, PySem.W.mg_none_of X G z13, PySem.W.mg_none_of X G z14, PySem.W.mg_none_of X G z15, PySem.W.mg_none_of X G z16⟩
  have xa := List.all_eq_true.mp xall
  have xk_NoFont := z50 (xa c_NoFont (by simp))
  have xk_NoSign := z50 (xa c_NoSign (by simp))
  have xk_TooWide := z50 (xa c_TooWide (by simp))
  have Z : Cl K mg c_GlowError c_NoFont c_NoSign c_TooWide := ⟨PySem.W.mg_of X G cm_GlowError, ⟨gs, gr, gf⟩, (z50 (xa c_GlowError (by simp))).1, k_tup, (fun c hc => by simpa using List.all_eq_true.mp aball c hc), PySem.W.mg_of X G cm_NoFont, xk_NoFont.1, PySem.W.mg_of X G cm_NoSign, xk_NoSign.1, ff_NoSign_sign, ff_NoSign_at, PySem.W.mg_of X G cm_TooWide, xk_TooWide.1, ff_TooWide_word, z74 kall⟩
  have FI_NoSign := z0S (st := z1l) il_NoSign ic_NoSign ik_NoSign
  have FI_TooWide := z0S (st := z1O) il_TooWide ic_TooWide ik_TooWide
  have Zo : Co K mg c_Font := ⟨PySem.W.mg_of X G cm_Font, ⟨pg_Font, hd_Font, po_Font, sa_Font⟩, na_Font_pics, na_Font_high, na_Font_gap⟩
  have F1 := z0S (st := z1B) l1 c1 k1
  have D1 : Df K mg "is_whole" z1B ["thing"] _ _ := ⟨F1, F1.binds (ps := ["thing"]) fun _ _ _ _ _ _ us hl => match us, hl with | [_], _ => rfl, PySem.W.mg_of X G a1⟩
  have F2 := z0S (st := z0s) l2 c2 k2
  have D2 : Df K mg "is_within" z0s ["thing", "least", "most"] _ _ := ⟨F2, F2.binds (ps := ["thing", "least", "most"]) fun _ _ _ _ _ _ us hl => match us, hl with | [_, _, _], _ => rfl, PySem.W.mg_of X G a2⟩
  have F3 := z0S (st := z1T) l3 c3 k3
  have D3 : Df K mg "is_side" z1T ["thing"] _ _ := ⟨F3, F3.binds (ps := ["thing"]) fun _ _ _ _ _ _ us hl => match us, hl with | [_], _ => rfl, PySem.W.mg_of X G a3⟩
  have F4 := z0S (st := z0j) l4 c4 k4
  have D4 : Df K mg "paint_room" z0j ["wide", "mask"] _ _ := ⟨F4, F4.binds (ps := ["wide", "mask"]) fun _ _ _ _ _ _ us hl => match us, hl with | [_, _], _ => rfl, PySem.W.mg_of X G a4⟩
  have F5 := z0S (st := z0k) l5 c5 k5
  have D5 : Df K mg "is_bits_row" z0k ["wide", "paint", "mask"] _ _ := ⟨F5, F5.binds (ps := ["wide", "paint", "mask"]) fun _ _ _ _ _ _ us hl => match us, hl with | [_, _, _], _ => rfl, PySem.W.mg_of X G a5⟩
  have F6 := z0S (st := z1C) l6 c6 k6
  have D6 : Df K mg "has_form" z1C ["thing"] _ _ := ⟨F6, F6.binds (ps := ["thing"]) fun _ _ _ _ _ _ us hl => match us, hl with | [_], _ => rfl, PySem.W.mg_of X G a6⟩
  have F7 := z0S (st := z0Z) l7 c7 k7
  have D7 : Df K mg "is_picture" z0Z ["thing"] _ _ := ⟨F7, F7.binds (ps := ["thing"]) fun _ _ _ _ _ _ us hl => match us, hl with | [_], _ => rfl, PySem.W.mg_of X G a7⟩
  have F8 := z0S (st := z1D) l8 c8 k8
  have D8 : Df K mg "words_of" z1D ["text"] _ _ := ⟨F8, F8.binds (ps := ["text"]) fun _ _ _ _ _ _ us hl => match us, hl with | [_], _ => rfl, PySem.W.mg_of X G a8⟩
  have F9 := z0S (st := z1U) l9 c9 k9
  have D9 : Df K mg "broken" z1U ["font", "text", "wide"] _ _ := ⟨F9, F9.binds (ps := ["font", "text", "wide"]) fun _ _ _ _ _ _ us hl => match us, hl with | [_, _, _], _ => rfl, PySem.W.mg_of X G a9⟩
  have F10 := z0S (st := z1V) l10 c10 k10
  have D10 : Df K mg "is_sign" z1V ["thing"] _ _ := ⟨F10, F10.binds (ps := ["thing"]) fun _ _ _ _ _ _ us hl => match us, hl with | [_], _ => rfl, PySem.W.mg_of X G a10⟩
  have F11 := z0S (st := z1W) l11 c11 k11
  have D11 : Df K mg "is_pair" z1W ["thing"] _ _ := ⟨F11, F11.binds (ps := ["thing"]) fun _ _ _ _ _ _ us hl => match us, hl with | [_], _ => rfl, PySem.W.mg_of X G a11⟩
  have F12 := z0S (st := z0O) l12 c12 k12
  have D12 : Df K mg "pics_by_signs" z0O ["pairs"] _ _ := ⟨F12, F12.binds (ps := ["pairs"]) fun _ _ _ _ _ _ us hl => match us, hl with | [_], _ => rfl, PySem.W.mg_of X G a12⟩
  have F13 := z9R (st := z19) l13 c13 k13
  have F14 := z0S (st := z0a) l14 c14 k14
  have F15 := z0S (st := z0l) l15 c15 k15
  have F16 := z0S (st := z1E) l16 c16 k16
  have D16 : Df K mg "_law_draw" z1E ["_law_script", "_law_k", "_law_prime", "_law_many"] _ _ := ⟨F16, F16.binds (ps := ["_law_script", "_law_k", "_law_prime", "_law_many"]) fun _ _ _ _ _ _ us hl => match us, hl with | [_, _, _, _], _ => rfl, PySem.W.mg_of X G a16⟩
  have F17 := z0S (st := z0t) l17 c17 k17
  have D17 : Df K mg "_law_whole" z0t ["_law_found"] _ _ := ⟨F17, F17.binds (ps := ["_law_found"]) fun _ _ _ _ _ _ us hl => match us, hl with | [_], _ => rfl, PySem.W.mg_of X G a17⟩
  have F18 := z0S (st := z0u) l18 c18 k18
  have D18 : Df K mg "_law_shade" z0u ["_law_script", "_law_k"] _ _ := ⟨F18, F18.binds (ps := ["_law_script", "_law_k"]) fun _ _ _ _ _ _ us hl => match us, hl with | [_, _], _ => rfl, PySem.W.mg_of X G a18⟩
  have F19 := z0S (st := z0z) l19 c19 k19
  have D19 : Df K mg "_law_rows" z0z ["_law_script", "_law_k", "_law_wide", "_law_high"] _ _ := ⟨F19, F19.binds (ps := ["_law_script", "_law_k", "_law_wide", "_law_high"]) fun _ _ _ _ _ _ us hl => match us, hl with | [_, _, _, _], _ => rfl, PySem.W.mg_of X G a19⟩
  have F20 := z0S (st := z1F) l20 c20 k20
  have D20 : Df K mg "_law_bits" z1F ["_law_rows_here"] _ _ := ⟨F20, F20.binds (ps := ["_law_rows_here"]) fun _ _ _ _ _ _ us hl => match us, hl with | [_], _ => rfl, PySem.W.mg_of X G a20⟩
  have F21 := z0S (st := z1G) l21 c21 k21
  have D21 : Df K mg "_law_sign" z1G ["_law_number"] _ _ := ⟨F21, F21.binds (ps := ["_law_number"]) fun _ _ _ _ _ _ us hl => match us, hl with | [_], _ => rfl, PySem.W.mg_of X G a21⟩
  have F22 := z0S (st := z0v) l22 c22 k22
  have D22 : Df K mg "_law_signs" z0v ["_law_script", "_law_k", "_law_many", "_law_high"] _ _ := ⟨F22, F22.binds (ps := ["_law_script", "_law_k", "_law_many", "_law_high"]) fun _ _ _ _ _ _ us hl => match us, hl with | [_, _, _, _], _ => rfl, PySem.W.mg_of X G a22⟩
  have F23 := z0S (st := z0w) l23 c23 k23
  have D23 : Df K mg "_law_words" z0w ["_law_script", "_law_signs_here"] _ _ := ⟨F23, F23.binds (ps := ["_law_script", "_law_signs_here"]) fun _ _ _ _ _ _ us hl => match us, hl with | [_, _], _ => rfl, PySem.W.mg_of X G a23⟩
  have F24 := z0S (st := z0x) l24 c24 k24
  have D24 : Df K mg "_law_width" z0x ["_law_table", "_law_text", "_law_gap"] _ _ := ⟨F24, F24.binds (ps := ["_law_table", "_law_text", "_law_gap"]) fun _ _ _ _ _ _ us hl => match us, hl with | [_, _, _], _ => rfl, PySem.W.mg_of X G a24⟩
  have F25 := z0S (st := z17) l25 c25 k25
  have D25 : Df K mg "_law_room" z17 ["_law_script", "_law_words_here", "_law_table", "_law_gap"] _ _ := ⟨F25, F25.binds (ps := ["_law_script", "_law_words_here", "_law_table", "_law_gap"]) fun _ _ _ _ _ _ us hl => match us, hl with | [_, _, _, _], _ => rfl, PySem.W.mg_of X G a25⟩
  have F26 := z0S (st := z0m) l26 c26 k26
  have D26 : Df K mg "_law_caught" z0m ["_law_font", "_law_text", "_law_wide"] _ _ := ⟨F26, F26.binds (ps := ["_law_font", "_law_text", "_law_wide"]) fun _ _ _ _ _ _ us hl => match us, hl with | [_, _, _], _ => rfl, PySem.W.mg_of X G a26⟩
  have F27 := z0S (st := z1X) l27 c27 k27
  have D27 : Df K mg "_law_due" z1X ["_law_table", "_law_text", "_law_words_here", "_law_gap", "_law_wide"] _ _ := ⟨F27, F27.binds (ps := ["_law_table", "_law_text", "_law_words_here", "_law_gap", "_law_wide"]) fun _ _ _ _ _ _ us hl => match us, hl with | [_, _, _, _, _], _ => rfl, PySem.W.mg_of X G a27⟩
  have F28 := z0S (st := z0b) l28 c28 k28
  have D28 : Df K mg "_law_broken" z0b ["_law_found", "_law_table", "_law_text", "_law_gap", "_law_wide"] _ _ := ⟨F28, F28.binds (ps := ["_law_found", "_law_table", "_law_text", "_law_gap", "_law_wide"]) fun _ _ _ _ _ _ us hl => match us, hl with | [_, _, _, _, _], _ => rfl, PySem.W.mg_of X G a28⟩
  have F29 := z0S (st := z2m) l29 c29 k29
  have D29 : Df K mg "law" z2m ["_law_script"] _ _ := ⟨F29, F29.binds (ps := ["_law_script"]) fun _ _ _ _ _ _ us hl => match us, hl with | [_], _ => rfl, PySem.W.mg_of X G a29⟩
  refine ⟨PySem.W.fnOf "law" "law" (z0F z2m) (z0C z2m) (z04 z2m) .none kV29 dc29 pm29 an29 cd29 ct29, fun s v => .of_eq rfl, fun base _ _ => ?_⟩
  have E_NoFont : Oo K mg "NoFont" c_NoFont := ⟨PySem.W.mg_of X G cm_NoFont, ⟨xk_NoFont.1, xk_NoFont.2, fi_NoFont⟩⟩
  have E_NoSign : Oe l.prog w K mg base "NoSign" c_NoSign ["self", "sign", "at"] 1 (zB3 c_NoSign "sign" "at") := ⟨ia_NoSign, _, PySem.W.mg_of X G cm_NoSign, ⟨xk_NoSign.1, xk_NoSign.2, fi_NoSign, it_NoSign⟩, FI_NoSign.binds (ps := ["self", "sign", "at"]) fun _ _ _ _ _ _ us hl => match us, hl with | [_, _, _], _ => rfl, z7W Z FI_NoSign⟩
  have E_TooWide : Oe l.prog w K mg base "TooWide" c_TooWide ["self", "word"] 1 (zB2 c_TooWide "word") := ⟨ia_TooWide, _, PySem.W.mg_of X G cm_TooWide, ⟨xk_TooWide.1, xk_TooWide.2, fi_TooWide, it_TooWide⟩, FI_TooWide.binds (ps := ["self", "word"]) fun _ _ _ _ _ _ us hl => match us, hl with | [_, _], _ => rfl, z5q Z FI_TooWide⟩
  have O_iswhole := z5u (P := l.prog) (w := w) (base := base) D1  B
  have O_iswithin := z4e (P := l.prog) (w := w) (base := base) D2 O_iswhole B
  have O_isside := z7Y (P := l.prog) (w := w) (base := base) D3 O_iswithin B
  have O_paintroom := z46 (P := l.prog) (w := w) (base := base) D4  B
  have O_isbitsrow := z48 (P := l.prog) (w := w) (base := base) D5 O_iswhole O_paintroom B
  have O_hasform := z5z (P := l.prog) (w := w) (base := base) D6 O_isside B
  have O_ispicture := z4A (P := l.prog) (w := w) (base := base) D7 O_isbitsrow O_hasform B
  have O_wordsof := z61 (P := l.prog) (w := w) (base := base) D8  B
  have O_issign := z7a (P := l.prog) (w := w) (base := base) D10  B
  have O_ispair := z7c (P := l.prog) (w := w) (base := base) D11 O_ispicture O_issign B
  have O_picsbysigns := z2s (P := l.prog) (w := w) (base := base) D12 Z O_iswithin O_ispair E_NoFont B
  have Ff13 := z4h (P := l.prog) (w := w) (base := base) Zo Z O_iswithin O_picsbysigns E_NoFont F13 B
  have O_Fontinit : Oc l.prog w K mg base (CX2 l.prog w) "Font" c_Font ["self", "pairs", "gap"] [] 8 (z3R c_Font) := ⟨f13, _, _, PySem.W.mg_of X G cm_Font, ⟨mk_Font, a13, i13, kc_Font⟩, fun s us X hl => match us, hl with | [_, _, _], _ => PySem.W.binds_K X rfl t13 rfl rfl rfl, .nil, Ff13⟩
  have Ff14 := z3X (P := l.prog) (w := w) (base := base) Zo Z E_NoSign F14 B
  have O_Fontpicsof : Om l.prog w K mg base (CX2 l.prog w) c_Font "pics_of" ["self", "text"] [] 3 (z2R c_Font c_NoSign) := ⟨f14, _, _, Zo.k_Font, ⟨a14, i14, k14⟩, F14.binds (ps := ["self", "text"]) fun _ _ _ _ _ _ us hl => match us, hl with | [_, _], _ => rfl, .nil, Ff14⟩
  have Ff15 := z4B (P := l.prog) (w := w) (base := base) Zo Z O_Fontpicsof F15 B
  have O_Fontwidth : Om l.prog w K mg base (CX2 l.prog w) c_Font "width" ["self", "text"] [] 4 (z4X c_Font c_NoSign) := ⟨f15, _, _, Zo.k_Font, ⟨a15, i15, k15⟩, F15.binds (ps := ["self", "text"]) fun _ _ _ _ _ _ us hl => match us, hl with | [_, _], _ => rfl, .nil, Ff15⟩
  have O_broken := z7d (P := l.prog) (w := w) (base := base) D9 Zo Z O_wordsof O_Fontpicsof O_Fontwidth E_TooWide B
  have O_lawdraw := z5w (P := l.prog) (w := w) (base := base) D16  B
  have O_lawwhole := z4c (P := l.prog) (w := w) (base := base) D17  B
  have O_lawshade := z4f (P := l.prog) (w := w) (base := base) D18 O_lawdraw B
  have O_lawrows := z5r (P := l.prog) (w := w) (base := base) D19 O_lawshade B
  have O_lawbits := z5s (P := l.prog) (w := w) (base := base) D20  B
  have O_lawsign := z5x (P := l.prog) (w := w) (base := base) D21  B
  have O_lawsigns := z4i (P := l.prog) (w := w) (base := base) D22 O_lawdraw O_lawrows O_lawsign B
  have O_lawwords := z4j (P := l.prog) (w := w) (base := base) D23 O_lawdraw B
  have O_lawwidth := z4k (P := l.prog) (w := w) (base := base) D24  B
  have O_lawroom := z62 (P := l.prog) (w := w) (base := base) D25 O_lawdraw O_lawwidth B
  have O_lawcaught := z4C (P := l.prog) (w := w) (base := base) D26 Zo Z O_broken B
  have O_lawdue := z7e (P := l.prog) (w := w) (base := base) D27 O_lawwidth B
  have O_lawbroken := z4D (P := l.prog) (w := w) (base := base) D28 O_lawwidth B
  exact zAo D29 Zo Z O_broken O_Fontinit O_lawdraw O_lawwhole O_lawrows O_lawbits O_lawsign O_lawsigns O_lawwords O_lawroom O_lawcaught O_lawdue O_lawbroken B
theorem walk {l : PySem.W.OpenLaw} {q : Program} {loose : List Str} {XP : (Str -> Option Value) -> Heap -> Prop} {YP : World -> Heap -> Prop} {d : DefRec} {K : Params -> PySem.W.Frag} (hn : l.most = some 63) (hdf : d.params.defaults = [])
    (hY : ∀ (w : World) (h : Heap), YP w h -> (K w.params).In h)
    (F : ∀ (w : World) (mg : Str -> Option Value) (fa : Addr) (h : Heap), (K w.params).In h -> h.Ns mainGlobals mg -> mg d.name = some (.ref fa) ->
      ∃ fd : FuncData, (∀ (s : Shared) (u : Value), BindsTo s fd ⟨[u], []⟩ [("_law_script", u)]) /\ ∀ base : Heap, (K w.params).In base -> base.Ns mainGlobals mg -> FnOk l.prog w (K w.params) mg base CX0 10 fa fd ["_law_script"] (z7w (K w.params))) :
    PySem.W.WalkO q loose XP YP l.row.toRowW d [] (fun f vs => PySem.call f vs) :=
  L2.walk_of (n := 63) (k := 10) (x := "_law_script") (CX := fun _ => CX0) (sp := fun w => z7w (K w.params)) hn (by decide) hdf ⟨rfl, by decide, by decide⟩ hY F (fun _ _ a ns hl _ hS => ⟨a, ns, rfl, hS, hl, fun _ => rfl⟩) fun _ _ _ _ _ z => z
end K33
namespace PySem.W.Fast
theorem tw16928465904444671599 : True := trivial
theorem tw4130468269701042368 : True := trivial
theorem tw6301725743141063168 : True := trivial
theorem tw15211087027397263234 : True := trivial
theorem tw16721057384822733188 : True := trivial
theorem tw8466883116222570117 : True := trivial
theorem tw12121337236474117387 : True := trivial
theorem tw18336459504367828941 : True := trivial
theorem tw1882733504716727631 : True := trivial
theorem tw11021786270377118415 : True := trivial
theorem tw2629140574404607058 : True := trivial
theorem tw5753140007739690610 : True := trivial
theorem tw1381523705667117369 : True := trivial
end PySem.W.Fast
open PySem PySem.W PyProof.Rows
set_option maxRecDepth 100000 in
set_option maxHeartbeats 0 in
theorem PySem.Challenge.cw_glowboard_k33_texts_broken_holds : PySem.Challenge.rw_glowboard_k33_texts_broken.Holds := by
  w_on; o_law; k_head; (case hw => w_witness2)
  k_fill
  refine K33.walk (l := PySem.Challenge.rw_glowboard_k33_texts_broken) rfl rfl (fun w h Y => PySem.W.kIn_of Y) ?F
  case F =>
    intro w mg fa h KX G hmg
    refine' K33.all_mk KX G hmg ?cm_Font ?pg_Font ?hd_Font ?po_Font ?sa_Font ?mk_Font ?kc_Font ?na_Font_pics ?na_Font_high ?na_Font_gap ?a1 ?l1 ?c1 ?k1 ?a2 ?l2 ?c2 ?k2 ?a3 ?l3 ?c3 ?k3 ?a4 ?l4 ?c4 ?k4 ?a5 ?l5 ?c5 ?k5 ?a6 ?l6 ?c6 ?k6 ?a7 ?l7 ?c7 ?k7 ?a8 ?l8 ?c8 ?k8 ?a9 ?l9 ?c9 ?k9 ?a10 ?l10 ?c10 ?k10 ?a11 ?l11 ?c11 ?k11 ?a12 ?l12 ?c12 ?k12 ?a13 ?l13 ?c13 ?k13 ?t13 ?i13 ?a14 ?l14 ?c14 ?k14 ?i14 ?a15 ?l15 ?c15 ?k15 ?i15 ?a16 ?l16 ?c16 ?k16 ?a17 ?l17 ?c17 ?k17 ?a18 ?l18 ?c18 ?k18 ?a19 ?l19 ?c19 ?k19 ?a20 ?l20 ?c20 ?k20 ?a21 ?l21 ?c21 ?k21 ?a22 ?l22 ?c22 ?k22 ?a23 ?l23 ?c23 ?k23 ?a24 ?l24 ?c24 ?k24 ?a25 ?l25 ?c25 ?k25 ?a26 ?l26 ?c26 ?k26 ?a27 ?l27 ?c27 ?k27 ?a28 ?l28 ?c28 ?k28 ?a29 ?l29 ?c29 ?k29 ?z1 ?z2 ?z3 ?z4 ?z5 ?z6 ?z7 ?z8 ?z9 ?z10 ?z11 ?z12 ?z13 ?z14 ?z15 ?z16 ?cm_GlowError ?cm_NoFont ?cm_NoSign ?cm_TooWide ?gs ?gr ?gf ?fi_NoFont ?fi_NoSign ?il_NoSign ?ic_NoSign ?ik_NoSign ?it_NoSign ?ff_NoSign_sign ?ff_NoSign_at ?fi_TooWide ?il_TooWide ?ic_TooWide ?ik_TooWide ?it_TooWide ?ff_TooWide_word ?xall ?kall ?k_tup ?aball
    (case cm_Font => k_is); (case pg_Font => k_is); (case hd_Font => k_is); (case po_Font => k_is)
    (case sa_Font => k_is); (case mk_Font => k_is); (case kc_Font => k_is); (case na_Font_pics => k_is)
    (case na_Font_high => k_is); (case na_Font_gap => k_is); (case a1 => k_is); (case l1 => k_is)
    (case c1 => k_is); (case k1 => k_is); (case a2 => k_is); (case l2 => k_is)
    (case c2 => k_is); (case k2 => k_is); (case a3 => k_is); (case l3 => k_is)
    (case c3 => k_is); (case k3 => k_is); (case a4 => k_is); (case l4 => k_is)
    (case c4 => k_is); (case k4 => k_is); (case a5 => k_is); (case l5 => k_is)
    (case c5 => k_is); (case k5 => k_is); (case a6 => k_is); (case l6 => k_is)
    (case c6 => k_is); (case k6 => k_is); (case a7 => k_is); (case l7 => k_is)
    (case c7 => k_is); (case k7 => k_is); (case a8 => k_is); (case l8 => k_is)
    (case c8 => k_is); (case k8 => k_is); (case a9 => k_is); (case l9 => k_is)
    (case c9 => k_is); (case k9 => k_is); (case a10 => k_is); (case l10 => k_is)
    (case c10 => k_is); (case k10 => k_is); (case a11 => k_is); (case l11 => k_is)
    (case c11 => k_is); (case k11 => k_is); (case a12 => k_is); (case l12 => k_is)
    (case c12 => k_is); (case k12 => k_is); (case a13 => k_is); (case l13 => k_is)
    (case c13 => k_is); (case k13 => k_is); (case t13 => k_is); (case i13 => k_is)
    (case a14 => k_is); (case l14 => k_is); (case c14 => k_is); (case k14 => k_is)
    (case i14 => k_is); (case a15 => k_is); (case l15 => k_is); (case c15 => k_is)
    (case k15 => k_is); (case i15 => k_is); (case a16 => k_is); (case l16 => k_is)
    (case c16 => k_is); (case k16 => k_is); (case a17 => k_is); (case l17 => k_is)
    (case c17 => k_is); (case k17 => k_is); (case a18 => k_is); (case l18 => k_is)
    (case c18 => k_is); (case k18 => k_is); (case a19 => k_is); (case l19 => k_is)
    (case c19 => k_is); (case k19 => k_is); (case a20 => k_is); (case l20 => k_is)
    (case c20 => k_is); (case k20 => k_is); (case a21 => k_is); (case l21 => k_is)
    (case c21 => k_is); (case k21 => k_is); (case a22 => k_is); (case l22 => k_is)
    (case c22 => k_is); (case k22 => k_is); (case a23 => k_is); (case l23 => k_is)
    (case c23 => k_is); (case k23 => k_is); (case a24 => k_is); (case l24 => k_is)
    (case c24 => k_is); (case k24 => k_is); (case a25 => k_is); (case l25 => k_is)
    (case c25 => k_is); (case k25 => k_is); (case a26 => k_is); (case l26 => k_is)
    (case c26 => k_is); (case k26 => k_is); (case a27 => k_is); (case l27 => k_is)
    (case c27 => k_is); (case k27 => k_is); (case a28 => k_is); (case l28 => k_is)
    (case c28 => k_is); (case k28 => k_is); (case a29 => k_is); (case l29 => k_is)
    (case c29 => k_is); (case k29 => k_is); (case z1 => k_is); (case z2 => k_is)
    (case z3 => k_is); (case z4 => k_is); (case z5 => k_is); (case z6 => k_is)
    (case z7 => k_is); (case z8 => k_is); (case z9 => k_is); (case z10 => k_is)
    (case z11 => k_is); (case z12 => k_is); (case z13 => k_is); (case z14 => k_is)
    (case z15 => k_is); (case z16 => k_is); (case cm_GlowError => k_is); (case cm_NoFont => k_is)
    (case cm_NoSign => k_is); (case cm_TooWide => k_is); (case gs => k_is); (case gr => k_is)
    (case gf => k_is); (case fi_NoFont => k_is); (case fi_NoSign => k_is); (case il_NoSign => k_is)
    (case ic_NoSign => k_is); (case ik_NoSign => k_is); (case it_NoSign => k_is); (case ff_NoSign_sign => k_is)
    (case ff_NoSign_at => k_is); (case fi_TooWide => k_is); (case il_TooWide => k_is); (case ic_TooWide => k_is)
    (case ik_TooWide => k_is); (case it_TooWide => k_is); (case ff_TooWide_word => k_is); (case xall => kernel_rfl)
    (case kall => kernel_rfl); (case k_tup => kit_is); (case aball => kernel_rfl)
#print axioms PySem.Challenge.cw_glowboard_k33_texts_broken_holds