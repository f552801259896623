import PyProof.Rows.All
import Wide.All
import OpenK.AllK
import Wide.FinOn
import Lean
import PyProof.EqAt
import PyProof.EqKinds
import PyProof.TupleCall
import PySem.Challenge.RW_glowboard_k51_boards_beamed
set_option Elab.async false
set_option linter.all false
set_option maxRecDepth 100000
namespace L2
open PySem PySem.Spec PyProof.Rows
abbrev Key := Sum Int Str
def z8O : Key -> Value -> Bool
  | .inl k, v => Value.isInt k v
  | .inr x, v => Value.isStrOf x v
def zAw (w : World) : Key -> Int
  | .inl k => hashInt k
  | .inr x => hashStr w x
theorem z0V : ∀ {k : Key} {v : Value}, z8O k v = true -> (∃ i t, k = Sum.inl i /\ v = Value.int i t) \/ (∃ x t, k = Sum.inr x /\ v = Value.str x t)
  | .inl i, v, h => by
    obtain ⟨t, e⟩ := Value.isInt_shape (k := i) (v := v) h
    exact .inl ⟨i, t, rfl, e⟩
  | .inr x, v, h => by
    obtain ⟨t, e⟩ := Value.isStrOf_shape (x := x) (v := v) h
    exact .inr ⟨x, t, rfl, e⟩
theorem z8P (a b : Int) : decide ((Sum.inl a : Key) = Sum.inl b) = (a == b) := by
  by_cases e : a = b
  . subst e; simp
  . have h : ¬ (Sum.inl a : Key) = Sum.inl b := fun q => e (Sum.inl.inj q)
    rw [decide_eq_false h]
    exact (beq_eq_false_iff_ne.mpr e).symm
theorem z8Q (a b : Str) : decide ((Sum.inr a : Key) = Sum.inr b) = decide (a = b) := by
  by_cases e : a = b
  . subst e; simp
  . have h : ¬ (Sum.inr a : Key) = Sum.inr b := fun q => e (Sum.inr.inj q)
    rw [decide_eq_false h, decide_eq_false e]
theorem z8R (a : Int) (b : Str) : decide ((Sum.inl a : Key) = Sum.inr b) = false := decide_eq_false (fun q => nomatch q)
theorem z8S (a : Str) (b : Int) : decide ((Sum.inr a : Key) = Sum.inl b) = false := decide_eq_false (fun q => nomatch q)
def z5D (prog : Program) (w : World) : PySem.KeyKind prog w Key where
  is := z8O
  hash := zAw w
  inj := fun v a b ha hb => by
    rcases z0V ha with ⟨i, t, rfl, rfl⟩ | ⟨x, t, rfl, rfl⟩
    . rcases z0V hb with ⟨j, u, rfl, e⟩ | ⟨y, u, rfl, e⟩
      . injection e with e1 _; rw [e1]
      . exact nomatch e
    . rcases z0V hb with ⟨j, u, rfl, e⟩ | ⟨y, u, rfl, e⟩
      . exact nomatch e
      . injection e with e1 _; rw [e1]
  byValue := fun k v h => by
    rcases z0V h with ⟨i, t, rfl, rfl⟩ | ⟨x, t, rfl, rfl⟩ <;> rfl
  pyHash := fun hv h => by
    rcases z0V hv with ⟨i, t, rfl, rfl⟩ | ⟨x, t, rfl, rfl⟩
    . exact wpAny_pyHash_int h
    . exact wpAny_pyHash_str h
  eqBool := fun hu hv h => by
    rcases z0V hu with ⟨i, t, rfl, rfl⟩ | ⟨x, t, rfl, rfl⟩
    . rcases z0V hv with ⟨j, u, rfl, rfl⟩ | ⟨y, u, rfl, rfl⟩
      . rw [z8P] at h; exact wpAny_eqBool_int h
      . rw [z8R] at h; exact SeqAt.EqAt.int_str i t y u _ _ _ _ h
    . rcases z0V hv with ⟨j, u, rfl, rfl⟩ | ⟨y, u, rfl, rfl⟩
      . rw [z8S] at h; exact SeqAt.EqAt.str_int x t j u _ _ _ _ h
      . rw [z8Q] at h; exact wpAny_eqBool_str h
  «strs» := fun k x t v h => by
    rcases z0V h with ⟨i, u, rfl, e⟩ | ⟨y, u, rfl, e⟩
    . exact nomatch e
    . injection e with e1 _
      subst e1
      cases v <;> rfl
inductive V where
  | non | bl (b : Bool) | int (i : Int) | str (x : Str) | byt (b : Array UInt8) | flt (b : UInt64) | ref (a : Addr) | ty (n : String)
  deriving DecidableEq
def RelV : V -> Value -> Prop
  | .non, u => u = Value.none
  | .bl b, u => u = Value.bool b
  | .int i, u => ∃ t, u = Value.int i t
  | .str x, u => ∃ t, u = Value.str x t
  | .byt b, u => ∃ t, u = Value.bytes b t
  | .flt b, u => ∃ t, u = Value.float b t
  | .ref a, u => u = Value.ref a
  | .ty n, u => u = Value.type n
abbrev Vals : List V -> List Value -> Prop := Paired RelV
theorem Vals.length {xs : List V} {us : List Value} (r : Vals xs us) : xs.length = us.length := Paired.length r
theorem Vals.get : ∀ {xs : List V} {us : List Value} {i : Nat} {x : V}, Vals xs us -> xs[i]? = some x -> ∃ u, us[i]? = some u /\ RelV x u
  | _, _, _, _, .nil, e => by simp at e
  | _, _, 0, _, .cons r _, e => by simp at e; subst e; exact ⟨_, rfl, r⟩
  | _, _, i + 1, x, .cons _ t, e => by
    obtain ⟨u, h1, h2⟩ := Vals.get (i := i) (x := x) t (by simpa using e)
    exact ⟨u, by simpa using h1, h2⟩
theorem Vals.set {x : V} {u : Value} (r : RelV x u) : ∀ {xs : List V} {us : List Value} (i : Nat), Vals xs us -> Vals (xs.set i x) (us.set i u)
  | _, _, _, .nil => .nil
  | _, _, 0, .cons _ t => .cons r t
  | _, _, i + 1, .cons q t => .cons q (Vals.set r i t)
theorem Vals.append : ∀ {xs ys : List V} {us ws : List Value}, Vals xs us -> Vals ys ws -> Vals (xs ++ ys) (us ++ ws)
  | _, _, _, _, .nil, s => s
  | _, _, _, _, .cons r t, s => .cons r (Vals.append t s)
theorem Vals.take : ∀ {xs : List V} {us : List Value} (n : Nat), Vals xs us -> Vals (xs.take n) (us.take n)
  | _, _, 0, _ => .nil
  | _, _, _ + 1, .nil => .nil
  | _, _, n + 1, .cons r t => .cons r (Vals.take n t)
theorem Vals.drop : ∀ {xs : List V} {us : List Value} (n : Nat), Vals xs us -> Vals (xs.drop n) (us.drop n)
  | _, _, 0, r => r
  | _, _, _ + 1, .nil => .nil
  | _, _, n + 1, .cons _ t => Vals.drop n t
def RelO : Option V -> Option Value -> Prop
  | some v, some u => RelV v u
  | none, none => True
  | _, _ => False
def KV {κ : Type} : List (κ × V) -> List (κ × Value) -> Prop := Paired fun (p : κ × V) (q : κ × Value) => p.1 = q.1 /\ RelV p.2 q.2
def kV : Key -> V
  | .inl i => .int i
  | .inr x => .str x
inductive HO where
  | lst (xs : List V)
  | tup (xs : List V)
  | dK (kvs : List (Key × V)) | dT (kvs : List (List Key × V))
  | set (S : Int -> Bool) (n : Nat)
  | ins (C dx : Addr) (fs : List (Str × V))
  | own (x : Addr)
  | xd (fs : List (Str × V))
  | met (f x : Addr)
  | rng (lo hi : Int)
  | frz (o : Obj) (u : HO)
  | tbl (ps : Array Value)
  | ext (φ : Heap -> Prop)
abbrev Hp := Addr -> Option HO
def upd (H : Hp) (a : Addr) (o : HO) : Hp := fun b => if b = a then some o else H b
theorem upd_same {H : Hp} {a : Addr} {o : HO} : upd H a o a = some o := by unfold upd; rw [if_pos rfl]
theorem z06 {H : Hp} {a b : Addr} {o : HO} (h : b ≠ a) : upd H a o b = H b := by unfold upd; rw [if_neg h]
theorem z4f {H : Hp} {a b : Addr} {o u : HO} (h : H a = some o) (h' : H b = some u) (d : o ≠ u) : a ≠ b := by
  intro e; subst e; rw [h] at h'; exact d (Option.some.inj h')
theorem z08 {H : Hp} {a b : Addr} {o : HO} (h : H a = some o) (h' : H b = none) : a ≠ b := by
  intro e; subst e; rw [h] at h'; cases h'
section
variable (P : Program) (w : World)
def ObjOk (H : Hp) (h : Heap) (a : Addr) : HO -> Prop
  | .lst xs => xs.length <= sizeLine /\ ∃ (its : List Value) (n : Nat), Vals xs its /\ h.get? a = some { cls := .type "list", data := .seq its.toArray n }
  | .tup xs => xs.length <= sizeLine /\ ∃ its : List Value, Vals xs its /\ IsTup h a its.toArray
  | .dK kvs => kvs.length <= sizeLine /\ (a == sysModules) = false /\ ∃ vs, KV kvs vs /\ h.DictOf (z5D P w) a vs
  | .dT kvs => kvs.length <= sizeLine /\ (a == sysModules) = false /\ ∃ xs : List (List Key × Addr × Value),
      Paired (fun (p : List Key × V) (q : List Key × Addr × Value) => p.1 = q.1 /\ H q.2.1 = some (.tup (p.1.map kV)) /\ RelV p.2 q.2.2) kvs xs /\
      ∃ o es ep, h.get? a = some o /\ o.ExactDict /\ o.data = .dict es ep /\ es.toList = xs.map (entryOfKey (tupleKind (z5D P w))) /\ (xs.map (·.1)).Nodup
  | .set S n => h.SetOf (intKind P w) a S n
  | .ins C dx fs => H dx = some (.own a) /\ fs.length <= 1000 /\ dx ≠ a /\ h.get? a = some (PySem.W.instObj C dx) /\
      ∃ mA, h.Ns1 dx mA /\ (∀ f, RelO (fs.lookup f) (mA f)) /\ PySem.Within mA (fs.map (·.1))
  | .own _ => ∃ o, h.get? a = some o
  | .xd fs => ∃ mA, h.Ns1 a mA /\ ∀ f, RelO (fs.lookup f) (mA f)
  | .rng lo hi => ∃ t u v, h.get? a = some { cls := .type "range", data := .fields #[.int lo t, .int hi u, .int 1 v] }
  | .frz o u => h.get? a = some o /\ ObjOk H h a u
  | .tbl ps => h.get? a = some { cls := .none, data := .fields ps }
  | .met f x => h.get? a = some (PySem.W.methodObj (.ref f) (.ref x))
  | .ext φ => φ h /\ (∃ o, h.get? a = some o) /\ ∀ h1 h2 : Heap, φ h1 -> (∀ o, h1.get? a = some o -> h2.get? a = some o) -> φ h2
def HOk (H : Hp) (h : Heap) : Prop := ∀ a o, H a = some o -> ObjOk P w H h a o
end
section
variable {P : Program} {w : World} {H H' : Hp} {h h' : Heap} {a : Addr} {o : HO}
theorem ObjOk.lt (x : ObjOk P w H h a o) : a < h.objs.size := by
  cases o with
  | lst xs => obtain ⟨_, _, _, _, e⟩ := x; exact Heap.lt_size e
  | tup xs => obtain ⟨_, _, _, p⟩ := x; exact p.lt
  | dK kvs => obtain ⟨_, _, _, _, o, _, _, e, _⟩ := x; exact Heap.lt_size e
  | dT kvs => obtain ⟨_, _, _, _, o, _, _, e, _⟩ := x; exact Heap.lt_size e
  | set S n => obtain ⟨o, _, _, _, e, _⟩ := x; exact Heap.lt_size e
  | ins C dx fs => obtain ⟨_, _, _, e, _⟩ := x; exact Heap.lt_size e
  | own y => obtain ⟨_, e⟩ := x; exact Heap.lt_size e
  | xd fs => obtain ⟨_, ⟨_, _, _, e, _⟩, _⟩ := x; exact Heap.lt_size e
  | rng lo hi => obtain ⟨_, _, _, e⟩ := x; exact Heap.lt_size e
  | frz ob u => obtain ⟨e, _⟩ := x; exact Heap.lt_size e
  | tbl ps => exact Heap.lt_size (show h.get? a = some _ from x)
  | met f y => exact Heap.lt_size (show h.get? a = some _ from x)
  | ext φ => obtain ⟨_, ⟨_, e⟩, _⟩ := x; exact Heap.lt_size e
theorem Paired.mapP {α β : Type} {F G : α -> β -> Prop} : ∀ {l₁ : List α} {l₂ : List β}, Paired F l₁ l₂ -> (∀ a b, F a b -> G a b) -> Paired G l₁ l₂
  | _, _, .nil, _ => .nil
  | _, _, .cons r t, f => .cons (f _ _ r) (Paired.mapP t f)
theorem ObjOk.stay (x : ObjOk P w H h a o) (k : ∀ b u, (b = a \/ H b = some (.own a)) -> h.get? b = some u -> h'.get? b = some u)
    (ho : ∀ b, H b = some (.own a) -> H' b = some (.own a)) (ht : ∀ b xs, H b = some (.tup xs) -> H' b = some (.tup xs)) : ObjOk P w H' h' a o := by
  induction o with
  | lst xs => obtain ⟨z, its, n, r, e⟩ := x; exact ⟨z, its, n, r, k _ _ (.inl rfl) e⟩
  | tup xs => obtain ⟨z, its, r, ob, e, c⟩ := x; exact ⟨z, its, r, ob, k _ _ (.inl rfl) e, c⟩
  | dK kvs => obtain ⟨z, y, vs, r, ob, es, ep, e, c⟩ := x; exact ⟨z, y, vs, r, ob, es, ep, k _ _ (.inl rfl) e, c⟩
  | dT kvs =>
    obtain ⟨z, y, xs, r, ob, es, ep, e, c⟩ := x
    exact ⟨z, y, xs, Paired.mapP r fun p q z => ⟨z.1, ht _ _ z.2.1, z.2.2⟩, ob, es, ep, k _ _ (.inl rfl) e, c⟩
  | set S n => obtain ⟨ob, es, ep, t, e, c⟩ := x; exact ⟨ob, es, ep, t, k _ _ (.inl rfl) e, c⟩
  | ins C dx fs =>
    obtain ⟨d, z, ne, e, mA, ⟨od, es, ep, e2, c⟩, r⟩ := x
    exact ⟨ho _ d, z, ne, k _ _ (.inl rfl) e, mA, ⟨od, es, ep, k _ _ (.inr d) e2, c⟩, r⟩
  | own y => obtain ⟨ob, e⟩ := x; exact ⟨ob, k _ _ (.inl rfl) e⟩
  | xd fs => obtain ⟨mA, ⟨od, es, ep, e, c⟩, r⟩ := x; exact ⟨mA, ⟨od, es, ep, k _ _ (.inl rfl) e, c⟩, r⟩
  | rng lo hi => obtain ⟨t, u, v, e⟩ := x; exact ⟨t, u, v, k _ _ (.inl rfl) e⟩
  | frz ob u ih => obtain ⟨e, q⟩ := x; exact ⟨k _ _ (.inl rfl) e, ih q⟩
  | tbl ps =>
    have e : h.get? a = some { cls := .none, data := .fields ps } := x
    show h'.get? a = some { cls := .none, data := .fields ps }
    exact k a _ (.inl rfl) e
  | met f y =>
    have e : h.get? a = some (PySem.W.methodObj (.ref f) (.ref y)) := x
    show h'.get? a = some (PySem.W.methodObj (.ref f) (.ref y))
    exact k a _ (.inl rfl) e
  | ext φ => obtain ⟨p, ⟨o, e⟩, st⟩ := x; exact ⟨st _ _ p fun o q => k _ _ (.inl rfl) q, ⟨o, k _ _ (.inl rfl) e⟩, st⟩
theorem HOk.lt (x : HOk P w H h) (e : H a = some o) : a < h.objs.size := (x a o e).lt
theorem HOk.fresh (x : HOk P w H h) (e : h.objs.size <= a) : H a = none := by
  cases q : H a with
  | none => rfl
  | some u => exact absurd (Nat.lt_of_lt_of_le (x.lt q) e) (Nat.lt_irrefl _)
theorem HOk.kept (x : HOk P w H h) (k : ∀ b u, h.get? b = some u -> h'.get? b = some u) : HOk P w H h' := fun a o e =>
  (x a o e).stay (fun b u _ q => k b u q) (fun _ q => q) fun _ _ q => q
theorem HOk.laid (x : HOk P w H h) (k : ∀ b u, h.get? b = some u -> h'.get? b = some u) (hp : h.objs.size <= a) (new : ObjOk P w (upd H a o) h' a o) : HOk P w (upd H a o) h' := fun b u e => by
  have hn := x.fresh hp
  by_cases hb : b = a
  . subst hb; rw [upd_same] at e; cases e; exact new
  . rw [z06 hb] at e
    exact (x b u e).stay (fun c v _ q => k c v q) (fun c q => by rw [z06 (z08 q hn)]; exact q) fun c xs q => by rw [z06 (z08 q hn)]; exact q
end
def Rd (H : Hp) (a : Addr) (u : HO) : Prop := H a = some u \/ ∃ o, H a = some (.frz o u)
theorem Rd.of {H : Hp} {a : Addr} {u : HO} (h : H a = some u) : Rd H a u := .inl h
theorem Rd.ok {P : Program} {w : World} {H : Hp} {h : Heap} {a : Addr} {u : HO} (r : Rd H a u) (x : HOk P w H h) : ObjOk P w H h a u := by
  rcases r with r | ⟨o, r⟩
  . exact x a u r
  . obtain ⟨_, q⟩ := x a _ r
    exact q
def Mut : Option HO -> Prop
  | some (.lst _) => True
  | some (.dK _) => True
  | some (.dT _) => True
  | some (.set _ _) => True
  | some (.ins _ _ _) => True
  | some (.ext _) => True
  | _ => False
section
variable {P : Program} {w : World} {H : Hp} {h h' : Heap} {x e : Addr} {o' : HO}
theorem HOk.write (ok : HOk P w H h) (mu : Mut (H x)) (he : e = x \/ H e = some (.own x)) (k : ∀ b u, b ≠ e -> h.get? b = some u -> h'.get? b = some u) (heo : ∃ u, h'.get? e = some u)
    (new : ObjOk P w (upd H x o') h' x o') : HOk P w (upd H x o') h' := fun b u q => by
  have nown : ∀ c y, H c = some (.own y) -> c ≠ x := fun c y r z => by subst z; rw [r] at mu; exact mu
  have ntup : ∀ c xs, H c = some (.tup xs) -> c ≠ x := fun c xs r z => by subst z; rw [r] at mu; exact mu
  by_cases hb : b = x
  . subst hb; rw [upd_same] at q; cases q; exact new
  . rw [z06 hb] at q
    by_cases hbe : b = e
    . have q' : H b = some (.own x) := by
        rcases he with z | z
        . exact absurd (hbe.trans z) hb
        . rw [hbe]; exact z
      rw [q] at q'; cases q'
      obtain ⟨v, hv⟩ := heo
      exact ⟨v, by rw [hbe]; exact hv⟩
    . refine (ok b u q).stay (fun c v hc r => k c v ?_ r) (fun c r => by rw [z06 (nown c b r)]; exact r) fun c xs r => by rw [z06 (ntup c xs r)]; exact r
      rcases hc with rfl | hc
      . exact hbe
      . rintro rfl
        rcases he with z | z
        . exact nown c b hc z
        . rw [hc] at z; cases z; exact hb rfl
end
structure Un (fs ex : List Addr) (H H' : Hp) (h h' : Heap) : Prop where
  keep : ∀ b o, h.get? b = some o -> H b = none -> b ∉ fs -> b ∉ ex -> h'.get? b = some o
  slot : ∀ b o, h.get? b = some o -> H b = none -> b ∈ fs -> b ∉ ex -> ∃ sl, h'.get? b = some { o with slots := sl }
  free : ∀ b o, h.get? b = some o -> H b = none -> b ∉ ex -> H' b = none
  there : ∀ b o, h.get? b = some o -> b ∉ ex -> ∃ o', h'.get? b = some o'
  tups : ∀ b xs, H b = some (.tup xs) -> H' b = some (.tup xs)
  frzs : ∀ b o u, H b = some (.frz o u) -> H' b = some (.frz o u)
  tbls : ∀ b ps, H b = some (.tbl ps) -> ∃ more, H' b = some (.tbl (ps ++ more))
section
variable {fs fs' ex ex' : List Addr} {H H1 H2 : Hp} {h h1 h2 h' : Heap} {a x e : Addr} {o : HO}
theorem Un.any (u : Un fs ex H H1 h h1) {b : Addr} {ob : Obj} (q : h.get? b = some ob) (n : H b = none) (hx : b ∉ ex) : ∃ sl, h1.get? b = some { ob with slots := sl } := by
  by_cases hb : b ∈ fs
  . exact u.slot b ob q n hb hx
  . exact ⟨ob.slots, u.keep b ob q n hb hx⟩
theorem Un.trans (a : Un fs ex H H1 h h1) (b : Un fs ex H1 H2 h1 h2) : Un fs ex H H2 h h2 where
  keep := fun c ob q n hc hx => b.keep c ob (a.keep c ob q n hc hx) (a.free c ob q n hx) hc hx
  slot := fun c ob q n hc hx => by
    obtain ⟨sl, e1⟩ := a.slot c ob q n hc hx
    obtain ⟨sl', e2⟩ := b.slot c _ e1 (a.free c ob q n hx) hc hx
    exact ⟨sl', e2⟩
  free := fun c ob q n hx => by
    obtain ⟨o', e1⟩ := a.there c ob q hx
    exact b.free c o' e1 (a.free c ob q n hx) hx
  there := fun c ob q hx => by
    obtain ⟨o', e1⟩ := a.there c ob q hx
    exact b.there c o' e1 hx
  tups := fun c xs q => b.tups c xs (a.tups c xs q)
  frzs := fun c ob xs q => b.frzs c ob xs (a.frzs c ob xs q)
  tbls := fun c ps q => by
    obtain ⟨m1, e1⟩ := a.tbls c ps q
    obtain ⟨m2, e2⟩ := b.tbls c _ e1
    exact ⟨m1 ++ m2, by rw [e2, Array.append_assoc]⟩
theorem Un.kept (k : ∀ b u, h.get? b = some u -> h'.get? b = some u) : Un fs ex H H h h' :=
  ⟨fun b ob q _ _ _ => k b ob q, fun b ob q _ _ _ => ⟨ob.slots, k b ob q⟩, fun _ _ _ n _ => n, fun b ob q _ => ⟨ob, k b ob q⟩, fun _ _ q => q, fun _ _ _ q => q, fun _ ps q => ⟨#[], by rw [q]; simp⟩⟩
theorem Un.refl : Un fs ex H H h h := Un.kept fun _ _ q => q
theorem Un.laid (k : ∀ b u, h.get? b = some u -> h'.get? b = some u) (hp : h.objs.size <= a) (hn : H a = none) : Un fs ex H (upd H a o) h h' where
  keep := fun b u q _ _ _ => k b u q
  slot := fun b u q _ _ _ => ⟨u.slots, k b u q⟩
  free := fun b u q n _ => by rw [z06 (Nat.ne_of_lt (Nat.lt_of_lt_of_le (Heap.lt_size q) hp))]; exact n
  there := fun b u q _ => ⟨u, k b u q⟩
  tups := fun b xs q => by rw [z06 (z08 q hn)]; exact q
  frzs := fun b u xs q => by rw [z06 (z08 q hn)]; exact q
  tbls := fun b ps q => ⟨#[], by rw [z06 (z08 q hn), q]; simp⟩
theorem Un.write (mu : Mut (H x)) (he : e = x \/ H e = some (.own x)) (k : ∀ b u, b ≠ e -> h.get? b = some u -> h'.get? b = some u) (heo : ∃ u, h'.get? e = some u) : Un fs ex H (upd H x o) h h' := by
  have hx : ∀ b, H b = none -> b ≠ x := fun b n z => by subst z; rw [n] at mu; exact mu
  have hb : ∀ b, H b = none -> b ≠ e := fun b n z => by
    subst z
    rcases he with r | r
    . exact hx b n r
    . rw [n] at r; cases r
  have hm : ∀ b u, H b = some u -> ¬ Mut (some u) -> b ≠ x := fun b u q nm z => by subst z; rw [q] at mu; exact nm mu
  refine ⟨fun b u q n _ _ => k b u (hb b n) q, fun b u q n _ _ => ⟨u.slots, k b u (hb b n) q⟩, fun b u q n _ => by rw [z06 (hx b n)]; exact n, fun b u q _ => ?_,
    fun b xs q => by rw [z06 (hm b _ q fun z => z)]; exact q, fun b u xs q => by rw [z06 (hm b _ q fun z => z)]; exact q, fun b ps q => ⟨#[], by rw [z06 (hm b _ q fun z => z), q]; simp⟩⟩
  by_cases hbe : b = e
  . subst hbe; exact heo
  . exact ⟨u, k b u hbe q⟩
theorem Un.mono (u : Un fs ex H H1 h h1) (hs : ∀ b ∈ fs, b ∈ fs') (hx : ∀ b ∈ ex, b ∈ ex') : Un fs' ex' H H1 h h1 :=
  ⟨fun b ob q n hb he => u.keep b ob q n (fun z => hb (hs b z)) fun z => he (hx b z), fun _ _ q n _ he => u.any q n fun z => he (hx _ z), fun b ob q n he => u.free b ob q n fun z => he (hx b z), fun b ob q he => u.there b ob q fun z => he (hx b z), u.tups, u.frzs, u.tbls⟩
end
def trk (h : Heap) (H : Hp) : List Addr := (List.range h.objs.size).filter fun a => (H a).isSome
def z3n (h : Heap) (H : Hp) : Heap := PySem.W.hideAll h (trk h H)
theorem z38 (h : Heap) (H : Hp) : (z3n h H).objs.size = h.objs.size := PySem.W.hideAll_size _ _
theorem z4I {h : Heap} {H : Hp} {b : Addr} {o : Obj} (e : h.get? b = some o) (n : H b = none) : (z3n h H).get? b = some o :=
  PySem.W.hideAll_get _ e fun hm => by
    have q : (H b).isSome = true := (List.mem_filter.mp hm).2
    rw [n] at q; simp at q
theorem z5E {h : Heap} {H : Hp} {b : Addr} {o : Obj} (e : (z3n h H).get? b = some o) : h.get? b = some o /\ H b = none := by
  have e' : h.get? b = some o := PySem.W.of_hideAll (trk h H) e
  refine ⟨e', ?_⟩
  cases q : H b with
  | none => rfl
  | some x =>
    have hm : b ∈ trk h H := List.mem_filter.mpr ⟨List.mem_range.mpr (Heap.lt_size e'), by simp [q]⟩
    have z : (z3n h H).get? b = none := PySem.W.hideAll_none (trk h H) hm
    rw [z] at e; cases e
def z7b (g h : Heap) (L : Addr) : List (Addr × Obj) := (List.range h.objs.size).filterMap fun a => if a = L \/ (g.get? a).isSome = true then none else (h.get? a).map fun o => (a, o)
def rest (g h : Heap) (L d : Addr) : List (Addr × Obj) := (z7b g h L).filter fun p => decide (p.1 ≠ d)
structure Mod (K : PySem.W.Frag) (mg : Str -> Option Value) (base : Heap) : Prop where
  kin : K.In base
  glob : base.Ns mainGlobals mg
  blt : ∃ mb, base.Ns builtinsNs mb /\ ∀ x : Str, x ≠ "__name__" -> mb x = bootBuiltins x
  nolimit : base.NoLimit
structure Cx where
  prog : Program
  w : World
  K : PySem.W.Frag
  mg : Str -> Option Value
  base : Heap
  A : Around
  N : List Str
  s₀ : Shared
  H₀ : Hp
  env : Env
  outer : List Env
  stack : List Env
  ex : List Addr
  fn : Str -> Bool
  calm : Bool
  pn : List (Addr × Obj)
  xe : Value -> Shared -> Prop
def frs (l : List Env) : List Addr := l.filterMap (·.frame)
abbrev Cx.fs (X : Cx) : List Addr := frs X.outer
def Vis (sc : Scope) (x : Str) : Prop := sc.names.lookup x = some .local \/ sc.names.lookup x = some .cell \/ sc.names.lookup x = some .free
def Loc (sc : Scope) (x : Str) : Prop := sc.names.lookup x = some .local \/ sc.names.lookup x = some .cell
def Look (env : Env) (h : Heap) (m : Str -> Option Value) (x : Str) (u : Value) : Prop :=
  (env.kindOf x = some .local /\ m x = some u) \/ ((env.kindOf x = some .cell \/ env.kindOf x = some .free) /\ ∃ c, env.cells.lookup x = some c /\ h.IsCell c (some u))
structure Cx.Ok (X : Cx) : Prop where
  mod : Mod X.K X.mg X.base
  kind : X.env.scope.kind = .function
  glob : X.env.globals = mainGlobals
  blt : X.env.builtins = builtinsNs
  above : X.s₀.heap.objs.size <= X.env.locals
  inj : ∀ x y c, X.env.cells.lookup x = some c -> X.env.cells.lookup y = some c -> x = y
  has : ∀ x, (X.env.kindOf x = some .cell \/ X.env.kindOf x = some .free) -> ∃ c, X.env.cells.lookup x = some c
  cab : ∀ x c, X.fn x = true -> X.env.cells.lookup x = some c -> X.s₀.heap.objs.size <= c
  hd : X.calm = true -> X.A.handled = none
  frames : X.A.frames = some X.stack
  stk : X.stack = X.outer \/ (X.stack = X.env :: X.outer /\ X.env.frame = some X.env.locals)
  exf : ∀ b ∈ X.ex, b ≠ X.env.locals /\ ∀ x c, X.env.cells.lookup x = some c -> c ≠ b
  bs : ∀ b o, X.base.get? b = some o -> X.s₀.heap.get? b = some o /\ X.H₀ b = none
  bsz : X.base.objs.size <= X.s₀.heap.objs.size
  noex : ∀ b o, X.base.get? b = some o -> b ∉ X.ex
  exfs : ∀ b ∈ X.ex, b ∉ X.fs
  funs : X.s₀.heap.FunFrames X.base X.outer
  frf : ∀ b ∈ X.fs, X.H₀ b = none
structure Inv (X : Cx) (pins : List (Addr × Obj)) (σ : List (Option V)) (H : Hp) (s : Shared) : Prop where
  ok : X.Ok
  os : s.os = X.s₀.os
  bare : AllBare s.gens
  base : Un X.fs X.ex X.H₀ H X.s₀.heap s.heap
  loc : ∃ m, s.heap.Ns X.env.locals m /\ ∀ (i : Nat) (x : Str) (v : V), X.N[i]? = some x -> σ[i]? = some (some v) -> Vis X.env.scope x -> ∃ u, RelV v u /\ Look X.env s.heap m x u
  cell : ∀ x c, X.env.cells.lookup x = some c -> ∃ v, s.heap.IsCell c v
  free : H X.env.locals = none
  freeC : ∀ x c, X.env.cells.lookup x = some c -> H c = none
  pin : ∀ p ∈ X.pn ++ pins, s.heap.get? p.1 = some p.2 /\ H p.1 = none /\ p.1 ≠ X.env.locals /\ p.1 ∉ X.fs /\ ∀ v, p.2.data ≠ .cell v
  hok : HOk X.prog X.w H s.heap
  len : σ.length = X.N.length
section
variable {X : Cx} {pins : List (Addr × Obj)} {σ : List (Option V)} {H H' : Hp} {s : Shared} {h' : Heap}
theorem Cx.Ok.nofr (ok : X.Ok) {b : Addr} {o : Obj} (e : X.base.get? b = some o) : b ∉ X.fs := fun hb => by
  have := (ok.funs.mem hb).1
  rw [e] at this; cases this
theorem Inv.bs (I : Inv X pins σ H s) : ∀ b o, X.base.get? b = some o -> s.heap.get? b = some o /\ H b = none := fun b o e =>
  ⟨I.base.keep b o (I.ok.bs b o e).1 (I.ok.bs b o e).2 (I.ok.nofr e) (I.ok.noex b o e), I.base.free b o (I.ok.bs b o e).1 (I.ok.bs b o e).2 (I.ok.noex b o e)⟩
theorem Inv.bk (I : Inv X pins σ H s) : ∀ b o, X.base.get? b = some o -> s.heap.get? b = some o := fun b o e => (I.bs b o e).1
theorem Inv.mod (I : Inv X pins σ H s) : Mod X.K X.mg X.base := I.ok.mod
theorem Inv.kIn (I : Inv X pins σ H s) : X.K.In s.heap := I.ok.mod.kin.keeps I.bk
theorem Inv.nolimit (I : Inv X pins σ H s) : s.heap.NoLimit := I.ok.mod.nolimit.keeps I.bk
theorem Inv.fr (I : Inv X pins σ H s) : ∃ m, Fr X.base X.env.locals s.heap m :=
  let ⟨m, hn, _⟩ := I.loc
  ⟨m, hn, I.bk, Nat.le_trans I.ok.bsz I.ok.above⟩
theorem Inv.lt (I : Inv X pins σ H s) : X.env.locals < s.heap.objs.size := let ⟨_, hn, _⟩ := I.loc; hn.lt
theorem Inv.sz (I : Inv X pins σ H s) : X.s₀.heap.objs.size <= s.heap.objs.size := Nat.le_trans I.ok.above (Nat.le_of_lt I.lt)
theorem Inv.nofs (I : Inv X pins σ H s) {a : Addr} (h : s.heap.objs.size <= a) : a ∉ X.fs := fun hb => by
  obtain ⟨_, o, ho, _⟩ := I.ok.funs.mem hb
  exact absurd (Nat.lt_of_lt_of_le (Heap.lt_size ho) (Nat.le_trans I.sz h)) (Nat.lt_irrefl _)
theorem Inv.cne (I : Inv X pins σ H s) : ∀ x c, X.env.cells.lookup x = some c -> c ≠ X.env.locals := fun x c e z => by
  obtain ⟨v, o, ho, hd⟩ := I.cell x c e
  obtain ⟨m, ⟨o', es, ep, ho', hd', _⟩, _⟩ := I.loc
  rw [z, ho'] at ho; cases ho; rw [hd'] at hd; cases hd
theorem Inv.funs (I : Inv X pins σ H s) : s.heap.FunFrames X.base X.outer := by
  have all : ∀ (l : List Env), (∀ b ∈ frs l, b ∈ X.fs) -> X.s₀.heap.FunFrames X.base l -> s.heap.FunFrames X.base l := by
    intro l
    induction l with
    | nil => intro _ _; trivial
    | cons env r ih =>
      intro hs hl
      obtain ⟨hk, ⟨L, o, hf, hn, ho, hd⟩, hr⟩ := hl
      have hL : L ∈ X.fs := hs L (by unfold frs; rw [List.filterMap_cons, hf]; exact List.mem_cons_self)
      obtain ⟨sl, e⟩ := I.base.slot L o ho (I.ok.frf L hL) hL fun z => I.ok.exfs L z hL
      exact ⟨hk, ⟨L, _, hf, hn, e, hd⟩, ih (fun b hb => hs b (by unfold frs; rw [List.filterMap_cons, hf]; exact List.mem_cons_of_mem _ hb)) hr⟩
  exact all X.outer (fun _ hb => hb) I.ok.funs
theorem Inv.stack (I : Inv X pins σ H s) : s.heap.FunFrames X.base X.stack := by
  rcases I.ok.stk with e | ⟨e, hf⟩
  . rw [e]; exact I.funs
  . rw [e]
    obtain ⟨m, hn, _⟩ := I.loc
    refine .cons (by rw [I.ok.kind]; decide) hf hn ?_ I.funs
    exact Heap.get?_none_of_le (Nat.le_trans I.ok.bsz I.ok.above)
theorem Inv.stkSub (I : Inv X pins σ H s) : ∀ b ∈ frs X.stack, b ∈ X.env.locals :: X.fs := fun b hb => by
  rcases I.ok.stk with e | ⟨e, hf⟩
  . rw [e] at hb; exact List.mem_cons_of_mem _ hb
  . rw [e] at hb
    unfold frs at hb
    rw [List.filterMap_cons, hf] at hb
    exact hb
theorem Inv.stkFree (I : Inv X pins σ H s) : ∀ b ∈ frs X.stack, H b = none := fun b hb => by
  rcases List.mem_cons.mp (I.stkSub b hb) with e | hb
  . rw [e]; exact I.free
  . obtain ⟨_, o, ho, _⟩ := I.ok.funs.mem hb
    exact I.base.free b o ho (I.ok.frf b hb) fun z => I.ok.exfs b z hb
theorem Inv.step {g' : Array GenState} {t' : Nat} {d' : Drawn} {ch : List Addr} (I : Inv X pins σ H s)
    (hch : ∀ b ∈ ch, (b ∈ X.ex \/ X.s₀.heap.objs.size <= b) /\ b ≠ X.env.locals /\ (∀ x c, X.env.cells.lookup x = some c -> c ≠ b) /\ ∀ p ∈ X.pn ++ pins, p.1 ≠ b)
    (keep : ∀ b o, b ≠ X.env.locals -> b ∉ X.fs -> b ∉ ch -> s.heap.get? b = some o -> H b = none -> h'.get? b = some o)
    (slot : ∀ b o, b ≠ X.env.locals -> b ∈ X.fs -> b ∉ ch -> s.heap.get? b = some o -> H b = none -> ∃ sl, h'.get? b = some { o with slots := sl }) (free : ∀ b o, b ∉ ch -> s.heap.get? b = some o -> H b = none -> H' b = none)
    (there : ∀ b o, b ∉ ch -> s.heap.get? b = some o -> ∃ o', h'.get? b = some o')
    (tups : ∀ b xs, H b = some (.tup xs) -> H' b = some (.tup xs)) (frzs : ∀ b o u, H b = some (.frz o u) -> H' b = some (.frz o u)) (tbls : ∀ b ps, H b = some (.tbl ps) -> ∃ more, H' b = some (.tbl (ps ++ more)))
    (ns : ∀ m, s.heap.Ns X.env.locals m -> h'.Ns X.env.locals m) (hok : HOk X.prog X.w H' h') (hg : AllBare g') :
    Inv X pins σ H' { s with heap := h', gens := g', drawn := d', toks := t' } := by
  have neL : ∀ b o, X.s₀.heap.get? b = some o -> b ≠ X.env.locals := fun b o e => Nat.ne_of_lt (Nat.lt_of_lt_of_le (Heap.lt_size e) I.ok.above)
  have neC : ∀ b o, X.s₀.heap.get? b = some o -> b ∉ X.ex -> b ∉ ch := fun b o e hx hb => by
    rcases (hch b hb).1 with z | z
    . exact hx z
    . exact absurd (Nat.lt_of_lt_of_le (Heap.lt_size e) z) (Nat.lt_irrefl _)
  have cellK : ∀ x c, X.env.cells.lookup x = some c -> ∀ v, s.heap.IsCell c v -> h'.IsCell c v := fun x c e v ⟨o, ho, hd⟩ => by
    have nch : c ∉ ch := fun z => (hch c z).2.2.1 x c e rfl
    by_cases hc : c ∈ X.fs
    . obtain ⟨sl, q⟩ := slot c o (I.cne x c e) hc nch ho (I.freeC x c e)
      exact ⟨_, q, hd⟩
    . exact ⟨o, keep c o (I.cne x c e) hc nch ho (I.freeC x c e), hd⟩
  refine ⟨I.ok, I.os, hg, ⟨fun b o e n hb hx => ?_, fun b o e n hb hx => ?_, fun b o e n hx => ?_, fun b o e hx => ?_, fun b xs e => tups b xs (I.base.tups b xs e), fun b o xs e => frzs b o xs (I.base.frzs b o xs e), fun b ps e => ?_⟩, ?_, fun x c e => ?_, ?_, fun x c e => ?_, fun p hp => ?_, hok, I.len⟩
  . exact keep b o (neL b o e) hb (neC b o e hx) (I.base.keep b o e n hb hx) (I.base.free b o e n hx)
  . obtain ⟨sl, e1⟩ := I.base.slot b o e n hb hx
    obtain ⟨sl', e2⟩ := slot b _ (neL b o e) hb (neC b o e hx) e1 (I.base.free b o e n hx)
    exact ⟨sl', e2⟩
  . obtain ⟨o', e1⟩ := I.base.there b o e hx
    exact free b o' (neC b o e hx) e1 (I.base.free b o e n hx)
  . obtain ⟨o', e1⟩ := I.base.there b o e hx
    exact there b o' (neC b o e hx) e1
  . obtain ⟨m1, e1⟩ := I.base.tbls b ps e
    obtain ⟨m2, e2⟩ := tbls b _ e1
    exact ⟨m1 ++ m2, by rw [e2, Array.append_assoc]⟩
  . obtain ⟨m, hn, hl⟩ := I.loc
    refine ⟨m, ns m hn, fun i x v e1 e2 e3 => ?_⟩
    obtain ⟨u, r, l⟩ := hl i x v e1 e2 e3
    refine ⟨u, r, ?_⟩
    rcases l with l | ⟨k, c, e, z⟩
    . exact .inl l
    . exact .inr ⟨k, c, e, cellK x c e _ z⟩
  . obtain ⟨v, z⟩ := I.cell x c e
    exact ⟨v, cellK x c e v z⟩
  . obtain ⟨m, ⟨o, _, _, ho, _⟩, _⟩ := I.loc
    exact free _ o (fun z => (hch _ z).2.1 rfl) ho I.free
  . obtain ⟨v, o, ho, hd⟩ := I.cell x c e
    exact free c o (fun z => (hch c z).2.2.1 x c e rfl) ho (I.freeC x c e)
  . obtain ⟨e, n, ne, nf, d⟩ := I.pin p hp
    have nch : p.1 ∉ ch := fun z => (hch p.1 z).2.2.2 p hp rfl
    exact ⟨keep p.1 p.2 ne nf nch e n, free p.1 p.2 nch e n, ne, nf, d⟩
theorem Inv.un {t' : Nat} (I : Inv X pins σ H s) (u : Un X.fs [] H H' s.heap h') (hok : HOk X.prog X.w H' h') : Inv X pins σ H' { s with heap := h', toks := t' } := by
  obtain ⟨m, ⟨o, es, ep, ho, r⟩, _⟩ := id I.loc
  obtain ⟨sl, hL⟩ := u.any ho I.free (by simp)
  exact I.step (g' := s.gens) (d' := s.drawn) (ch := []) (fun _ z => nomatch z) (fun b o _ hb _ e n => u.keep b o e n hb (by simp)) (fun b o _ hb _ e n => u.slot b o e n hb (by simp)) (fun b o _ e n => u.free b o e n (by simp)) (fun b o _ e => u.there b o e (by simp)) u.tups u.frzs u.tbls (fun m' hm => by
    obtain ⟨o', es', ep', ho', r'⟩ := hm
    rw [ho] at ho'; cases ho'
    exact ⟨_, es', ep', hL, r'⟩) hok I.bare
theorem Inv.call {g' : Array GenState} {t' : Nat} {d' : Drawn} {ch : List Addr} (I : Inv X pins σ H s) (u : Un (frs X.stack) ch H H' s.heap h') (hok : HOk X.prog X.w H' h') (hg : AllBare g')
    (hch : ∀ b ∈ ch, (b ∈ X.ex \/ X.s₀.heap.objs.size <= b) /\ b ≠ X.env.locals /\ (∀ x c, X.env.cells.lookup x = some c -> c ≠ b) /\ ∀ p ∈ X.pn ++ pins, p.1 ≠ b) :
    Inv X pins σ H' { s with heap := h', gens := g', drawn := d', toks := t' } := by
  obtain ⟨m, ⟨o, es, ep, ho, r⟩, _⟩ := id I.loc
  obtain ⟨sl, hL⟩ := u.any ho I.free fun z => (hch _ z).2.1 rfl
  exact I.step (ch := ch) hch (fun b o hL hb hc e n => u.keep b o e n (fun z => (List.mem_cons.mp (I.stkSub b z)).elim hL hb) hc) (fun b o _ _ hc e n => u.any e n hc) (fun b o hc e n => u.free b o e n hc) (fun b o hc e => u.there b o e hc) u.tups u.frzs u.tbls (fun m' hm => by
    obtain ⟨o', es', ep', ho', r'⟩ := hm
    rw [ho] at ho'; cases ho'
    exact ⟨_, es', ep', hL, r'⟩) hok hg
theorem Inv.turned {t' : Nat} {it : Addr} (I : Inv X pins σ H s) (k : ∀ b o, b ≠ it -> s.heap.get? b = some o -> h'.get? b = some o) (hn : H it = none) (hL : it ≠ X.env.locals)
    (h1 : it ∈ X.ex \/ X.s₀.heap.objs.size <= it) (h2 : ∀ x c, X.env.cells.lookup x = some c -> c ≠ it) (h3 : ∀ p ∈ X.pn ++ pins, p.1 ≠ it) : Inv X pins σ H { s with heap := h', toks := t' } := by
  have nit : ∀ b u, H b = some u -> b ≠ it := fun b u e z => by rw [z, hn] at e; cases e
  refine I.step (g' := s.gens) (d' := s.drawn) (ch := [it]) (fun b hb => ?_) (fun b o _ _ hc e _ => k b o (fun z => hc (by simp [z])) e) (fun b o _ _ hc e _ => ⟨o.slots, k b o (fun z => hc (by simp [z])) e⟩) (fun _ _ _ _ n => n)
    (fun b o hc e => ⟨o, k b o (fun z => hc (by simp [z])) e⟩) (fun _ _ e => e) (fun _ _ _ e => e) (fun b ps e => ⟨#[], by rw [e]; simp⟩) (fun m hm => ?_) (fun b u e => ?_) I.bare
  . have e : b = it := by simpa using hb
    subst e
    exact ⟨h1, hL, h2, h3⟩
  . obtain ⟨o, es, ep, ho, r⟩ := hm
    exact ⟨o, es, ep, k _ o (Ne.symm hL) ho, r⟩
  . refine (I.hok b u e).stay (fun c v hc q => k c v ?_ q) (fun _ q => q) fun _ _ q => q
    rcases hc with z | z
    . rw [z]; exact nit b u e
    . exact nit c _ z
theorem Inv.tok (I : Inv X pins σ H s) (t : Nat) : Inv X pins σ H { s with toks := t } := I.un (h' := s.heap) (t' := t) Un.refl I.hok
theorem Inv.kept {t' : Nat} (I : Inv X pins σ H s) (k : ∀ b u, s.heap.get? b = some u -> h'.get? b = some u) : Inv X pins σ H { s with heap := h', toks := t' } := I.un (Un.kept k) (I.hok.kept k)
theorem Inv.laid {a : Addr} {o : HO} {t' : Nat} (I : Inv X pins σ H s) (k : ∀ b u, s.heap.get? b = some u -> h'.get? b = some u) (hp : s.heap.objs.size <= a) (new : ObjOk X.prog X.w (upd H a o) h' a o) :
    Inv X pins σ (upd H a o) { s with heap := h', toks := t' } := I.un (Un.laid k hp (I.hok.fresh hp)) (I.hok.laid k hp new)
theorem Inv.write {x e : Addr} {o : HO} {t' : Nat} (I : Inv X pins σ H s) (mu : Mut (H x)) (he : e = x \/ H e = some (.own x)) (k : ∀ b u, b ≠ e -> s.heap.get? b = some u -> h'.get? b = some u) (heo : ∃ u, h'.get? e = some u)
    (new : ObjOk X.prog X.w (upd H x o) h' x o) : Inv X pins σ (upd H x o) { s with heap := h', toks := t' } := I.un (Un.write mu he k heo) (I.hok.write mu he k heo new)
theorem Inv.pins_of {pins' : List (Addr × Obj)} (I : Inv X pins σ H s) (h : ∀ p ∈ pins', s.heap.get? p.1 = some p.2 /\ H p.1 = none /\ p.1 ≠ X.env.locals /\ p.1 ∉ X.fs /\ ∀ v, p.2.data ≠ .cell v) : Inv X pins' σ H s :=
  ⟨I.ok, I.os, I.bare, I.base, I.loc, I.cell, I.free, I.freeC, fun p hp => (List.mem_append.mp hp).elim (fun z => I.pin p (List.mem_append_left _ z)) (h p), I.hok, I.len⟩
theorem z4J {N : List Str} (hN : N.Nodup) {i j : Nat} {x : Str} (a : N[i]? = some x) (b : N[j]? = some x) : i = j := by
  obtain ⟨h1, e1⟩ := List.getElem?_eq_some_iff.mp a
  obtain ⟨h2, e2⟩ := List.getElem?_eq_some_iff.mp b
  exact (List.getElem_inj hN).mp (e1.trans e2.symm)
theorem z39 {M : Model} {A : Around} {E : Value -> Shared -> Prop} {i : Nat} {x : Str} {v : V} {u : Value} {Q : Unit -> Shared -> Prop} (I : Inv X pins σ H s) (hN : X.N.Nodup) (hi : X.N[i]? = some x) (hx : Loc X.env.scope x) (r : RelV v u)
    (h : ∀ s', Inv X pins (σ.set i (some v)) H s' -> (∃ a, Heap.SameBut a s.heap s'.heap /\ (a = X.env.locals \/ X.env.cells.lookup x = some a)) -> Q () s') (hf : X.fn x = true \/ X.env.scope.names.lookup x = some .local := by first | exact .inl rfl | exact .inr rfl | assumption) : wpAny M A (storeName X.env x u) Q E s := by
  obtain ⟨m, hn, hl⟩ := id I.loc
  have hcls : (X.env.scope.kind == .class || (X.env.scope.kind == .module && X.env.locals != X.env.globals)) = false := by rw [I.ok.kind]; rfl
  have hiσ : i < σ.length := by rw [I.len]; exact (List.getElem?_eq_some_iff.mp hi).1
  have cne := I.cne
  have tracked : ∀ {a : Addr} {h' : Heap}, (∃ o, s.heap.get? a = some o /\ H a = none) -> Heap.SameBut a s.heap h' -> HOk X.prog X.w H h' := fun {a h'} ha hs b ob e => by
    obtain ⟨_, _, hfree⟩ := ha
    refine (I.hok b ob e).stay (fun c w' hc q => (hs.2 c ?_).trans q) (fun _ q => q) fun _ _ q => q
    rintro rfl
    rcases hc with rfl | hc
    . rw [hfree] at e; cases e
    . rw [hfree] at hc; cases hc
  rcases hx with hk | hk
  . refine wpAny_storeName_local hk hn (fun h' hn' hs => ?_) hcls
    obtain ⟨oL, _, _, hoL, _⟩ := id hn
    refine h _ ⟨I.ok, I.os, I.bare, ⟨fun b o e n hb hx => ?_, fun b o e n hb hx => ?_, I.base.free, fun b o e hx => ?_, I.base.tups, I.base.frzs, I.base.tbls⟩, ⟨_, hn', fun j y v' e1 e2 e3 => ?_⟩, fun y c e => ?_, I.free, I.freeC, fun p hp => ?_, tracked ⟨oL, hoL, I.free⟩ hs, by simpa using I.len⟩ ⟨_, hs, .inl rfl⟩
    . exact (hs.2 b (Nat.ne_of_lt (Nat.lt_of_lt_of_le (Heap.lt_size e) I.ok.above))).trans (I.base.keep b o e n hb hx)
    . obtain ⟨sl, e1⟩ := I.base.slot b o e n hb hx
      exact ⟨sl, (hs.2 b (Nat.ne_of_lt (Nat.lt_of_lt_of_le (Heap.lt_size e) I.ok.above))).trans e1⟩
    . obtain ⟨o', e1⟩ := I.base.there b o e hx
      exact ⟨o', (hs.2 b (Nat.ne_of_lt (Nat.lt_of_lt_of_le (Heap.lt_size e) I.ok.above))).trans e1⟩
    . by_cases hj : j = i
      . subst hj
        rw [hi] at e1; cases e1
        rw [List.getElem?_set_self hiσ] at e2
        cases e2
        exact ⟨u, r, .inl ⟨hk, by simp⟩⟩
      . rw [List.getElem?_set_ne (Ne.symm hj)] at e2
        obtain ⟨u', r', q⟩ := hl j y v' e1 e2 e3
        refine ⟨u', r', ?_⟩
        rcases q with ⟨k, e⟩ | ⟨k, c, e, z⟩
        . refine .inl ⟨k, ?_⟩
          have : y ≠ x := fun e => hj (z4J hN e1 (e ▸ hi))
          simp [this, e]
        . exact .inr ⟨k, c, e, z.sameBut hs (cne y c e)⟩
    . obtain ⟨w', z⟩ := I.cell y c e
      exact ⟨w', z.sameBut hs (cne y c e)⟩
    . obtain ⟨e, n, ne, nf, d⟩ := I.pin p hp
      exact ⟨(hs.2 p.1 ne).trans e, n, ne, nf, d⟩
  . have hfn : X.fn x = true := by
      rcases hf with z | z
      . exact z
      . rw [z] at hk; cases hk
    obtain ⟨c, hc⟩ := I.ok.has x (.inl hk)
    obtain ⟨w', z⟩ := I.cell x c hc
    refine wpAny_storeName_cell I.ok.kind hk hc z (fun h' hc' hs => ?_)
    obtain ⟨oc, hoc, hocd⟩ := id z
    refine h { s with heap := h' } ⟨I.ok, I.os, I.bare, ⟨fun b o e n hb hx => ?_, fun b o e n hb hx => ?_, I.base.free, fun b o e hx => ?_, I.base.tups, I.base.frzs, I.base.tbls⟩, ⟨m, hn.sameBut hs (Ne.symm (cne x c hc)), fun j y v' e1 e2 e3 => ?_⟩, fun y c' e => ?_, I.free, I.freeC, fun p hp => ?_, tracked ⟨oc, hoc, I.freeC x c hc⟩ hs, by simpa using I.len⟩ ⟨c, hs, .inr hc⟩
    . exact (hs.2 b (Nat.ne_of_lt (Nat.lt_of_lt_of_le (Heap.lt_size e) (I.ok.cab x c hfn hc)))).trans (I.base.keep b o e n hb hx)
    . obtain ⟨sl, e1⟩ := I.base.slot b o e n hb hx
      exact ⟨sl, (hs.2 b (Nat.ne_of_lt (Nat.lt_of_lt_of_le (Heap.lt_size e) (I.ok.cab x c hfn hc)))).trans e1⟩
    . obtain ⟨o', e1⟩ := I.base.there b o e hx
      exact ⟨o', (hs.2 b (Nat.ne_of_lt (Nat.lt_of_lt_of_le (Heap.lt_size e) (I.ok.cab x c hfn hc)))).trans e1⟩
    . by_cases hj : j = i
      . subst hj
        rw [hi] at e1; cases e1
        rw [List.getElem?_set_self hiσ] at e2
        cases e2
        exact ⟨u, r, .inr ⟨.inl hk, c, hc, hc'⟩⟩
      . rw [List.getElem?_set_ne (Ne.symm hj)] at e2
        obtain ⟨u', r', q⟩ := hl j y v' e1 e2 e3
        refine ⟨u', r', ?_⟩
        rcases q with q | ⟨k, c', e, z'⟩
        . exact .inl q
        . refine .inr ⟨k, c', e, z'.sameBut hs ?_⟩
          rintro rfl
          exact hj (z4J hN e1 (I.ok.inj _ _ _ e hc ▸ hi))
    . by_cases hcc : c' = c
      . subst hcc; exact ⟨_, hc'⟩
      . obtain ⟨w2, z2⟩ := I.cell y c' e
        exact ⟨w2, z2.sameBut hs hcc⟩
    . obtain ⟨e, n, ne, nf, d⟩ := I.pin p hp
      refine ⟨(hs.2 p.1 ?_).trans e, n, ne, nf, d⟩
      intro q
      rw [q, hoc] at e
      have q' : oc = p.2 := Option.some.inj e
      exact d w' (by rw [<- q']; exact hocd)
theorem z4K {M : Model} {A : Around} {E : Value -> Shared -> Prop} {i : Nat} {x : Str} {v : V} {u : Value} {Q : Unit -> Shared -> Prop} (I : Inv X pins σ H s) (hN : X.N.Nodup) (hi : X.N[i]? = some x) (hx : Loc X.env.scope x) (r : RelV v u)
    (h : ∀ s', Inv X pins (σ.set i (some v)) H s' -> Q () s') (hf : X.fn x = true \/ X.env.scope.names.lookup x = some .local := by first | exact .inl rfl | exact .inr rfl | assumption) : wpAny M A (storeName X.env x u) Q E s :=
  z39 I hN hi hx r (fun s' I' _ => h s' I') hf
theorem Inv.call' {s' : Shared} {ch : List Addr} (I : Inv X pins σ H s) (ho : s'.os = s.os) (u : Un (frs X.stack) ch H H' s.heap s'.heap) (hok : HOk X.prog X.w H' s'.heap) (hg : AllBare s'.gens)
    (hch : ∀ b ∈ ch, (b ∈ X.ex \/ X.s₀.heap.objs.size <= b) /\ b ≠ X.env.locals /\ (∀ x c, X.env.cells.lookup x = some c -> c ≠ b) /\ ∀ p ∈ X.pn ++ pins, p.1 ≠ b) : Inv X pins σ H' s' := by
  obtain ⟨h', g', d', t', o'⟩ := s'
  have e : o' = s.os := ho
  subst e
  exact I.call (g' := g') (t' := t') (d' := d') u hok hg hch
end
abbrev XK := Value -> Option Addr -> Hp -> Prop
abbrev St := List (Option V)
abbrev VK := V -> Hp -> Prop
abbrev TE := St -> Hp -> VK -> Prop
abbrev TT := St -> Hp -> (Bool -> Hp -> Prop) -> Prop
abbrev TA := St -> Hp -> (List V -> Hp -> Prop) -> Prop
structure Ends where
  nx : St -> Hp -> Prop
  rt : VK
  bk : St -> Hp -> Prop := fun _ _ => False
  ct : St -> Hp -> Prop := fun _ _ => False
abbrev TS := Ends -> St -> Hp -> Prop
def EP (X : Cx) (pins : List (Addr × Obj)) (σ : St) (Q : VK) (u : Value) (s' : Shared) : Prop := ∃ v H', Inv X pins σ H' s' /\ RelV v u /\ Q v H'
def TP (X : Cx) (pins : List (Addr × Obj)) (σ : St) (Q : Bool -> Hp -> Prop) (b : Bool) (s' : Shared) : Prop := ∃ H', Inv X pins σ H' s' /\ Q b H'
def AP (X : Cx) (pins : List (Addr × Obj)) (σ : St) (Q : List V -> Hp -> Prop) (us : List Value) (s' : Shared) : Prop := ∃ vs H', Inv X pins σ H' s' /\ Vals vs us /\ Q vs H'
def SP (X : Cx) (pins : List (Addr × Obj)) (D : Ends) (f : Flow) (s' : Shared) : Prop :=
  match f with
  | .next => ∃ σ' H', Inv X pins σ' H' s' /\ D.nx σ' H'
  | .brk => ∃ σ' H', Inv X pins σ' H' s' /\ D.bk σ' H'
  | .cont => ∃ σ' H', Inv X pins σ' H' s' /\ D.ct σ' H'
  | .ret u => ∃ v σ' H', Inv X pins σ' H' s' /\ RelV v u /\ D.rt v H'
def PE (X : Cx) (e : Expr) (t : TE) : Prop :=
  ∀ (pins : List (Addr × Obj)) (s : Shared) (σ : St) (H : Hp) (Q : VK), Inv X pins σ H s -> t σ H Q -> wpAny (model X.prog X.w) X.A (eval e X.env) (EP X pins σ Q) X.xe s
def PT (X : Cx) (e : Expr) (t : TT) : Prop :=
  ∀ (pins : List (Addr × Obj)) (s : Shared) (σ : St) (H : Hp) (Q : Bool -> Hp -> Prop), Inv X pins σ H s -> t σ H Q -> wpAny (model X.prog X.w) X.A (isTrue e X.env (eval e X.env)) (TP X pins σ Q) X.xe s
def PW (X : Cx) (e : Expr) (t : TT) : Prop :=
  ∀ (whole : Sem Value) (pins : List (Addr × Obj)) (s : Shared) (σ : St) (H : Hp) (Q : Bool -> Hp -> Prop), Inv X pins σ H s -> t σ H Q -> wpAny (model X.prog X.w) X.A (isTrue e X.env whole) (TP X pins σ Q) X.xe s
theorem PW.pt {X : Cx} {e : Expr} {t : TT} (h : PW X e t) : PT X e t := h _
def PA (X : Cx) (es : List Expr) (t : TA) : Prop :=
  ∀ (pos : Pos) (pins : List (Addr × Obj)) (s : Shared) (σ : St) (H : Hp) (Q : List V -> Hp -> Prop), Inv X pins σ H s -> t σ H Q -> wpAny (model X.prog X.w) X.A (spliced (backTo pos (starEach es X.env))) (AP X pins σ Q) X.xe s
def PS (X : Cx) (st : Stmt) (t : TS) : Prop :=
  ∀ (pins : List (Addr × Obj)) (s : Shared) (σ : St) (H : Hp) (D : Ends), Inv X pins σ H s -> t D σ H -> wpAny (model X.prog X.w) X.A (exec st X.env) (SP X pins D) X.xe s
def PSs (X : Cx) (st : List Stmt) (t : TS) : Prop :=
  ∀ (pins : List (Addr × Obj)) (s : Shared) (σ : St) (H : Hp) (D : Ends), Inv X pins σ H s -> t D σ H -> wpAny (model X.prog X.w) X.A (execs st X.env) (SP X pins D) X.xe s
theorem thn {α : Type} {t : Sem α} {Q Q' : α -> Shared -> Prop} {M : Model} {A : Around} {E : Value -> Shared -> Prop} {s : Shared} (h : wpAny M A t Q E s) (hQ : ∀ a s, Q a s -> Q' a s) : wpAny M A t Q' E s := wpAny_mono h hQ fun _ _ x => x
section
variable {X : Cx}
def z9E (i : Nat) : TE := fun σ H Q => ∃ v, σ[i]? = some (some v) /\ Q v H
def tC (v : V) : TE := fun _ H Q => Q v H
theorem z8T {i : Nat} {x : Str} {pos : Pos} (hN : X.N[i]? = some x) (hv : Vis X.env.scope x) (hd : (x == ("__debug__" : Str)) = false := by decide) (hcd : (x == ("__classdict__" : Str)) = false := by decide) : PE X (.Name x pos) (z9E i) := by
  intro pins s σ H Q I h
  obtain ⟨v, e, h⟩ := h
  obtain ⟨m, hn, hl⟩ := I.loc
  obtain ⟨u, r, l⟩ := hl i x v hN e hv
  have fin : EP X pins σ Q u s := ⟨v, H, I, r, h⟩
  rcases l with ⟨hk, hm⟩ | ⟨hk, c, hc, hcell⟩
  . exact wpAny_Name (wpAny_loadName_local I.ok.kind hk hn hm fin) hd
  . rcases hk with hk | hk
    . exact wpAny_Name (wpAny_loadName_cell I.ok.kind hk hc hcell fin) hd
    . exact wpAny_Name (wpAny_loadName_free I.ok.kind hk hc hcell fin hcd) hd
theorem z01 {i j pos} : PE X (.Constant (.int i) j pos) (tC (.int i)) := fun _ _ _ H _ I h => wpAny_Constant_int ⟨.int i, H, I.tok _, ⟨_, rfl⟩, h⟩
theorem z4g {b j pos} : PE X (.Constant (.bool b) j pos) (tC (.bl b)) := fun _ _ _ H _ I h => Constant_bool ⟨.bl b, H, I, rfl, h⟩
theorem z1q {j pos} : PE X (.Constant .none j pos) (tC .non) := fun _ _ _ H _ I h => Constant_none ⟨.non, H, I, rfl, h⟩
def Gl (X : Cx) (x : Str) : Prop := X.env.kindOf x = some .globalImplicit
theorem z7c {E : Value -> Shared -> Prop} {pins : List (Addr × Obj)} {s : Shared} {σ : St} {H : Hp} {x : Str} {u : Value} {pos : Pos} {Q : Value -> Shared -> Prop} (I : Inv X pins σ H s) (hg : Gl X x) (hm : X.mg x = some u) (h : Q u s)
    (hd : (x == ("__debug__" : Str)) = false := by decide) : wpAny (model X.prog X.w) X.A (eval (.Name x pos) X.env) Q E s :=
  Calls.Name_function_global I.ok.kind hg (Calls.loadGlobal_global (by rw [I.ok.glob]; exact I.mod.glob.keeps I.bk) hm h) hd
theorem z1X {E : Value -> Shared -> Prop} {pins : List (Addr × Obj)} {s : Shared} {σ : St} {H : Hp} {x : Str} {u : Value} {pos : Pos} {Q : Value -> Shared -> Prop} (I : Inv X pins σ H s) (hg : Gl X x) (hm : X.mg x = none) (hv : bootBuiltins x = some u) (h : Q u s)
    (hn : x ≠ "__name__" := by decide) (hd : (x == ("__debug__" : Str)) = false := by decide) : wpAny (model X.prog X.w) X.A (eval (.Name x pos) X.env) Q E s := by
  obtain ⟨mb, h1, h2⟩ := I.mod.blt
  exact Calls.Name_function_global I.ok.kind hg (Calls.loadGlobal_builtin (by rw [I.ok.glob]; exact I.mod.glob.keeps I.bk) hm (by rw [I.ok.blt]; exact h1.keeps I.bk) ((h2 x hn).trans hv) h) hd
theorem z20 {x : Str} {v : V} {u : Value} {pos : Pos} (hg : Gl X x) (hm : X.mg x = none) (hv : bootBuiltins x = some u) (r : RelV v u) (hn : x ≠ "__name__" := by decide) (hd : (x == ("__debug__" : Str)) = false := by decide) : PE X (.Name x pos) (tC v) :=
  fun _ _ _ H _ I h => z1X I hg hm hv ⟨v, H, I, r, h⟩ hn hd
def t2I (ta tb : TE) (k : Int -> Int -> Hp -> Prop) : St -> Hp -> Prop := fun σ H => ta σ H fun x H1 => tb σ H1 fun y H2 => ∃ i j, x = .int i /\ y = .int j /\ k i j H2
def zBg (ta tb : TE) : TE := fun σ H Q => t2I ta tb (fun i j H2 => Q (.int (i + j)) H2) σ H
def zBh (ta tb : TE) : TE := fun σ H Q => t2I ta tb (fun i j H2 => Q (.int (i - j)) H2) σ H
def zBi (ta tb : TE) : TE := fun σ H Q => t2I ta tb (fun i j H2 => (-(2 ^ 64) < i /\ i < 2 ^ 64) /\ Q (.int (i * j)) H2) σ H
variable {a b : Expr} {ta tb : TE} {pos : Pos}
def PC (X : Cx) (op : CmpOp) (a b : Expr) (t : TE) : Prop :=
  ∀ (pins : List (Addr × Obj)) (s : Shared) (σ : St) (H : Hp) (Q : VK), Inv X pins σ H s -> t σ H Q ->
    wpAny (model X.prog X.w) X.A (eval a X.env) (fun v s₁ => wpAny (model X.prog X.w) X.A (eval b X.env) (fun u s₂ => wpAny (model X.prog X.w) X.A (compareOp op v u) (EP X pins σ Q) X.xe s₂) X.xe s₁) X.xe s
def z8G (p : Int -> Int -> Bool) (ta tb : TE) : TE := fun σ H Q => t2I ta tb (fun i j H2 => Q (.bl (p i j)) H2) σ H
abbrev tLt : TE -> TE -> TE := z8G fun i j => decide (i < j)
abbrev tLe : TE -> TE -> TE := z8G fun i j => decide (i <= j)
abbrev tGt : TE -> TE -> TE := z8G fun i j => decide (j < i)
abbrev tGe : TE -> TE -> TE := z8G fun i j => decide (j <= i)
abbrev zBj : TE -> TE -> TE := z8G fun i j => decide (i = j)
abbrev zBk : TE -> TE -> TE := z8G fun i j => !decide (i = j)
def zBl (ta : TE) : TE := fun σ H Q => ta σ H fun x H1 => Q (.bl (decide (x = .non))) H1
def zAx (ta : TE) : TE := fun σ H Q => ta σ H fun x H1 => Q (.bl (!decide (x = .non))) H1
def tB (t : TE) : TT := fun σ H Q => t σ H fun x H1 => ∃ c, x = .bl c /\ Q c H1
theorem z1Y {e : Expr} {t : TE} (h : PE X e t) (he : ∀ whole, isTrue e X.env whole = (do let v <- whole; standAt e.pos; holding [v] (truthy v)) := by intro _; rfl) : PT X e (tB t) := by
  intro pins s σ H Q I hw
  refine isTrue_plain (thn (h pins s σ H _ I hw) fun v s1 ⟨x, H1, I1, r1, q1⟩ => ?_) (he _)
  obtain ⟨d, rfl, q⟩ := q1
  cases r1
  exact wpAny_truthy_bool ⟨H1, I1, q⟩
variable {tA tB' : TT} {rest : List Expr}
def zAy (t u : TT) : TT := fun σ H Q => t σ H fun c H1 => if c = true then u σ H1 Q else Q false H1
def tOr (t u : TT) : TT := fun σ H Q => t σ H fun c H1 => if c = true then Q true H1 else u σ H1 Q
def zAz (t : TT) : TT := fun σ H Q => t σ H fun c H1 => Q (!c) H1
theorem z7d (ha : PT X a tA) : PW X (.BoolOp .And [a] pos) tA := by
  intro wh pins s σ H Q I h
  refine isTrue_and (thn (ha pins s σ H Q I h) fun c s1 e => ?_)
  cases c with
  | true => exact isTrue_and_nil e
  | false => exact e
theorem z3A (ha : PT X a tA) : PW X (.BoolOp .Or [a] pos) tA := by
  intro wh pins s σ H Q I h
  refine isTrue_or (thn (ha pins s σ H Q I h) fun c s1 e => ?_)
  cases c with
  | false => exact isTrue_or_nil e
  | true => exact e
theorem z8U (ha : PT X a tA) (hb : PW X (.BoolOp .And (b :: rest) pos) tB') : PW X (.BoolOp .And (a :: b :: rest) pos) (zAy tA tB') := by
  intro wh pins s σ H Q I h
  refine isTrue_and (thn (ha pins s σ H _ I h) fun c s1 ⟨H1, I1, q1⟩ => ?_)
  cases c with
  | true => exact hb wh pins s1 σ H1 Q I1 q1
  | false => exact ⟨H1, I1, q1⟩
theorem z5F (ha : PT X a tA) (hb : PW X (.BoolOp .Or (b :: rest) pos) tB') : PW X (.BoolOp .Or (a :: b :: rest) pos) (tOr tA tB') := by
  intro wh pins s σ H Q I h
  refine isTrue_or (thn (ha pins s σ H _ I h) fun c s1 ⟨H1, I1, q1⟩ => ?_)
  cases c with
  | true => exact ⟨H1, I1, q1⟩
  | false => exact hb wh pins s1 σ H1 Q I1 q1
theorem z21 (ha : PT X a tA) : PT X (.UnaryOp .Not a pos) (zAz tA) := by
  intro pins s σ H Q I h
  exact isTrue_not (ha pins s σ H (fun c H1 => Q (!c) H1) I h)
def z9X (ta tb : TE) : TE := fun σ H Q => ta σ H fun x H1 => ∃ c, x = .bl c /\ if c = true then tb σ H1 Q else Q (.bl false) H1
def zB0 (ta tb : TE) : TE := fun σ H Q => ta σ H fun x H1 => ∃ c, x = .bl c /\ if c = true then Q (.bl true) H1 else tb σ H1 Q
def z9Y (ta : TE) : TE := fun σ H Q => ta σ H fun x H1 => ∃ c, x = .bl c /\ Q (.bl (!c)) H1
theorem z5G {op} {t : TE} (h : PE X a t) : PE X (.BoolOp op [a] pos) t := fun pins s σ H Q I hw => BoolOp_one (h pins s σ H Q I hw)
theorem z7E (ha : PE X a ta) (hb : PE X (.BoolOp .And (b :: rest) pos) tb) : PE X (.BoolOp .And (a :: b :: rest) pos) (z9X ta tb) := by
  intro pins s σ H Q I h
  refine BoolOp_and (thn (ha pins s σ H _ I h) fun v s1 ⟨x, H1, I1, r1, q1⟩ => ?_)
  obtain ⟨c, rfl, q1⟩ := q1
  cases r1
  refine wpAny_truthy_bool ?_
  cases c with
  | true => exact hb pins s1 σ H1 Q I1 q1
  | false => exact ⟨.bl false, H1, I1, rfl, q1⟩
theorem z9Z (ha : PE X a ta) (hb : PE X (.BoolOp .Or (b :: rest) pos) tb) : PE X (.BoolOp .Or (a :: b :: rest) pos) (zB0 ta tb) := by
  intro pins s σ H Q I h
  refine BoolOp_or (thn (ha pins s σ H _ I h) fun v s1 ⟨x, H1, I1, r1, q1⟩ => ?_)
  obtain ⟨c, rfl, q1⟩ := q1
  cases r1
  refine wpAny_truthy_bool ?_
  cases c with
  | false => exact hb pins s1 σ H1 Q I1 q1
  | true => exact ⟨.bl true, H1, I1, rfl, q1⟩
theorem z8V (ha : PE X a ta) : PE X (.UnaryOp .Not a pos) (z9Y ta) := by
  intro pins s σ H Q I h
  refine UnaryOp_ (thn (ha pins s σ H _ I h) fun v s1 ⟨x, H1, I1, r1, q1⟩ => ?_)
  obtain ⟨c, rfl, q1⟩ := q1
  cases r1
  exact not_of (wpAny_truthy_bool ⟨.bl (!c), H1, I1, rfl, q1⟩)
def tIf (t : TT) (ta tb : TE) : TE := fun σ H Q => t σ H fun c H1 => if c = true then ta σ H1 Q else tb σ H1 Q
theorem z4L {c : Expr} (hc : PT X c tA) (ha : PE X a ta) (hb : PE X b tb) : PE X (.IfExp c a b pos) (tIf tA ta tb) := by
  intro pins s σ H Q I h
  refine wpAny_IfExp (thn (hc pins s σ H _ I h) fun d s1 ⟨H1, I1, q1⟩ => ?_)
  cases d with
  | true => exact ha pins s1 σ H1 Q I1 q1
  | false => exact hb pins s1 σ H1 Q I1 q1
end
def SqL (K : PySem.W.Frag) (H : Hp) (a : Addr) (xs : List V) : Prop :=
  Rd H a (.lst xs) \/
    ∃ (o : Obj) (its : Array Value) (n : Nat), K.lookup a = some o /\ o.cls = .type "list" /\ o.dict = none /\ o.data = .seq its n /\ its.size <= sizeLine /\ Vals xs its.toList
def SqT (K : PySem.W.Frag) (H : Hp) (a : Addr) (xs : List V) : Prop :=
  Rd H a (.tup xs) \/
    ∃ (o : Obj) (its : Array Value) (n : Nat), K.lookup a = some o /\ o.cls = .type "tuple" /\ o.data = .seq its n /\ its.size <= sizeLine /\ Vals xs its.toList
def zB1 : Value -> Option V
  | .none => some .non
  | .bool b => some (.bl b)
  | .int i _ => some (.int i)
  | .str x _ => some (.str x)
  | .bytes b _ => some (.byt b)
  | .float b _ => some (.flt b)
  | .ref a => some (.ref a)
  | .type n => some (.ty n)
  | _ => none
theorem RelV.abs {x : V} {u : Value} (r : RelV x u) : zB1 u = some x := by
  cases x with
  | non => cases r; rfl
  | bl _ => cases r; rfl
  | int _ => obtain ⟨t, rfl⟩ := r; rfl
  | str _ => obtain ⟨t, rfl⟩ := r; rfl
  | byt _ => obtain ⟨t, rfl⟩ := r; rfl
  | flt _ => obtain ⟨t, rfl⟩ := r; rfl
  | ref _ => cases r; rfl
  | ty _ => cases r; rfl
theorem RelV.inj {x y : V} {u : Value} (r : RelV x u) (q : RelV y u) : x = y := Option.some.inj (r.abs.symm.trans q.abs)
theorem Vals.inj : ∀ {xs ys : List V} {us : List Value}, Vals xs us -> Vals ys us -> xs = ys
  | _, _, _, .nil, .nil => rfl
  | _, _, _, .cons r t, .cons r' t' => by rw [r.inj r', Vals.inj t t']
section
variable {X : Cx} {pins : List (Addr × Obj)} {σ : St} {H : Hp} {s : Shared} {a : Addr} {xs ys : List V}
theorem SqL.of {K : PySem.W.Frag} (h : H a = some (.lst xs)) : SqL K H a xs := .inl (.inl h)
theorem SqT.of {K : PySem.W.Frag} (h : H a = some (.tup xs)) : SqT K H a xs := .inl (.inl h)
theorem Inv.list (I : Inv X pins σ H s) (h : SqL X.K H a xs) : ∃ its : List Value, Vals xs its /\ PlainL s.heap a its.toArray /\ xs.length <= sizeLine := by
  rcases h with h | ⟨o, its, n, hk, hc, hd, hs, hz, r⟩
  . obtain ⟨z, its, n, r, e⟩ := h.ok I.hok
    exact ⟨its, r, ⟨_, n, e, rfl, rfl, rfl⟩, z⟩
  . refine ⟨its.toList, r, ⟨o, n, I.kIn a o hk, hc, hd, by simpa using hs⟩, ?_⟩
    have e := r.length
    simp only [Array.length_toList] at e
    omega
theorem Inv.tuple (I : Inv X pins σ H s) (h : SqT X.K H a xs) : ∃ its : List Value, Vals xs its /\ IsTup s.heap a its.toArray /\ xs.length <= sizeLine := by
  rcases h with h | ⟨o, its, n, hk, hc, hs, hz, r⟩
  . obtain ⟨z, its, r, p⟩ := h.ok I.hok
    exact ⟨its, r, p, z⟩
  . refine ⟨its.toList, r, ⟨o, I.kIn a o hk, hc, n, by simpa using hs⟩, ?_⟩
    have e := r.length
    simp only [Array.length_toList] at e
    omega
theorem Inv.list_inj (I : Inv X pins σ H s) (h : SqL X.K H a xs) (h' : SqL X.K H a ys) : xs = ys := by
  obtain ⟨its, r, ⟨o, n, e, _, _, d⟩, _⟩ := I.list h
  obtain ⟨its', r', ⟨o', n', e', _, _, d'⟩, _⟩ := I.list h'
  rw [e] at e'; cases e'
  rw [d] at d'
  injection d' with d1 _
  have : its = its' := by simpa using congrArg Array.toList d1
  subst this
  exact r.inj r'
theorem Inv.tuple_inj (I : Inv X pins σ H s) (h : SqT X.K H a xs) (h' : SqT X.K H a ys) : xs = ys := by
  obtain ⟨its, r, ⟨o, e, _, n, d⟩, _⟩ := I.tuple h
  obtain ⟨its', r', ⟨o', e', _, n', d'⟩, _⟩ := I.tuple h'
  rw [e] at e'; cases e'
  rw [d] at d'
  injection d' with d1 _
  have : its = its' := by simpa using congrArg Array.toList d1
  subst this
  exact r.inj r'
end
abbrev Cx.wish (X : Cx) (E : Value -> Shared -> Prop) : Cx := { X with xe := E }
abbrev Cx.nox (X : Cx) : Cx := X.wish fun _ _ => False
theorem Cx.Ok.wish {X : Cx} (ok : X.Ok) (E : Value -> Shared -> Prop) : (X.wish E).Ok :=
  ⟨ok.mod, ok.kind, ok.glob, ok.blt, ok.above, ok.inj, ok.has, ok.cab, ok.hd, ok.frames, ok.stk, ok.exf, ok.bs, ok.bsz, ok.noex, ok.exfs, ok.funs, ok.frf⟩
theorem Cx.Ok.unwish {X : Cx} {E : Value -> Shared -> Prop} (ok : (X.wish E).Ok) : X.Ok :=
  ⟨ok.mod, ok.kind, ok.glob, ok.blt, ok.above, ok.inj, ok.has, ok.cab, ok.hd, ok.frames, ok.stk, ok.exf, ok.bs, ok.bsz, ok.noex, ok.exfs, ok.funs, ok.frf⟩
section
variable {X : Cx} {pins : List (Addr × Obj)} {σ : St} {H : Hp} {s : Shared} {E : Value -> Shared -> Prop}
theorem Inv.wish (I : Inv X pins σ H s) (E : Value -> Shared -> Prop) : Inv (X.wish E) pins σ H s := ⟨I.ok.wish E, I.os, I.bare, I.base, I.loc, I.cell, I.free, I.freeC, I.pin, I.hok, I.len⟩
theorem Inv.unwish (I : Inv (X.wish E) pins σ H s) : Inv X pins σ H s := ⟨I.ok.unwish, I.os, I.bare, I.base, I.loc, I.cell, I.free, I.freeC, I.pin, I.hok, I.len⟩
theorem SP.unwish {D : Ends} {f : Flow} {s' : Shared} (h : SP (X.wish E) pins D f s') : SP X pins D f s' := by
  cases f with
  | next => obtain ⟨σ', H', I, q⟩ := h; exact ⟨σ', H', I.unwish, q⟩
  | brk => obtain ⟨σ', H', I, q⟩ := h; exact ⟨σ', H', I.unwish, q⟩
  | cont => obtain ⟨σ', H', I, q⟩ := h; exact ⟨σ', H', I.unwish, q⟩
  | ret u => obtain ⟨v, σ', H', I, r, q⟩ := h; exact ⟨v, σ', H', I.unwish, r, q⟩
theorem PE.nox {e : Expr} {t : TE} (h : PE X.nox e t) : PE X e t := fun pins s σ H Q I hw =>
  wpAny_mono (h pins s σ H Q (I.wish _) hw) (fun _ _ ⟨v, H', I', r, q⟩ => ⟨v, H', I'.unwish, r, q⟩) fun _ _ z => False.elim z
theorem PT.nox {e : Expr} {t : TT} (h : PT X.nox e t) : PT X e t := fun pins s σ H Q I hw =>
  wpAny_mono (h pins s σ H Q (I.wish _) hw) (fun _ _ ⟨H', I', q⟩ => ⟨H', I'.unwish, q⟩) fun _ _ z => False.elim z
theorem PSs.nox {st : List Stmt} {t : TS} (h : PSs X.nox st t) : PSs X st t := fun pins s σ H D I hw =>
  wpAny_mono (h pins s σ H D (I.wish _) hw) (fun _ _ q => q.unwish) fun _ _ z => False.elim z
end
section
variable {X : Cx} {st : Stmt} {rest : List Stmt} {t u : TS} {e : Expr} {te : TE} {pos : Pos}
def z9a : TS := fun D σ H => D.nx σ H
def zB2 (t u : TS) : TS := fun D σ H => t { D with nx := u D } σ H
theorem z0Q : PSs X [] z9a := fun _ _ σ H _ I h => wpAny_execs_nil ⟨σ, H, I, h⟩
theorem z04 (h1 : PS X st t) (h2 : PSs X rest u) : PSs X (st :: rest) (zB2 t u) := by
  intro pins s σ H D I h
  refine wpAny_execs_cons (thn (h1 pins s σ H { D with nx := u D } I h) fun f s1 q => ?_)
  cases f with
  | next =>
    obtain ⟨σ', H', I', q⟩ := q
    exact h2 pins s1 σ' H' D I' q
  | ret v => exact q
  | brk => exact q
  | cont => exact q
theorem z07 (h1 : PS X st t) : PSs X [st] t := by
  intro pins s σ H D I h
  refine wpAny_execs_cons (thn (h1 pins s σ H D I h) fun f s1 q => ?_)
  cases f with
  | next => exact wpAny_execs_nil q
  | ret v => exact q
  | brk => exact q
  | cont => exact q
def zAN : TS := fun D σ H => D.bk σ H
def zB3 : TS := fun D σ H => D.ct σ H
theorem Inv.quiet {pins : List (Addr × Obj)} {σ : St} {H : Hp} {s : Shared} (I : Inv X pins σ H s) : interactive X.env = false := by simp [interactive, I.ok.kind]
def z9b (te : TE) : TS := fun D σ H => te σ H fun _ H1 => D.nx σ H1
theorem z2j (he : PE X e te) (hs : swapsWith e none pos.line X.env = pure false := by rfl) : PS X (.Expr e pos) (z9b te) := by
  intro pins s σ H D I h
  exact wpAny_Expr_any (thn (he pins s σ H _ I h) fun v s1 ⟨x, H1, I1, r1, q1⟩ => ⟨σ, H1, I1, q1⟩) I.quiet hs
def zAO (te : TE) : TS := fun D σ H => te σ H D.rt
theorem z0K (he : PE X e te) : PS X (.Return (some e) pos) (zAO te) := by
  intro pins s σ H D I h
  exact wpAny_Return_some (thn (he pins s σ H _ I h) fun v s1 ⟨x, H1, I1, r1, q1⟩ => ⟨x, σ, H1, I1, r1, q1⟩)
def zB4 : TS := fun D _ H => D.rt .non H
def zB5 (c : TT) (t u : TS) : TS := fun D σ H => c σ H fun b H1 => if b = true then t D σ H1 else u D σ H1
theorem z1C {c : Expr} {a b : List Stmt} {tc : TT} (hc : PT X c tc) (ha : PSs X a t) (hb : PSs X b u) : PS X (.If c a b pos) (zB5 tc t u) := by
  intro pins s σ H D I h
  refine wpAny_If (thn (hc pins s σ H _ I h) fun d s1 ⟨H1, I1, q1⟩ => ?_)
  cases d with
  | true => exact ha pins s1 σ H1 D I1 q1
  | false => exact hb pins s1 σ H1 D I1 q1
def zAP : TS := fun _ _ _ => False
end
abbrev TG := V -> St -> Hp -> (St -> Hp -> Prop) -> Prop
abbrev TGs := List V -> St -> Hp -> (St -> Hp -> Prop) -> Prop
def PG (X : Cx) (target : Expr) (t : TG) : Prop :=
  ∀ (pins : List (Addr × Obj)) (s : Shared) (σ : St) (H : Hp) (v : V) (u : Value) (Q : St -> Hp -> Prop), Inv X pins σ H s -> RelV v u -> t v σ H Q ->
    wpAny (model X.prog X.w) X.A (assign target X.env u) (fun _ s' => ∃ σ' H', Inv X pins σ' H' s' /\ Q σ' H') X.xe s
def PGs (X : Cx) (ts : List Expr) (t : TGs) : Prop :=
  ∀ (pins : List (Addr × Obj)) (s : Shared) (σ : St) (H : Hp) (vs : List V) (us : List Value) (Q : St -> Hp -> Prop), Inv X pins σ H s -> Vals vs us -> t vs σ H Q ->
    wpAny (model X.prog X.w) X.A (assignInOrder ((assignEach ts X.env).map (·.2)) us) (fun _ s' => ∃ σ' H', Inv X pins σ' H' s' /\ Q σ' H') X.xe s
abbrev z9c := V -> V -> V -> Hp -> (Hp -> Prop) -> Prop
def zBm (X : Cx) (t : z9c) : Prop :=
  ∀ (pins : List (Addr × Obj)) (s : Shared) (σ : St) (H : Hp) (o i v : V) (ov iv u : Value) (Q : Hp -> Prop), Inv X pins σ H s -> RelV o ov -> RelV i iv -> RelV v u -> t o i v H Q ->
    wpAny (model X.prog X.w) X.A (setItem ov iv u) (fun _ s' => ∃ H', Inv X pins σ H' s' /\ Q H') X.xe s
abbrev TIp := V -> V -> Hp -> VK -> Prop
def PIp (X : Cx) (op : Operator) (t : TIp) : Prop :=
  ∀ (pins : List (Addr × Obj)) (s : Shared) (σ : St) (H : Hp) (x y : V) (v u : Value) (Q : VK), Inv X pins σ H s -> RelV x v -> RelV y u -> t x y H Q ->
    wpAny (model X.prog X.w) X.A (inplaceOp op v u) (EP X pins σ Q) X.xe s
section
variable {X : Cx} {pos : Pos}
def z8W (i : Nat) : TG := fun v σ H Q => Q (σ.set i (some v)) H
theorem z0I {i : Nat} {x : Str} (hN : X.N.Nodup) (hi : X.N[i]? = some x) (hx : Loc X.env.scope x) (hf : X.fn x = true \/ X.env.scope.names.lookup x = some .local := by first | exact .inl rfl | exact .inr rfl | assumption) : PG X (.Name x pos) (z8W i) := by
  intro pins s σ H v u Q I r h
  exact wpAny_assign_Name (z4K I hN hi hx r (fun s' I' => ⟨_, H, I', h⟩) hf)
def zB6 : TGs := fun vs σ H Q => vs = [] /\ Q σ H
def z9d (t : TG) (u : TGs) : TGs := fun vs σ H Q => ∃ v r, vs = v :: r /\ t v σ H fun σ' H' => u r σ' H' Q
theorem z22 : PGs X [] zB6 := by
  intro pins s σ H vs us Q I r h
  obtain ⟨e, h⟩ := h
  subst e
  cases r
  exact assignInOrder_nil ⟨σ, H, I, h⟩
theorem z0d {e : Expr} {es : List Expr} {t : TG} {u : TGs} (h1 : PG X e t) (h2 : PGs X es u)
    (hs : (assignEach (e :: es) X.env).map (·.2) = assign e X.env :: (assignEach es X.env).map (·.2) := by rfl) : PGs X (e :: es) (z9d t u) := by
  intro pins s σ H vs us Q I r h
  obtain ⟨v, vr, e1, h⟩ := h
  subst e1
  cases r with
  | cons r rr =>
    rw [hs]
    refine assignInOrder_cons (thn (h1 pins s σ H _ _ _ I r h) fun _ s1 ⟨σ1, H1, I1, q1⟩ => ?_)
    exact h2 pins s1 σ1 H1 _ _ Q I1 rr q1
def zAQ (K : PySem.W.Frag) (n : Nat) (t : TGs) : TG := fun v σ H Q => ∃ a xs, v = .ref a /\ SqT K H a xs /\ xs.length = n /\ t xs σ H Q
theorem z5H {es : List Expr} {k : Nat} {t : TGs} {n : Nat} (hc : X.calm = true) (h : PGs X es t)
    (hn : (assignEach es X.env).length = n := by rfl) (hst : (assignEach es X.env).findIdx? (·.1) = none := by rfl) : PG X (.Tuple es k pos) (zAQ X.K n t) := by
  intro pins s σ H v u Q I r hw
  obtain ⟨a, xs, e1, hq, hl, hw⟩ := hw
  subst e1
  cases r
  obtain ⟨its, rv, ht, hz⟩ := I.tuple hq
  refine assign_Tuple_tuple (I.ok.hd hc) ht (by simp [hn, <- hl, rv.length]) hst fun h' hx => ?_
  have I1 : Inv X pins σ H { s with heap := h' } := I.kept (t' := s.toks) fun b o e => hx b o (Nat.ne_of_lt (Heap.lt_size e)) e
  exact h pins _ σ H xs _ Q I1 (by simpa using rv) hw
def zBn (to ti : TE) (t : z9c) : TG := fun v σ H Q => to σ H fun o H1 => ti σ H1 fun i H2 => t o i v H2 fun H3 => Q σ H3
def zB7 (te : TE) (g : TG) : TS := fun D σ H => te σ H fun x H1 => g x σ H1 D.nx
theorem z0H {i : Nat} {x : Str} {e : Expr} {te : TE} {pos' : Pos} (hN : X.N.Nodup) (hi : X.N[i]? = some x) (hx : Loc X.env.scope x) (he : PE X e te) (hs : swapsWith e (some (.Name x pos')) pos.line X.env = pure false := by rfl) (hf : X.fn x = true \/ X.env.scope.names.lookup x = some .local := by first | exact .inl rfl | exact .inr rfl | assumption) :
    PS X (.Assign [.Name x pos'] e pos) (zB7 te (z8W i)) := by
  intro pins s σ H D I h
  refine wpAny_Assign_Name (thn (he pins s σ H _ I h) fun v s1 ⟨y, H1, I1, r1, q1⟩ => ?_) hs
  exact z4K I1 hN hi hx r1 (fun s2 I2 => ⟨_, H1, I2, q1⟩) hf
def zBo (i j : Nat) (ta : TA) : TS := fun D σ H => ta σ H fun vs H1 => ∃ v w, vs = [v, w] /\ D.nx ((σ.set i (some v)).set j (some w)) H1
def zBp (i : Nat) (te : TE) (ti : TIp) : TS := fun D σ H => ∃ x, σ[i]? = some (some x) /\ te σ H fun y H1 => ti x y H1 fun z H2 => D.nx (σ.set i (some z)) H2
def zB8 (to ti te : TE) (tget : V -> V -> Hp -> VK -> Prop) (tip : TIp) (tset : z9c) : TS := fun D σ H => to σ H fun o H1 => ti σ H1 fun i H2 => tget o i H2 fun x H3 => te σ H3 fun y H4 => tip x y H4 fun z H5 => tset o i z H5 fun H6 => D.nx σ H6
def zBq (X : Cx) (t : V -> V -> Hp -> VK -> Prop) : Prop :=
  ∀ (pins : List (Addr × Obj)) (s : Shared) (σ : St) (H : Hp) (o i : V) (ov iv : Value) (Q : VK), Inv X pins σ H s -> RelV o ov -> RelV i iv -> t o i H Q ->
    wpAny (model X.prog X.w) X.A (getItem ov iv) (EP X pins σ Q) X.xe s
def ipI (f : Int -> Int -> Int) : TIp := fun x y H Q => ∃ i j, x = .int i /\ y = .int j /\ Q (.int (f i j)) H
end
section
variable {X : Cx} {pos : Pos}
def zAR (c : TT) (tb : TS) : TS := fun D σ H => ∃ W : Nat -> St -> Hp -> Prop, (∃ m, W m σ H) /\ ∀ m σ H, W m σ H ->
  c σ H fun b H1 => if b = true then ∃ N : St -> Hp -> Prop, (∀ σ' H', N σ' H' -> ∃ m', m' < m /\ W m' σ' H') /\ tb { D with nx := N, ct := N, bk := D.nx } σ H1 else D.nx σ H1
end
structure It where
  go : Nat -> Hp -> Prop
  yld : Nat -> Hp -> V -> Hp -> Prop
  stop : Nat -> Hp -> Prop
def z1v (X : Cx) (pins : List (Addr × Obj)) (H : Hp) (b : Addr) : Prop :=
  H b = none /\ b ≠ X.env.locals /\ b ∉ X.fs /\ (b ∈ X.ex \/ X.s₀.heap.objs.size <= b) /\ (∀ x c, X.env.cells.lookup x = some c -> c ≠ b) /\ ∀ p ∈ X.pn ++ pins, p.1 ≠ b
theorem Inv.fpOk {X : Cx} {pins : List (Addr × Obj)} {σ : St} {H H' : Hp} {s : Shared} {b : Addr} (I : Inv X pins σ H s) (hb : s.heap.objs.size <= b) (hn : H' b = none) : z1v X pins H' b := by
  refine ⟨hn, Nat.ne_of_gt (Nat.lt_of_lt_of_le I.lt hb), I.nofs hb, .inr (Nat.le_trans I.sz hb), fun x c e z => ?_, fun p hp z => ?_⟩
  . obtain ⟨v, q⟩ := I.cell x c e
    exact absurd (Nat.lt_of_lt_of_le q.lt (by rw [z]; exact hb)) (Nat.lt_irrefl _)
  . exact absurd (Nat.lt_of_lt_of_le (Heap.lt_size (I.pin p hp).1) (by rw [z]; exact hb)) (Nat.lt_irrefl _)
structure Turn (P : Program) (w : World) (K : PySem.W.Frag) (tg : Expr) (J : It) (fp : List Addr) (it : Addr) (tn : Nat -> Heap -> Prop) : Prop where
  mem : it ∈ fp
  obj : ∀ i h, tn i h -> ∀ b ∈ fp, ∃ o, h.get? b = some o /\ ∀ v, o.data ≠ .cell v
  keep : ∀ i h h', tn i h -> (∀ b ∈ fp, ∀ o, h.get? b = some o -> h'.get? b = some o) -> tn i h'
  item : ∀ (X : Cx), X.prog = P -> X.w = w -> X.K = K -> X.calm = true -> ∀ (i : Nat) (pins : List (Addr × Obj)) (s : Shared) (σ : St) (H : Hp) (E : Value -> Shared -> Prop), Inv X pins σ H s -> (∀ b ∈ fp, z1v X pins H b) -> tn i s.heap -> J.go i H ->
    wpAny (model P w) X.A (pyNext (.ref it)) (fun r s1 => ∃ u, r = some u /\
      wpAny (model P w) X.A (letOwnedTupleGo tg (.ref it) u) (fun _ s2 => ∃ x H', Inv X pins σ H' s2 /\ RelV x u /\ J.yld i H x H' /\ tn (i + 1) s2.heap /\ ∀ b ∈ fp, H' b = none) E s1) E s
  done : ∀ (X : Cx), X.prog = P -> X.w = w -> X.K = K -> X.calm = true -> ∀ (i : Nat) (pins : List (Addr × Obj)) (s : Shared) (σ : St) (H : Hp) (E : Value -> Shared -> Prop), Inv X pins σ H s -> (∀ b ∈ fp, z1v X pins H b) -> tn i s.heap -> J.stop i H ->
    wpAny (model P w) X.A (pyNext (.ref it)) (fun r s1 => r = none /\ Inv X pins σ H s1) E s
  self : ∀ (A : Around) (i : Nat) (s : Shared) (Q : Value -> Shared -> Prop) (E : Value -> Shared -> Prop), tn i s.heap -> Q (.ref it) s -> wpAny (model P w) A (pyIter (.ref it)) Q E s
abbrev TI := St -> Hp -> (It -> Hp -> Prop) -> Prop
def PIE (X : Cx) (pins : List (Addr × Obj)) (σ : St) (tg : Expr) (R : It -> Hp -> Prop) (itv : Value) (s2 : Shared) : Prop :=
  ∃ (it : Addr) (fp : List Addr) (tn : Nat -> Heap -> Prop) (J : It) (H' : Hp), itv = .ref it /\ Inv X pins σ H' s2 /\ Turn X.prog X.w X.K tg J fp it tn /\ tn 0 s2.heap /\ (∀ b ∈ fp, z1v X pins H' b) /\ R J H'
def PI (X : Cx) (tg iter : Expr) (wi : TI) : Prop :=
  ∀ (pins : List (Addr × Obj)) (s : Shared) (σ : St) (H : Hp) (R : It -> Hp -> Prop), Inv X pins σ H s -> wi σ H R ->
    wpAny (model X.prog X.w) X.A (eval iter X.env) (fun v s1 => wpAny (model X.prog X.w) X.A (pyIter v) (PIE X pins σ tg R) X.xe s1) X.xe s
theorem z6h {M : Model} {A : Around} {E : Value -> Shared -> Prop} {s : Shared} {tg : Expr} {it : Addr} {u : Value} {o : Obj} {n : String} {vs : Array Value} {Q : Unit -> Shared -> Prop} (ho : s.heap.get? it = some o) (hc : o.cls = .type n) (hd : o.data = .fields vs)
    (hn : ["enumerate", "zip", "dict_itemiterator", "dict_reverseitemiterator", "odict_iterator", "itertools.zip_longest", "itertools.pairwise"].contains n = false) (hQ : Q () s) : wpAny M A (letOwnedTupleGo tg (.ref it) u) Q E s := by
  unfold letOwnedTupleGo
  cases tg <;> first
    | exact wpAny_pure hQ
    | (cases u <;> first
        | exact wpAny_pure hQ
        | (refine wpAny_bind (wpAny_load ho ?_)
           rw [hc, hd]
           show wpAny M A (if (["enumerate", "zip", "dict_itemiterator", "dict_reverseitemiterator", "odict_iterator", "itertools.zip_longest", "itertools.pairwise"].contains n && vs[0]? == some (rawInt _)) = true then _ else _) Q E s
           rw [if_neg (by intro h; rw [hn, Bool.false_and] at h; cases h)]
           exact wpAny_pure hQ))
def Itl (K : PySem.W.Frag) (a : Addr) : It :=
  ⟨fun i H => ∃ xs x, SqL K H a xs /\ xs[i]? = some x, fun i H x H' => H' = H /\ ∀ xs, SqL K H a xs -> xs[i]? = some x, fun i H => ∃ xs, SqL K H a xs /\ xs.length <= i⟩
def Itt (K : PySem.W.Frag) (a : Addr) : It :=
  ⟨fun i H => ∃ xs x, SqT K H a xs /\ xs[i]? = some x, fun i H x H' => H' = H /\ ∀ xs, SqT K H a xs -> xs[i]? = some x, fun i H => ∃ xs, SqT K H a xs /\ xs.length <= i⟩
def Itr (lo : Int) (n : Nat) : It := ⟨fun i _ => i < n, fun i H x H' => H' = H /\ x = .int (lo + i), fun i _ => n <= i⟩
theorem z5I {P : Program} {w : World} {K : PySem.W.Frag} {tg : Expr} (a it : Addr) : Turn P w K tg (Itl K a) [it] it (fun i h => h.IsListIter it a i) where
  mem := by simp
  obj := fun i h st b hb => by
    have e : b = it := by simpa using hb
    subst e
    obtain ⟨o, e, c, d⟩ := st
    exact ⟨o, e, fun v z => by rw [d] at z; cases z⟩
  keep := fun i h h' st k => st.at fun o e => k it (by simp) o e
  item := by
    intro X hP hw hK hc i pins s σ H E I hf st hg
    subst hP hw hK
    obtain ⟨xs, x, hq, hx⟩ := hg
    obtain ⟨its, rv, p, hz⟩ := I.list hq
    obtain ⟨u, hu, ru⟩ := rv.get hx
    obtain ⟨f0, f1, f2, f3, f4, f5⟩ := hf it (by simp)
    refine wpAny_pyNext_list_item st p.isList (x := u) (by simpa using hu) fun h' st' sb => ?_
    have I1 : Inv X pins σ H { s with heap := h' } := I.turned (t' := s.toks) (fun b o hb e => (sb.2 b hb).trans e) f0 f1 f3 f4 f5
    obtain ⟨o, e, c, d⟩ := id st'
    exact ⟨u, rfl, z6h (s := { s with heap := h' }) e c d (by decide) ⟨x, H, I1, ru, ⟨rfl, fun ys hy => by rw [I.list_inj hy hq]; exact hx⟩, st', fun b hb => (hf b hb).1⟩⟩
  done := by
    intro X hP hw hK hc i pins s σ H E I hf st hg
    subst hP hw hK
    obtain ⟨xs, hq, hx⟩ := hg
    obtain ⟨its, rv, p, hz⟩ := I.list hq
    obtain ⟨f0, f1, f2, f3, f4, f5⟩ := hf it (by simp)
    have hl := rv.length
    exact wpAny_pyNext_list_end (I.ok.hd hc) st p.isList (by simp; omega) fun h' eb => ⟨rfl, I.turned (t' := s.toks) (fun b o hb e => eb b o hb e) f0 f1 f3 f4 f5⟩
  self := fun _ _ _ _ _ st h => wpAny_pyIter_listiter st h
theorem z4h {P : Program} {w : World} {K : PySem.W.Frag} {tg : Expr} (a it : Addr) : Turn P w K tg (Itt K a) [it] it (fun i h => h.IsTupleIter it a i) where
  mem := by simp
  obj := fun i h st b hb => by
    have e : b = it := by simpa using hb
    subst e
    obtain ⟨o, e, c, d⟩ := st
    exact ⟨o, e, fun v z => by rw [d] at z; cases z⟩
  keep := fun i h h' st k => st.at fun o e => k it (by simp) o e
  item := by
    intro X hP hw hK hc i pins s σ H E I hf st hg
    subst hP hw hK
    obtain ⟨xs, x, hq, hx⟩ := hg
    obtain ⟨its, rv, p, hz⟩ := I.tuple hq
    obtain ⟨u, hu, ru⟩ := rv.get hx
    obtain ⟨f0, f1, f2, f3, f4, f5⟩ := hf it (by simp)
    refine wpAny_pyNext_tuple_item st (show s.heap.IsTuple a its.toArray from p) (x := u) (by simpa using hu) fun h' st' sb => ?_
    have I1 : Inv X pins σ H { s with heap := h' } := I.turned (t' := s.toks) (fun b o hb e => (sb.2 b hb).trans e) f0 f1 f3 f4 f5
    obtain ⟨o, e, c, d⟩ := id st'
    exact ⟨u, rfl, z6h (s := { s with heap := h' }) e c d (by decide) ⟨x, H, I1, ru, ⟨rfl, fun ys hy => by rw [I.tuple_inj hy hq]; exact hx⟩, st', fun b hb => (hf b hb).1⟩⟩
  done := by
    intro X hP hw hK hc i pins s σ H E I hf st hg
    subst hP hw hK
    obtain ⟨xs, hq, hx⟩ := hg
    obtain ⟨its, rv, p, hz⟩ := I.tuple hq
    obtain ⟨f0, f1, f2, f3, f4, f5⟩ := hf it (by simp)
    have hl := rv.length
    exact wpAny_pyNext_tuple_end (I.ok.hd hc) st (show s.heap.IsTuple a its.toArray from p) (by simp; omega) fun h' eb => ⟨rfl, I.turned (t' := s.toks) (fun b o hb e => eb b o hb e) f0 f1 f3 f4 f5⟩
  self := fun _ _ _ _ _ st h => wpAny_pyIter_tupleiter st h
theorem z4i {P : Program} {w : World} {K : PySem.W.Frag} {tg : Expr} (it : Addr) (lo : Int) (n : Nat) : Turn P w K tg (Itr lo n) [it] it (fun i h => IsRangeIter h it (lo + (i : Nat) * 1) ((n : Int) - (i : Nat)) 1) where
  mem := by simp
  obj := fun i h st b hb => by
    have e : b = it := by simpa using hb
    subst e
    exact ⟨_, st, fun v z => by
      have z' : Data.fields _ = Data.cell v := z
      cases z'⟩
  keep := fun i h h' st k => k it (by simp) _ st
  item := by
    intro X hP hw hK hc i pins s σ H E I hf st hg
    subst hP hw hK
    obtain ⟨f0, f1, f2, f3, f4, f5⟩ := hf it (by simp)
    have W := Walks.range (prog := X.prog) (w := X.w) (I.ok.hd hc) it lo 1 n
    refine W.item i s _ _ hg st fun v h' tk hv st' kk => ?_
    obtain ⟨t, rfl⟩ := hv
    have I1 : Inv X pins σ H { s with heap := h', toks := tk } := I.turned (fun b o hb e => kk b o (by simpa using hb) e) f0 f1 f3 f4 f5
    refine ⟨_, rfl, z6h (s := { s with heap := h', toks := tk }) (n := "range_iterator") st' rfl rfl (by decide) ⟨.int (lo + i), H, I1, ⟨t, ?_⟩, ⟨rfl, rfl⟩, st', fun b hb => (hf b hb).1⟩⟩
    rw [Int.mul_one]
  done := by
    intro X hP hw hK hc i pins s σ H E I hf st hg
    subst hP hw hK
    obtain ⟨f0, f1, f2, f3, f4, f5⟩ := hf it (by simp)
    exact wpAny_pyNext_range_end (I.ok.hd hc) st (by have : n <= i := hg; omega) fun h' eb => ⟨rfl, I.turned (t' := s.toks) (fun b o hb e => eb b o hb e) f0 f1 f3 f4 f5⟩
  self := fun _ _ _ _ _ st h => wpAny_pyIter_rangeiter st h
section
variable {X : Cx} {tg : Expr}
def z8X (K : PySem.W.Frag) (tl : TE) : TI := fun σ H R => tl σ H fun x H1 => ∃ a, x = .ref a /\ (∃ xs, SqL K H1 a xs) /\ R (Itl K a) H1
def zB9 (K : PySem.W.Frag) (tl : TE) : TI := fun σ H R => tl σ H fun x H1 => ∃ a, x = .ref a /\ (∃ xs, SqT K H1 a xs) /\ R (Itt K a) H1
theorem z1I {l : Expr} {tl : TE} (hl : PE X l tl) : PI X tg l (z8X X.K tl) := by
  intro pins s σ H R I h
  refine thn (hl pins s σ H _ I h) fun v s1 ⟨x, H1, I1, r1, q1⟩ => ?_
  obtain ⟨a, e, ⟨xs, hq⟩, q⟩ := q1
  subst e
  cases r1
  obtain ⟨its, rv, p, hz⟩ := I1.list hq
  refine wpAny_pyIter_list p.isList ?_
  refine ⟨s1.heap.objs.size, [s1.heap.objs.size], _, _, H1, rfl, I1.kept (t' := s1.toks) fun b o e => Heap.get?_push_of_some _ e, z5I a _, ⟨_, Heap.get?_push_size _ rfl, rfl, rfl⟩, fun b hb => ?_, q⟩
  have e : b = s1.heap.objs.size := by simpa using hb
  subst e
  exact I1.fpOk (Nat.le_refl _) (I1.hok.fresh (Nat.le_refl _))
theorem z8Y {l : Expr} {tl : TE} (hl : PE X l tl) : PI X tg l (zB9 X.K tl) := by
  intro pins s σ H R I h
  refine thn (hl pins s σ H _ I h) fun v s1 ⟨x, H1, I1, r1, q1⟩ => ?_
  obtain ⟨a, e, ⟨xs, hq⟩, q⟩ := q1
  subst e
  cases r1
  obtain ⟨its, rv, p, hz⟩ := I1.tuple hq
  refine wpAny_pyIter_tuple (show s1.heap.IsTuple a its.toArray from p) ?_
  refine ⟨s1.heap.objs.size, [s1.heap.objs.size], _, _, H1, rfl, I1.kept (t' := s1.toks) fun b o e => Heap.get?_push_of_some _ e, z4h a _, ⟨_, Heap.get?_push_size _ rfl, rfl, rfl⟩, fun b hb => ?_, q⟩
  have e : b = s1.heap.objs.size := by simpa using hb
  subst e
  exact I1.fpOk (Nat.le_refl _) (I1.hok.fresh (Nat.le_refl _))
theorem z6i {pins : List (Addr × Obj)} {σ : St} {H : Hp} {s : Shared} {R : It -> Hp -> Prop} {E : Value -> Shared -> Prop} {lo hi : Int} {t u v : Tok} {tk : Nat} (I : Inv X pins σ H s) (h1 : -(2 ^ 62) <= lo) (h2 : lo < 2 ^ 62) (h3 : -(2 ^ 62) <= hi) (h4 : hi < 2 ^ 62)
    (q : R (Itr lo (hi - lo).toNat) H) : wpAny (model X.prog X.w) X.A (pyIter (.ref s.heap.objs.size)) (PIE X pins σ tg R) E { s with heap := s.heap.push { cls := .type "range", data := .fields #[.int lo t, .int hi u, .int 1 v] }, toks := tk } := by
  refine wpAny_pyIter_range (IsRange.new ..) (small_one h1 h2 h3 h4) ?_
  have I1 : Inv X pins σ H { s with heap := s.heap.push { cls := .type "range", data := .fields #[.int lo t, .int hi u, .int 1 v] }, toks := tk } := I.kept fun b o e => Heap.get?_push_of_some _ e
  refine ⟨(s.heap.push { cls := .type "range", data := .fields #[.int lo t, .int hi u, .int 1 v] }).objs.size, [(s.heap.push { cls := .type "range", data := .fields #[.int lo t, .int hi u, .int 1 v] }).objs.size], _, _, H, rfl,
    I1.kept (t' := tk) fun b o e => Heap.get?_push_of_some _ e, z4i _ lo (hi - lo).toNat, ?_, fun b hb => ?_, q⟩
  . have e1 : lo + ((0 : Nat) : Int) * 1 = lo := by simp
    have e2 : (((hi - lo).toNat : Nat) : Int) - ((0 : Nat) : Int) = Builtin.Range.rangeSize lo hi 1 := by rw [rangeSize_one]; split <;> omega
    show IsRangeIter _ _ (lo + ((0 : Nat) : Int) * 1) ((((hi - lo).toNat : Nat) : Int) - ((0 : Nat) : Int)) 1
    rw [e1, e2]
    exact Heap.get?_push_size _ rfl
  . have e : b = (s.heap.push { cls := .type "range", data := .fields #[.int lo t, .int hi u, .int 1 v] }).objs.size := by simpa using hb
    subst e
    exact I1.fpOk (Nat.le_refl _) (I1.hok.fresh (Nat.le_refl _))
def z9e (ta : TA) : TI := fun σ H R => ta σ H fun vs H1 => ∃ j : Int, vs = [.int j] /\ -(2 ^ 62) <= j /\ j < 2 ^ 62 /\ R (Itr 0 j.toNat) H1
def zBA (ta : TA) : TI := fun σ H R => ta σ H fun vs H1 => ∃ i j : Int, vs = [.int i, .int j] /\ (-(2 ^ 62) <= i /\ i < 2 ^ 62 /\ -(2 ^ 62) <= j /\ j < 2 ^ 62) /\ R (Itr i (j - i).toNat) H1
theorem z0e {a : Expr} {ta : TA} {p pos : Pos} (hg : Gl X "range") (hm : X.mg "range" = none) (ha : PA X [a] ta) (hs : starEach [a] X.env = [(false, eval a X.env)] := by rfl) : PI X tg (.Call (.Name "range" p) [a] [] pos) (z9e ta) := by
  intro pins s σ H R I h
  refine Call_ (z1X I hg hm boot_range (PyProof.Rows.callWith_type1 (thn (ha pos pins s σ H _ I h) fun us s1 ⟨vs, H1, I1, r1, q1⟩ => ?_) hs rfl))
  obtain ⟨j, e, q1, q2, q⟩ := q1
  subst e
  cases r1 with
  | cons r rr =>
    cases rr
    obtain ⟨t, rfl⟩ := r
    exact call_range_1 (z6i I1 (by omega) (by omega) q1 q2 (by simpa using q))
def zBB (wi : TI) (g : TG) (tb : TS) : TS := fun D σ H => wi σ H fun J H1 => ∃ W : Nat -> Nat -> St -> Hp -> Prop, (∃ m, W 0 m σ H1) /\ ∀ i m σ H, W i m σ H ->
  (J.stop i H /\ D.nx σ H) \/ (J.go i H /\ ∃ N : St -> Hp -> Prop, (∀ σ' H', N σ' H' -> ∃ m', m' < m /\ W (i + 1) m' σ' H') /\ ∀ x H', J.yld i H x H' -> g x σ H' fun σ2 H2 => tb { D with nx := N, ct := N, bk := D.nx } σ2 H2)
def z2V (fp : List Addr) (h : Heap) : List (Addr × Obj) := fp.filterMap fun b => (h.get? b).map fun o => (b, o)
theorem z0w {fp : List Addr} {h : Heap} {b : Addr} {o : Obj} (hb : b ∈ fp) (e : h.get? b = some o) : (b, o) ∈ z2V fp h := List.mem_filterMap.mpr ⟨b, hb, by rw [e]; rfl⟩
theorem z5J {fp : List Addr} {h : Heap} {p : Addr × Obj} (hp : p ∈ z2V fp h) : p.1 ∈ fp /\ h.get? p.1 = some p.2 := by
  obtain ⟨b, hb, e⟩ := List.mem_filterMap.mp hp
  cases q : h.get? b with
  | none => rw [q] at e; cases e
  | some o =>
    rw [q] at e
    have e' : (b, o) = p := Option.some.inj e
    subst e'
    exact ⟨hb, q⟩
theorem Inv.pinned {pins : List (Addr × Obj)} {σ : St} {H : Hp} {s : Shared} {fp : List Addr} (I : Inv X pins σ H s) (hf : ∀ b ∈ fp, z1v X pins H b) (ho : ∀ b ∈ fp, ∃ o, s.heap.get? b = some o /\ ∀ v, o.data ≠ .cell v) : Inv X (pins ++ z2V fp s.heap) σ H s :=
  I.pins_of fun p hp => (List.mem_append.mp hp).elim (fun z => I.pin p (List.mem_append_right _ z)) fun z => by
    obtain ⟨hb, e⟩ := z5J z
    obtain ⟨f0, f1, f2, _⟩ := hf p.1 hb
    obtain ⟨o, e', d⟩ := ho p.1 hb
    rw [e] at e'; cases e'
    exact ⟨e, f0, f1, f2, d⟩
theorem Inv.unpinned {pins pl : List (Addr × Obj)} {σ : St} {H : Hp} {s : Shared} (I : Inv X (pins ++ pl) σ H s) : Inv X pins σ H s := I.pins_of fun p hp => I.pin p (List.mem_append_right _ (List.mem_append_left _ hp))
theorem z1f {iter : Expr} {body : List Stmt} {wi : TI} {g : TG} {tb : TS} {pos : Pos} (hp : PassesOwn (model X.prog X.w) X.A X.env X.xe) (hc : X.calm = true) (hi : PI X tg iter wi) (hg : PG X tg g) (hb : PSs X body tb)
    (hs : ∀ x, foldedSetIterable iter X.env x = pure x := by intro _; rfl) : PS X (.For tg iter body [] pos) (zBB wi g tb) := by
  intro pins s σ H D I h
  refine wpAny_For (thn (hi pins s σ H _ I h) fun v s1 h1 => thn h1 fun itv s2 h2 => ?_) hs
  obtain ⟨it, fp, tn, J, H2, e, I2, T, st2, f2, W, ⟨m0, w0⟩, turn⟩ := h2
  subst e
  have stat : ∀ {H' : Hp}, (∀ b ∈ fp, H' b = none) -> ∀ b ∈ fp, z1v X pins H' b := fun hn b hb => ⟨hn b hb, (f2 b hb).2⟩
  refine codeAny_forLoop_any (fun n s' => ∃ i σ' H', Inv X pins σ' H' s' /\ tn i s'.heap /\ (∀ b ∈ fp, H' b = none) /\ W i n σ' H') ?_ m0 ⟨0, σ, H2, I2, st2, fun b hb => (f2 b hb).1, w0⟩
  rintro n s3 ⟨i, σ3, H3, I3, st3, fr3, w3⟩
  rcases turn i n σ3 H3 w3 with ⟨stop, qn⟩ | ⟨go, N, hN, step⟩
  . refine wpAny_passesOwn hp (thn (T.done X rfl rfl rfl hc i pins s3 σ3 H3 X.xe I3 (stat fr3) st3 stop) fun r s4 ⟨hr, I4⟩ => ?_)
    subst hr
    exact wpAny_execs_nil ⟨σ3, H3, I4, qn⟩
  . refine wpAny_passesOwn hp (thn (T.item X rfl rfl rfl hc i pins s3 σ3 H3 X.xe I3 (stat fr3) st3 go) fun r s4 ⟨u, hr, h4⟩ => ?_)
    subst hr
    refine wpAny_passesOwn hp (thn h4 fun _ s5 ⟨x, H5, I5, r5, y5, st5, fr5⟩ => ?_)
    have I5' := I5.pinned (stat fr5) (T.obj _ _ st5)
    refine wpAny_passesOwn hp (thn (hg _ s5 σ3 H5 x u _ I5' r5 (step x H5 y5)) fun _ s6 ⟨σ6, H6, I6, q6⟩ => ?_)
    refine wpAny_passesOwn hp (thn (hb _ s6 σ6 H6 _ I6 q6) fun f s7 q7 => ?_)
    have again : ∀ {σ7 : St} {H7 : Hp}, Inv X (pins ++ z2V fp s5.heap) σ7 H7 s7 -> N σ7 H7 -> ∃ m, m < n /\ ∃ i σ' H', Inv X pins σ' H' s7 /\ tn i s7.heap /\ (∀ b ∈ fp, H' b = none) /\ W i m σ' H' := fun {σ7 H7} I7 n7 => by
      obtain ⟨m', hm, w7⟩ := hN σ7 H7 n7
      refine ⟨m', hm, i + 1, σ7, H7, I7.unpinned, T.keep _ _ _ st5 fun b hb o e => (I7.pin (b, o) (List.mem_append_right _ (List.mem_append_right _ (z0w hb e)))).1, fun b hb => ?_, w7⟩
      obtain ⟨o, e, d⟩ := T.obj _ _ st5 b hb
      exact (I7.pin (b, o) (List.mem_append_right _ (List.mem_append_right _ (z0w hb e)))).2.1
    cases f with
    | next => obtain ⟨σ7, H7, I7, n7⟩ := q7; exact again I7 n7
    | cont => obtain ⟨σ7, H7, I7, n7⟩ := q7; exact again I7 n7
    | brk => obtain ⟨σ7, H7, I7, q7⟩ := q7; exact ⟨σ7, H7, I7.unpinned, q7⟩
    | ret v => obtain ⟨x7, σ7, H7, I7, r7, q7⟩ := q7; exact ⟨x7, σ7, H7, I7.unpinned, r7, q7⟩
end
theorem z2k {K : PySem.W.Frag} {a : Addr} {xs : List V} {g : TG} {tb : TS} {D : Ends} {σ : St} {H : Hp} (Pv : Nat -> St -> Hp -> Prop) (h0 : Pv 0 σ H) (hl : ∀ i σ H, i <= xs.length -> Pv i σ H -> SqL K H a xs)
    (hs : ∀ i x σ H, xs[i]? = some x -> Pv i σ H -> g x σ H fun σ2 H2 => tb { D with nx := Pv (i + 1), ct := Pv (i + 1), bk := D.nx } σ2 H2) (hd : ∀ σ H, Pv xs.length σ H -> D.nx σ H) :
    ∃ W : Nat -> Nat -> St -> Hp -> Prop, (∃ m, W 0 m σ H) /\ ∀ i m σ H, W i m σ H ->
      ((Itl K a).stop i H /\ D.nx σ H) \/ ((Itl K a).go i H /\ ∃ N : St -> Hp -> Prop, (∀ σ' H', N σ' H' -> ∃ m', m' < m /\ W (i + 1) m' σ' H') /\ ∀ x H', (Itl K a).yld i H x H' -> g x σ H' fun σ2 H2 => tb { D with nx := N, ct := N, bk := D.nx } σ2 H2) := by
  refine ⟨fun i m σ H => m = xs.length - i /\ i <= xs.length /\ Pv i σ H, ⟨xs.length, by simp, Nat.zero_le _, h0⟩, ?_⟩
  rintro i m σ H ⟨rfl, hi, p⟩
  have q := hl i σ H hi p
  by_cases hlt : i < xs.length
  . refine .inr ⟨⟨xs, xs[i], q, by simp [hlt]⟩, Pv (i + 1), fun σ' H' p' => ⟨xs.length - (i + 1), by omega, rfl, hlt, p'⟩, fun x H' y => ?_⟩
    obtain ⟨e, y⟩ := y
    subst e
    exact hs i x σ _ (y xs q) p
  . have e : i = xs.length := by omega
    subst e
    exact .inl ⟨⟨xs, q, Nat.le_refl _⟩, hd σ H p⟩
theorem z23 {lo : Int} {n : Nat} {g : TG} {tb : TS} {D : Ends} {σ : St} {H : Hp} (Pv : Nat -> St -> Hp -> Prop) (h0 : Pv 0 σ H)
    (hs : ∀ i σ H, i < n -> Pv i σ H -> g (.int (lo + i)) σ H fun σ2 H2 => tb { D with nx := Pv (i + 1), ct := Pv (i + 1), bk := D.nx } σ2 H2) (hd : ∀ σ H, Pv n σ H -> D.nx σ H) :
    ∃ W : Nat -> Nat -> St -> Hp -> Prop, (∃ m, W 0 m σ H) /\ ∀ i m σ H, W i m σ H ->
      ((Itr lo n).stop i H /\ D.nx σ H) \/ ((Itr lo n).go i H /\ ∃ N : St -> Hp -> Prop, (∀ σ' H', N σ' H' -> ∃ m', m' < m /\ W (i + 1) m' σ' H') /\ ∀ x H', (Itr lo n).yld i H x H' -> g x σ H' fun σ2 H2 => tb { D with nx := N, ct := N, bk := D.nx } σ2 H2) := by
  refine ⟨fun i m σ H => m = n - i /\ i <= n /\ Pv i σ H, ⟨n, by simp, Nat.zero_le _, h0⟩, ?_⟩
  rintro i m σ H ⟨rfl, hi, p⟩
  by_cases hlt : i < n
  . refine .inr ⟨hlt, Pv (i + 1), fun σ' H' p' => ⟨n - (i + 1), by omega, rfl, hlt, p'⟩, fun x H' y => ?_⟩
    obtain ⟨e, y⟩ := y
    subst e y
    exact hs i σ _ hlt p
  . have e : i = n := by omega
    subst e
    exact .inl ⟨Nat.le_refl _, hd σ H p⟩
abbrev R2 := V -> V -> Hp -> VK -> Prop
def OpR (X : Cx) (f : Value -> Value -> Sem Value) (r : R2) : Prop :=
  ∀ (pins : List (Addr × Obj)) (s : Shared) (σ : St) (H : Hp) (x y : V) (v u : Value) (Q : VK), Inv X pins σ H s -> RelV x v -> RelV y u -> r x y H Q ->
    wpAny (model X.prog X.w) X.A (f v u) (EP X pins σ Q) X.xe s
def UnR (X : Cx) (f : Value -> Sem Value) (r : V -> Hp -> VK -> Prop) : Prop :=
  ∀ (pins : List (Addr × Obj)) (s : Shared) (σ : St) (H : Hp) (x : V) (v : Value) (Q : VK), Inv X pins σ H s -> RelV x v -> r x H Q ->
    wpAny (model X.prog X.w) X.A (f v) (EP X pins σ Q) X.xe s
def CallR (X : Cx) (f : Value) (r : List V -> Hp -> VK -> Prop) : Prop :=
  ∀ (pins : List (Addr × Obj)) (s : Shared) (σ : St) (H : Hp) (xs : List V) (us : List Value) (Q : VK), Inv X pins σ H s -> Vals xs us -> r xs H Q ->
    wpAny (model X.prog X.w) X.A (call f us) (EP X pins σ Q) X.xe s
def zBr (X : Cx) (r : V -> Hp -> (Bool -> Hp -> Prop) -> Prop) : Prop :=
  ∀ (pins : List (Addr × Obj)) (s : Shared) (σ : St) (H : Hp) (x : V) (v : Value) (Q : Bool -> Hp -> Prop), Inv X pins σ H s -> RelV x v -> r x H Q ->
    wpAny (model X.prog X.w) X.A (truthy v) (TP X pins σ Q) X.xe s
def tOp (r : R2) (ta tb : TE) : TE := fun σ H Q => ta σ H fun x H1 => tb σ H1 fun y H2 => r x y H2 Q
def tUn (r : V -> Hp -> VK -> Prop) (ta : TE) : TE := fun σ H Q => ta σ H fun x H1 => r x H1 Q
def rI (C : Int -> Int -> Prop) (g : Int -> Int -> V) : R2 := fun x y H Q => ∃ i j, x = .int i /\ y = .int j /\ C i j /\ Q (g i j) H
def rI0 (g : Int -> Int -> V) : R2 := fun x y H Q => ∃ i j, x = .int i /\ y = .int j /\ Q (g i j) H
def rU (g : Int -> V) : V -> Hp -> VK -> Prop := fun x H Q => ∃ i, x = .int i /\ Q (g i) H
section
variable {X : Cx} {a b c : Expr} {ta tb tc : TE} {pos : Pos}
theorem z9f (ha : PE X a ta) (hb : PE X b tb) {pins : List (Addr × Obj)} {s : Shared} {σ : St} {H : Hp} {R : V -> V -> Hp -> Prop} (I : Inv X pins σ H s)
    (h : ta σ H fun x H1 => tb σ H1 fun y H2 => R x y H2) {Q : Value -> Shared -> Prop} {f : Value -> Value -> Sem Value}
    (hf : ∀ v u s2 x y H2, Inv X pins σ H2 s2 -> RelV x v -> RelV y u -> R x y H2 -> wpAny (model X.prog X.w) X.A (f v u) Q X.xe s2) :
    wpAny (model X.prog X.w) X.A (eval a X.env) (fun v s₁ => wpAny (model X.prog X.w) X.A (eval b X.env) (fun u s₂ => wpAny (model X.prog X.w) X.A (f v u) Q X.xe s₂) X.xe s₁) X.xe s := by
  refine thn (ha pins s σ H _ I h) fun v s1 ⟨x, H1, I1, r1, q1⟩ => ?_
  refine thn (hb pins s1 σ H1 _ I1 q1) fun u s2 ⟨y, H2, I2, r2, q2⟩ => ?_
  exact hf v u s2 x y H2 I2 r1 r2 q2
theorem z0D {op : Operator} {r : R2} (ho : OpR X (binaryOp op) r) (ha : PE X a ta) (hb : PE X b tb) : PE X (.BinOp a op b pos) (tOp r ta tb) := by
  intro pins s σ H Q I h
  exact wpAny_BinOp (z9f ha hb I h fun v u s2 x y H2 I2 rx ry q => ho pins s2 σ H2 x y v u Q I2 rx ry q)
theorem z5K {op : UnaryOp} {r : V -> Hp -> VK -> Prop} (ho : UnR X (unaryOp op) r) (ha : PE X a ta) : PE X (.UnaryOp op a pos) (tUn r ta) := by
  intro pins s σ H Q I h
  exact UnaryOp_ (thn (ha pins s σ H _ I h) fun v s1 ⟨x, H1, I1, r1, q1⟩ => ho pins s1 σ H1 x v Q I1 r1 q1)
theorem opI {f : Value -> Value -> Sem Value} {C : Int -> Int -> Prop} {g : Int -> Int -> Int}
    (rule : ∀ (i j : Int) (t u : Tok) (s : Shared) (Q : Value -> Shared -> Prop) (E : Value -> Shared -> Prop), C i j -> Q (.int (g i j) s.toks) { s with toks := s.toks + 1 } -> wpAny (model X.prog X.w) X.A (f (.int i t) (.int j u)) Q E s) :
    OpR X f (rI C fun i j => .int (g i j)) := by
  intro pins s σ H x y v u Q I rx ry h
  obtain ⟨i, j, rfl, rfl, hc, q⟩ := h
  obtain ⟨t, rfl⟩ := rx
  obtain ⟨t', rfl⟩ := ry
  exact rule i j t t' s _ _ hc ⟨.int (g i j), H, I.tok _, ⟨_, rfl⟩, q⟩
theorem z9F {f : Value -> Value -> Sem Value} {g : Int -> Int -> Int}
    (rule : ∀ (i j : Int) (t u : Tok) (s : Shared) (Q : Value -> Shared -> Prop) (E : Value -> Shared -> Prop), Q (.int (g i j) s.toks) { s with toks := s.toks + 1 } -> wpAny (model X.prog X.w) X.A (f (.int i t) (.int j u)) Q E s) :
    OpR X f (rI0 fun i j => .int (g i j)) := by
  intro pins s σ H x y v u Q I rx ry h
  obtain ⟨i, j, rfl, rfl, q⟩ := h
  obtain ⟨t, rfl⟩ := rx
  obtain ⟨t', rfl⟩ := ry
  exact rule i j t t' s _ _ ⟨.int (g i j), H, I.tok _, ⟨_, rfl⟩, q⟩
theorem z9G {f : Value -> Value -> Sem Value} {g : Int -> Int -> Bool}
    (rule : ∀ (i j : Int) (t u : Tok) (s : Shared) (Q : Value -> Shared -> Prop) (E : Value -> Shared -> Prop), Q (.bool (g i j)) s -> wpAny (model X.prog X.w) X.A (f (.int i t) (.int j u)) Q E s) :
    OpR X f (rI0 fun i j => .bl (g i j)) := by
  intro pins s σ H x y v u Q I rx ry h
  obtain ⟨i, j, rfl, rfl, q⟩ := h
  obtain ⟨t, rfl⟩ := rx
  obtain ⟨t', rfl⟩ := ry
  exact rule i j t t' s _ _ ⟨.bl (g i j), H, I, rfl, q⟩
def zBs (i j : Int) : Prop := 0 < j /\ j < 1073741824
def zBC (i j : Int) : Prop := j ≠ 0 /\ j.natAbs < 1073741824
def z9g (i j : Int) : Prop := 0 <= j /\ j <= 1000000 /\ i.natAbs < 2 ^ 64
def CMul (i j : Int) : Prop := (-(2 ^ 64) < i /\ i < 2 ^ 64) \/ (-(2 ^ 64) < j /\ j < 2 ^ 64)
theorem CMul.ok {i j : Int} (h : CMul i j) : IntMulOk i j := by
  rcases h with ⟨h1, h2⟩ | ⟨h1, h2⟩
  . exact .of_left (intBits_le_64 h1 h2)
  . exact .of_right (intBits_le_64 h1 h2)
theorem z4j (k : Nat) : (0 : Int) <= 2 ^ k := by
  rw [two_pow_cast]
  exact Int.natCast_nonneg _
theorem z0c : OpR X (binaryOp .Add) (rI0 fun i j => .int (i + j)) := z9F fun _ _ _ _ _ _ _ q => add_int q
theorem z1S : OpR X (binaryOp .Sub) (rI0 fun i j => .int (i - j)) := z9F fun _ _ _ _ _ _ _ q => sub_int q
theorem z1P : OpR X (binaryOp .Mult) (rI CMul fun i j => .int (i * j)) := opI fun _ _ _ _ _ _ _ hc q => mul_int q hc.ok
theorem z2W : OpR X (binaryOp .Mod) (rI (fun _ j => 0 < j) fun i j => .int (i % j)) := opI fun i j _ _ _ _ _ hc q => by
  have h1 : (0 : Int) < j := hc
  exact mod_int' (by omega) (by rw [Int.fmod_eq_emod_of_nonneg i (by omega)]; exact q)
theorem z4M : OpR X (binaryOp .Pow) (rI z9g fun i j => .int (i ^ j.toNat)) := opI fun _ _ _ _ _ _ _ hc q => pow_int_small hc.1 hc.2.1 hc.2.2 q
theorem z4N : OpR X (binaryOp .LShift) (rI z9g fun i j => .int (i * 2 ^ j.toNat)) := opI fun _ _ _ _ _ _ _ hc q => lshift_int_small hc.1 hc.2.1 hc.2.2 q
theorem z7F : OpR X (binaryOp .RShift) (rI (fun _ j => 0 <= j) fun i j => .int (i / 2 ^ j.toNat)) := opI fun i j _ _ _ _ _ hc q =>
  rshift_int hc (by rw [Int.fdiv_eq_ediv_of_nonneg i (z4j _)]; exact q)
theorem z5L : OpR X (binaryOp .BitAnd) (rI0 fun i j => .int (Builtin.bitAnd i j)) := z9F fun _ _ _ _ _ _ _ q => and_int q
theorem z5M : OpR X (binaryOp .BitOr) (rI0 fun i j => .int (Builtin.bitOr i j)) := z9F fun _ _ _ _ _ _ _ q => or_int q
theorem unI {f : Value -> Sem Value} {g : Int -> Int}
    (rule : ∀ (i : Int) (t : Tok) (s : Shared) (Q : Value -> Shared -> Prop) (E : Value -> Shared -> Prop), Q (.int (g i) s.toks) { s with toks := s.toks + 1 } -> wpAny (model X.prog X.w) X.A (f (.int i t)) Q E s) :
    UnR X f (rU fun i => .int (g i)) := by
  intro pins s σ H x v Q I rx h
  obtain ⟨i, rfl, q⟩ := h
  obtain ⟨t, rfl⟩ := rx
  exact rule i t s _ _ ⟨.int (g i), H, I.tok _, ⟨_, rfl⟩, q⟩
theorem z4O : UnR X (unaryOp .USub) (rU fun i => .int (-i)) := unI fun _ _ _ _ _ q => neg_int q
theorem z8Z : UnR X (unaryOp .Invert) (rU fun i => .int (Builtin.bitNot i)) := unI fun _ _ _ _ _ q => invert_int q
end
def z8a : V -> V -> Bool
  | .non, .non => true | .non, .int _ => true | .int _, .non => true | .non, .bl _ => true | .bl _, .non => true | .non, .str _ => true | .str _, .non => true
  | .int _, .int _ => true | .bl _, .bl _ => true | .str _, .str _ => true | .byt _, .byt _ => true
  | .int _, .str _ => true | .str _, .int _ => true | .bl _, .str _ => true | .str _, .bl _ => true
  | _, _ => false
def rEq : R2 := fun x y H Q => z8a x y = true /\ Q (.bl (decide (x = y))) H
def rNe : R2 := fun x y H Q => z8a x y = true /\ Q (.bl (!decide (x = y))) H
theorem z5N {i j : Int} : decide (V.int i = V.int j) = (i == j) := by
  rw [Bool.eq_iff_iff]
  simp
theorem z7G {i j : Bool} : decide (V.bl i = V.bl j) = (i == j) := by
  rw [Bool.eq_iff_iff]
  simp
theorem z5O {i j : Str} : decide (V.str i = V.str j) = (i == j) := by
  rw [Bool.eq_iff_iff]
  simp
theorem z5P {i j : Array UInt8} : decide (V.byt i = V.byt j) = (i.toList == j.toList) := by
  rw [Bool.eq_iff_iff]
  cases i
  cases j
  simp
section
variable {X : Cx} {a b c : Expr} {ta tb tc : TE} {pos : Pos}
theorem z0N {pins : List (Addr × Obj)} {σ : St} {H : Hp} {s : Shared} {Q : VK} {k k' : Bool} (I : Inv X pins σ H s) (q : Q (.bl k) H) (e : k = k') : EP X pins σ Q (.bool k') s := by
  subst e
  exact ⟨.bl k, H, I, rfl, q⟩
theorem z2l : OpR X (compareOp .Eq) rEq := by
  intro pins s σ H x y v u Q I rx ry h
  obtain ⟨hs, q⟩ := h
  cases x with
  | non =>
    cases rx
    cases y with
    | non => cases ry; exact PySem.EqNone.eq_none_none (z0N I q (by simp))
    | bl j => cases ry; exact PySem.EqNone.eq_none_bool (z0N I q (by simp))
    | int j => obtain ⟨t', rfl⟩ := ry; exact PySem.EqNone.eq_none_int (z0N I q (by simp))
    | str j => obtain ⟨t', rfl⟩ := ry; exact PySem.EqNone.eq_none_str (z0N I q (by simp))
    | _ => exact absurd (show false = true from hs) Bool.false_ne_true
  | bl i =>
    cases rx
    cases y with
    | non => cases ry; exact PySem.EqNone.eq_bool_none (z0N I q (by simp))
    | bl j => cases ry; exact eq_bool (z0N I q z7G)
    | str j => obtain ⟨t', rfl⟩ := ry; exact PySem.EqMixed.eq_bool_str (z0N I q (by simp))
    | _ => exact absurd (show false = true from hs) Bool.false_ne_true
  | int i =>
    obtain ⟨t, rfl⟩ := rx
    cases y with
    | non => cases ry; exact PySem.EqNone.eq_int_none (z0N I q (by simp))
    | int j => obtain ⟨t', rfl⟩ := ry; exact eq_int (z0N I q z5N)
    | str j => obtain ⟨t', rfl⟩ := ry; exact PySem.EqMixed.eq_int_str (z0N I q (by simp))
    | _ => exact absurd (show false = true from hs) Bool.false_ne_true
  | str i =>
    obtain ⟨t, rfl⟩ := rx
    cases y with
    | non => cases ry; exact PySem.EqNone.eq_str_none (z0N I q (by simp))
    | bl j => cases ry; exact PySem.EqMixed.eq_str_bool (z0N I q (by simp))
    | int j => obtain ⟨t', rfl⟩ := ry; exact PySem.EqMixed.eq_str_int (z0N I q (by simp))
    | str j => obtain ⟨t', rfl⟩ := ry; exact eq_str (z0N I q z5O)
    | _ => exact absurd (show false = true from hs) Bool.false_ne_true
  | byt i =>
    obtain ⟨t, rfl⟩ := rx
    cases y with
    | byt j => obtain ⟨t', rfl⟩ := ry; exact PySem.W.eq_bytes (z0N I q z5P)
    | _ => exact absurd (show false = true from hs) Bool.false_ne_true
  | _ => cases y <;> exact absurd (show false = true from hs) Bool.false_ne_true
theorem z9h : OpR X (compareOp .NotEq) rNe := by
  intro pins s σ H x y v u Q I rx ry h
  obtain ⟨hs, q⟩ := h
  cases x with
  | non =>
    cases rx
    cases y with
    | non => cases ry; exact PySem.EqNone.ne_none_none (z0N I q (by simp))
    | bl j => cases ry; exact PySem.EqNone.ne_none_bool (z0N I q (by simp))
    | int j => obtain ⟨t', rfl⟩ := ry; exact PySem.EqNone.ne_none_int (z0N I q (by simp))
    | str j => obtain ⟨t', rfl⟩ := ry; exact PySem.EqNone.ne_none_str (z0N I q (by simp))
    | _ => exact absurd (show false = true from hs) Bool.false_ne_true
  | bl i =>
    cases rx
    cases y with
    | non => cases ry; exact PySem.EqNone.ne_bool_none (z0N I q (by simp))
    | bl j => cases ry; exact ne_bool (z0N I q (congrArg not z7G))
    | str j => obtain ⟨t', rfl⟩ := ry; exact PySem.EqMixed.ne_bool_str (z0N I q (by simp))
    | _ => exact absurd (show false = true from hs) Bool.false_ne_true
  | int i =>
    obtain ⟨t, rfl⟩ := rx
    cases y with
    | non => cases ry; exact PySem.EqNone.ne_int_none (z0N I q (by simp))
    | int j => obtain ⟨t', rfl⟩ := ry; exact ne_int (z0N I q (congrArg not z5N))
    | str j => obtain ⟨t', rfl⟩ := ry; exact PySem.EqMixed.ne_int_str (z0N I q (by simp))
    | _ => exact absurd (show false = true from hs) Bool.false_ne_true
  | str i =>
    obtain ⟨t, rfl⟩ := rx
    cases y with
    | non => cases ry; exact PySem.EqNone.ne_str_none (z0N I q (by simp))
    | bl j => cases ry; exact PySem.EqMixed.ne_str_bool (z0N I q (by simp))
    | int j => obtain ⟨t', rfl⟩ := ry; exact PySem.EqMixed.ne_str_int (z0N I q (by simp))
    | str j => obtain ⟨t', rfl⟩ := ry; exact ne_str (z0N I q (congrArg not z5O))
    | _ => exact absurd (show false = true from hs) Bool.false_ne_true
  | byt i =>
    obtain ⟨t, rfl⟩ := rx
    cases y with
    | byt j => obtain ⟨t', rfl⟩ := ry; exact PySem.W.ne_bytes (z0N I q (congrArg not z5P))
    | _ => exact absurd (show false = true from hs) Bool.false_ne_true
  | _ => cases y <;> exact absurd (show false = true from hs) Bool.false_ne_true
theorem z5Q : OpR X (compareOp .Lt) (rI0 fun i j => .bl (decide (i < j))) := z9G fun _ _ _ _ _ _ _ q => lt_int q
theorem z5R : OpR X (compareOp .LtE) (rI0 fun i j => .bl (decide (i <= j))) := z9G fun _ _ _ _ _ _ _ q => le_int q
theorem z7e : OpR X (compareOp .Gt) (rI0 fun i j => .bl (decide (j < i))) := z9G fun _ _ _ _ _ _ _ q => gt_int q
theorem z8b : OpR X (compareOp .GtE) (rI0 fun i j => .bl (decide (j <= i))) := z9G fun _ _ _ _ _ _ _ q => ge_int q
theorem z7H : OpR X (compareOp .Is) (fun x y H Q => y = .non /\ Q (.bl (decide (x = .non))) H) := by
  intro pins s σ H x y v u Q I rx ry h
  obtain ⟨rfl, q⟩ := h
  cases ry
  refine is_none_gen (z0N I q ?_)
  cases x <;> first
    | (cases rx; rfl)
    | (obtain ⟨t, rfl⟩ := rx; rfl)
theorem z2m : OpR X (compareOp .IsNot) (fun x y H Q => y = .non /\ Q (.bl (!decide (x = .non))) H) := by
  intro pins s σ H x y v u Q I rx ry h
  obtain ⟨rfl, q⟩ := h
  cases ry
  refine isnot_none_gen (z0N I q ?_)
  cases x <;> first
    | (cases rx; rfl)
    | (obtain ⟨t, rfl⟩ := rx; rfl)
def isObj : HO -> Bool
  | .lst _ => true
  | .ins _ _ _ => true
  | _ => false
theorem OpR.or {f : Value -> Value -> Sem Value} {r r' : R2} (h : OpR X f r) (h' : OpR X f r') : OpR X f (fun x y H Q => r x y H Q \/ r' x y H Q) := by
  intro pins s σ H x y v u Q I rx ry q
  rcases q with q | q
  . exact h pins s σ H x y v u Q I rx ry q
  . exact h' pins s σ H x y v u Q I rx ry q
theorem z0Y (b : Expr) {op : CmpOp} (h : op ≠ .In := by decide) (h2 : op ≠ .NotIn := by decide) : behindInMarks op b = false := by
  have e1 : (op == CmpOp.In) = false := by cases op <;> first | rfl | exact absurd rfl h
  have e2 : (op == CmpOp.NotIn) = false := by cases op <;> first | rfl | exact absurd rfl h2
  cases b <;> simp [behindInMarks, e1, e2]
theorem z2n {op : CmpOp} {r : R2} (ho : OpR X (compareOp op) r) (ha : PE X a ta) (hb : PE X b tb) (hm : behindInMarks op b = false) : PE X (.Compare a [op] [b] pos) (tOp r ta tb) := by
  intro pins s σ H Q I h
  exact wpAny_Compare1 (z9f ha hb I h fun v u s2 x y H2 I2 rx ry q => ho pins s2 σ H2 x y v u Q I2 rx ry q) hm
def z8c (t : TE) : TT := fun σ H Q => t σ H fun x H' => ∃ k, x = .bl k /\ Q k H'
theorem z0S {op : CmpOp} {r : R2} (ho : OpR X (compareOp op) r) (ha : PE X a ta) (hb : PE X b tb) (hm : behindInMarks op b = false) : PT X (.Compare a [op] [b] pos) (z8c (tOp r ta tb)) := by
  intro pins s σ H Q I h
  refine wpAny_isTrue_Compare1 (thn (ha pins s σ H _ I h) fun v s1 ⟨x, H1, I1, r1, q1⟩ => thn (hb pins s1 σ H1 _ I1 q1) fun u s2 ⟨y, H2, I2, r2, q2⟩ =>
    thn (ho pins s2 σ H2 x y v u _ I2 r1 r2 q2) fun c s3 ⟨z, H3, I3, r3, k, e, q3⟩ => ?_) hm
  subst e
  cases r3
  exact wpAny_truthy_bool ⟨H3, I3, q3⟩
def z7I (r r' : R2) (ta tb tc : TE) : TE := fun σ H Q => ta σ H fun x H1 => tb σ H1 fun y H2 => r x y H2 fun z H3 => ∃ k, z = .bl k /\
  (if k = true then tc σ H3 fun w' H4 => r' y w' H4 Q else Q (.bl false) H3)
theorem z6j {op op' : CmpOp} {r r' : R2} (ho : OpR X (compareOp op) r) (ho' : OpR X (compareOp op') r') (ha : PE X a ta) (hb : PE X b tb) (hc : PE X c tc)
    (hm : lastMarks [op, op'] [b, c] = false := by with_unfolding_all rfl) : PE X (.Compare a [op, op'] [b, c] pos) (z7I r r' ta tb tc) := by
  intro pins s σ H Q I h
  refine Compare_chain (thn (ha pins s σ H _ I h) fun v s1 ⟨x, H1, I1, r1, q1⟩ => chain_link (thn (hb pins s1 σ H1 _ I1 q1) fun u s2 ⟨y, H2, I2, r2, q2⟩ =>
    thn (ho pins s2 σ H2 x y v u _ I2 r1 r2 q2) fun d s3 ⟨z, H3, I3, r3, k, e, q3⟩ => ?_)) hm
  subst e
  cases r3
  refine wpAny_truthy_bool ?_
  cases k with
  | false => exact ite_ff ⟨.bl false, H3, I3, rfl, q3⟩
  | true => exact ite_tt (chain_last (thn (hc pins s3 σ H3 _ I3 q3) fun w' s4 ⟨z', H4, I4, r4, q4⟩ => ho' pins s4 σ H4 y z' u w' Q I4 r2 r4 q4))
theorem z2o {op op' : CmpOp} {r r' : R2} (ho : OpR X (compareOp op) r) (ho' : OpR X (compareOp op') r') (ha : PE X a ta) (hb : PE X b tb) (hc : PE X c tc)
    (hm : lastMarks [op, op'] [b, c] = false := by with_unfolding_all rfl) : PT X (.Compare a [op, op'] [b, c] pos) (z8c (z7I r r' ta tb tc)) := by
  intro pins s σ H Q I h
  refine isTrue_chain (thn (ha pins s σ H _ I h) fun v s1 ⟨x, H1, I1, r1, q1⟩ => test_link (thn (hb pins s1 σ H1 _ I1 q1) fun u s2 ⟨y, H2, I2, r2, q2⟩ =>
    thn (ho pins s2 σ H2 x y v u _ I2 r1 r2 q2) fun d s3 ⟨z, H3, I3, r3, k, e, q3⟩ => ?_)) hm
  subst e
  cases r3
  refine wpAny_truthy_bool ?_
  cases k with
  | false =>
    obtain ⟨k', e', q'⟩ := q3
    cases e'
    exact ite_ff ⟨H3, I3, q'⟩
  | true =>
    refine ite_tt (test_last (thn (hc pins s3 σ H3 _ I3 q3) fun w' s4 ⟨z', H4, I4, r4, q4⟩ => thn (ho' pins s4 σ H4 y z' u w' _ I4 r2 r4 q4) fun d' s5 ⟨z2, H5, I5, r5, k2, e2, q5⟩ => ?_))
    subst e2
    cases r5
    exact wpAny_truthy_bool ⟨H5, I5, q5⟩
def zBt (K : PySem.W.Frag) (x : V) (H : Hp) (k : Bool) : Prop :=
  match x with
  | .non => k = false
  | .bl b => k = b
  | .int i => k = (i != 0)
  | .str y => y.length <= sizeLine /\ k = ((y.length : Int) != 0)
  | .byt y => y.size <= sizeLine /\ k = ((y.size : Int) != 0)
  | .ref p => (∃ xs, SqL K H p xs /\ k = !xs.isEmpty) \/ (∃ xs, SqT K H p xs /\ k = !xs.isEmpty) \/ ∃ kvs, H p = some (.dK kvs) /\ k = !kvs.isEmpty
  | _ => False
theorem z5S : (sizeLine : Nat) < 2 ^ 63 := by rw [sizeLine_eq]; decide
def z9H (b : Expr) : Prop := ∀ o i, subscripted b false o i = operate [o, i] (getItem o i)
theorem vals1 {x : V} {us : List Value} (r : Vals [x] us) : ∃ u, us = [u] /\ RelV x u := by
  cases r with
  | cons r1 r2 => cases r2; exact ⟨_, rfl, r1⟩
theorem vals2 {x y : V} {us : List Value} (r : Vals [x, y] us) : ∃ u w', us = [u, w'] /\ RelV x u /\ RelV y w' := by
  cases r with
  | cons r1 r2 =>
    cases r2 with
    | cons r3 r4 => cases r4; exact ⟨_, _, rfl, r1, r3⟩
theorem z5T (hc : X.calm = true) : CallR X (.builtin "max") (fun xs H Q => ∃ i j, xs = [.int i, .int j] /\ Q (.int (if j > i then j else i)) H) := by
  intro pins s σ H xs us Q I r h
  obtain ⟨i, j, rfl, q⟩ := h
  obtain ⟨u, w', rfl, ⟨t, rfl⟩, ⟨t', rfl⟩⟩ := vals2 r
  refine max_two_ints (I.ok.hd hc) fun h' tk k => ⟨_, H, I.kept k, ?_, q⟩
  by_cases hj : j > i
  . rw [if_pos hj, if_pos hj]; exact ⟨_, rfl⟩
  . rw [if_neg hj, if_neg hj]; exact ⟨_, rfl⟩
def zBu (K : PySem.W.Frag) (x : V) (H : Hp) (n : Nat) : Prop :=
  match x with
  | .str y => y.length <= sizeLine /\ n = y.length
  | .byt y => y.size <= sizeLine /\ n = y.size
  | .ref p => (∃ xs, SqL K H p xs /\ n = xs.length) \/ ∃ xs, SqT K H p xs /\ n = xs.length
  | _ => False
end
structure ObjM (h : Heap) (x dx C : Addr) (mA : Str -> Option Value) : Prop where
  obj : h.get? x = some (PySem.W.instObj C dx)
  ns : h.Ns1 dx mA
  ne : dx ≠ x
theorem z5U {h : Heap} {dx : Addr} {mA : Str -> Option Value} (n : h.Ns1 dx mA) : ∃ od, h.get? dx = some od /\ ∀ name, PySem.W.lookIn name od = some (mA name) := by
  obtain ⟨o, es, ep, ho, hd, hk, _, hm⟩ := n
  refine ⟨o, ho, fun name => ?_⟩
  have e := hm name
  unfold nsFind findBy at e
  rw [<- Array.find?_toList] at e
  unfold PySem.W.lookIn
  rw [hd]
  dsimp only
  split
  . rename_i y q
    rw [q] at e
    exact congrArg some e
  . rename_i q
    rw [q] at e
    have a : es.toList.any (·.refKey) = false := by
      rw [List.any_eq_false]
      intro y hy
      obtain ⟨z, t, hkey⟩ := hk y (Array.mem_toList_iff.mp hy)
      simp [DictEntry.refKey, hkey]
    have a' : ¬ es.toList.any (·.refKey) = true := by rw [a]; exact Bool.false_ne_true
    rw [if_neg a']
    exact congrArg some e
theorem ObjM.look {h : Heap} {x dx C : Addr} {mA : Str -> Option Value} (I : ObjM h x dx C mA) : ∃ od, PySem.W.InstAt h x (PySem.W.instObj C dx) C (some od) /\ ∀ name, PySem.W.lookIn name od = some (mA name) :=
  let ⟨od, ho, hl⟩ := z5U I.ns
  ⟨od, ⟨I.obj, rfl, rfl, ho⟩, hl⟩
section
variable {prog : Program} {w : World} {A : Around} {E : Value -> Shared -> Prop} {s : Shared} {K : PySem.W.Frag} {x dx C f : Addr} {mA : Str -> Option Value} {name : Str} {v : Value}
end
def z9i (f : Str) (v : V) : List (Str × V) -> List (Str × V)
  | [] => [(f, v)]
  | (g, x) :: r => if g = f then (g, v) :: r else (g, x) :: z9i f v r
section
variable {P : Program} {w : World} {H H' : Hp} {h h' : Heap} {a C dx : Addr} {fs fs' : List (Str × V)}
theorem z7f (hok : HOk P w H h) (e : H a = some (.ins C dx fs)) : ∃ mA, ObjM h a dx C mA /\ (∀ f, RelO (fs.lookup f) (mA f)) /\ PySem.Within mA (fs.map (·.1)) /\ fs.length <= 1000 /\ H dx = some (.own a) := by
  obtain ⟨d, z, ne, ob, mA, n, r, q⟩ := (show ObjOk P w H h a (.ins C dx fs) from hok a _ e)
  exact ⟨mA, ⟨ob, n, ne⟩, r, q, z, d⟩
end
structure Cls (K : PySem.W.Frag) (C : Addr) : Prop where
  pg : PySem.W.plainGet K C Str.empty = true
  hd : PySem.W.hasDictIn K C = true
  po : PySem.W.plainOver K C = true
  sa : PySem.W.findIn K (.ref C) "__setattr__" = some (some (.builtin "object.__setattr__"))
theorem Cls.get {K : PySem.W.Frag} {C : Addr} (c : Cls K C) (f : Str) : PySem.W.plainGet K C f = true := c.pg
def z5V (K : PySem.W.Frag) (C : Addr) (f : Str) : Prop := PySem.W.findIn K (.ref C) f = some none
structure Con (K : PySem.W.Frag) (C : Addr) (f : Str) (v : V) (u : Value) : Prop where
  at_ : PySem.W.findIn K (.ref C) f = some (some u)
  rel : RelV v u
  get : PySem.W.specialIn K u "__get__" = some none
  cp : PySem.W.copiedNames.contains f = false
structure Meth (K : PySem.W.Frag) (C : Addr) (m : Str) (f : Addr) : Prop where
  at_ : PySem.W.findIn K (.ref C) m = some (some (.ref f))
  fn : PySem.W.isFn K (.ref f) = true
  kp : PySem.W.keepIn K (.ref f) = true
section
variable {X : Cx} {pins : List (Addr × Obj)} {σ : St} {H : Hp} {s : Shared} {a C dx : Addr} {fs : List (Str × V)} {f : Str} {v : V} {A : Around} {E : Value -> Shared -> Prop}
theorem Inv.made (I : Inv X pins σ H s) : Inv X pins σ (upd (upd H s.heap.objs.size (.own (s.heap.objs.size + 1))) (s.heap.objs.size + 1) (.ins C s.heap.objs.size []))
    { s with heap := (s.heap.push PySem.W.emptyDict).push (PySem.W.instObj C s.heap.objs.size) } := by
  have e1 : (s.heap.push PySem.W.emptyDict).get? s.heap.objs.size = some PySem.W.emptyDict := Heap.get?_push_size s.heap rfl
  have e2 : ((s.heap.push PySem.W.emptyDict).push (PySem.W.instObj C s.heap.objs.size)).get? (s.heap.objs.size + 1) = some (PySem.W.instObj C s.heap.objs.size) := by
    have := Heap.get?_push_size (s.heap.push PySem.W.emptyDict) (o := PySem.W.instObj C s.heap.objs.size) rfl
    rwa [Heap.size_push] at this
  have e3 : (s.heap.push PySem.W.emptyDict).Ns s.heap.objs.size (fun _ => none) := ⟨PySem.W.emptyDict, #[], _, e1, rfl, (fun e he => absurd he (by simp)), fun _ => rfl⟩
  have I1 := I.laid (a := s.heap.objs.size) (o := .own (s.heap.objs.size + 1)) (h' := s.heap.push PySem.W.emptyDict) (t' := s.toks) (fun b u q => Heap.get?_push_of_some _ q) (Nat.le_refl _) ⟨_, e1⟩
  refine I1.laid (a := s.heap.objs.size + 1) (o := .ins C s.heap.objs.size []) (t' := s.toks) (fun b u q => Heap.get?_push_of_some _ q) (Nat.le_of_eq (Heap.size_push _ _)) ?_
  have ne : s.heap.objs.size ≠ s.heap.objs.size + 1 := Nat.ne_of_lt (Nat.lt_succ_self _)
  refine ⟨by rw [z06 ne, upd_same], Nat.zero_le _, ne, e2, fun _ => none, (Heap.Ns1.of_empty e3).at fun o q => Heap.get?_push_of_some _ q, fun _ => True.intro, fun y hy => absurd rfl hy⟩
end
def zBv (K : PySem.W.Frag) (ta : TE) (f : Str) : TE := fun σ H Q => ta σ H fun x H1 => ∃ a C dx fs v, x = .ref a /\ H1 a = some (.ins C dx fs) /\ Cls K C /\ z5V K C f /\ fs.lookup f = some v /\ Q v H1
def zBw (K : PySem.W.Frag) (ta : TE) (f : Str) : TE := fun σ H Q => ta σ H fun x H1 => ∃ a C dx fs v u, x = .ref a /\ H1 a = some (.ins C dx fs) /\ Cls K C /\ Con K C f v u /\ fs.lookup f = none /\ Q v H1
def zBx (K : PySem.W.Frag) (ta tv : TE) (f : Str) : TS := fun D σ H => tv σ H fun y H1 => ta σ H1 fun x H2 => ∃ a C dx fs, x = .ref a /\ H2 a = some (.ins C dx fs) /\ Cls K C /\ z5V K C f /\ fs.length < 1000 /\
  D.nx σ (upd H2 a (.ins C dx (z9i f y fs)))
def zBy (X : Cx) (op : Operator) (rd : V -> V -> Hp -> VK -> Prop) : Prop :=
  ∀ (pins : List (Addr × Obj)) (s : Shared) (σ : St) (H : Hp) (x y : V) (u v : Value) (Q : VK), Inv X pins σ H s -> RelV x u -> RelV y v -> rd x y H Q -> wpAny (model X.prog X.w) X.A (inplaceOp op u v) (EP X pins σ Q) X.xe s
def z9j (K : PySem.W.Frag) (ta tv : TE) (rd : V -> V -> Hp -> VK -> Prop) (f : Str) : TS := fun D σ H => ta σ H fun x H1 => ∃ a C dx fs v, x = .ref a /\ H1 a = some (.ins C dx fs) /\ Cls K C /\ z5V K C f /\ fs.lookup f = some v /\
  tv σ H1 fun y H2 => rd v y H2 fun z H3 => ∃ dx' fs', H3 a = some (.ins C dx' fs') /\ fs'.length < 1000 /\ D.nx σ (upd H3 a (.ins C dx' (z9i f z fs')))
section
variable {X : Cx} {o e value : Expr} {f : Str} {pos pos' tpos : Pos} {ta tv : TE}
def zBz : V -> V -> Hp -> VK -> Prop := fun x y H Q => ∃ i j, x = .int i /\ y = .int j /\ Q (.int (i + j)) H
def zC0 : V -> V -> Hp -> VK -> Prop := fun x y H Q => ∃ i j, x = .int i /\ y = .int j /\ Q (.int (i - j)) H
end
section
variable {X : Cx} {pins : List (Addr × Obj)} {σ : St} {H : Hp} {s : Shared} {A : Around} {E : Value -> Shared -> Prop} {Q : Value -> Shared -> Prop} {c : Value} {b : Bool}
inductive TyOf (K : PySem.W.Frag) (H : Hp) : V -> Value -> Prop where
  | non : TyOf K H .non (.type "NoneType")
  | bl (x : Bool) : TyOf K H (.bl x) (.type "bool")
  | int (i : Int) : TyOf K H (.int i) (.type "int")
  | str (x : Str) : TyOf K H (.str x) (.type "str")
  | flt (x : UInt64) : TyOf K H (.flt x) (.type "float")
  | lst {a : Addr} {xs : List V} (e : H a = some (.lst xs)) : TyOf K H (.ref a) (.type "list")
  | frz {a : Addr} {o : Obj} {xs : List V} (e : H a = some (.frz o (.lst xs))) : TyOf K H (.ref a) (.type "list")
  | tup {a : Addr} {xs : List V} (e : H a = some (.tup xs)) : TyOf K H (.ref a) (.type "tuple")
  | dK {a : Addr} {kvs : List (Key × V)} (e : H a = some (.dK kvs)) : TyOf K H (.ref a) (.type "dict")
  | dT {a : Addr} {kvs : List (List Key × V)} (e : H a = some (.dT kvs)) : TyOf K H (.ref a) (.type "dict")
  | ins {a C dx : Addr} {fs : List (Str × V)} (e : H a = some (.ins C dx fs)) (cl : Cls K C) (ha : PySem.W.findIn K (.ref C) "__class__" = some (some (.builtin "object.__class__")))
      (hn : PySem.W.specialIn K (.builtin "object.__class__") "__get__" = some (some (.builtin "getset_descriptor.__get__"))) (htk : PySem.W.takesIn K (.builtin "object.__class__") = some true)
      (hm : PySem.W.mroIn K C (.type "object") = some true) : TyOf K H (.ref a) (.ref C)
theorem z5W {x : V} {u t : Value} (I : Inv X pins σ H s) (rx : RelV x u) (ty : TyOf X.K H x t) (e : PySem.W.kitOne X.K t c = some b) (h : ∀ tk, Q (.bool b) { s with toks := tk }) :
    wpAny (model X.prog X.w) A (call (.builtin "isinstance") [u, c]) Q E s := by
  cases ty with
  | non => cases (show u = Value.none from rx); exact PySem.W.kia_one PySem.W.kitx_none I.kIn True.intro e (fun z => nomatch z) h
  | bl y => cases (show u = Value.bool y from rx); exact PySem.W.kia_one PySem.W.kitx_bool I.kIn True.intro e (fun z => nomatch z) h
  | int i => obtain ⟨t, q⟩ := (show ∃ t, u = Value.int i t from rx); cases q; exact PySem.W.kia_one PySem.W.kitx_int I.kIn True.intro e (fun z => nomatch z) h
  | str y => obtain ⟨t, q⟩ := (show ∃ t, u = Value.str y t from rx); cases q; exact PySem.W.kia_one PySem.W.kitx_str I.kIn True.intro e (fun z => nomatch z) h
  | flt y => obtain ⟨t, q⟩ := (show ∃ t, u = Value.float y t from rx); cases q; exact PySem.W.kia_one PySem.W.kitx_float I.kIn True.intro e (fun z => nomatch z) h
  | @lst a xs ea =>
    cases (show u = Value.ref a from rx)
    obtain ⟨_, _, n, _, h1⟩ := (show ObjOk X.prog X.w H s.heap a (.lst xs) from I.hok a _ ea)
    exact PySem.W.kia_one PySem.W.kitx_list I.kIn ⟨_, h1, rfl⟩ e (fun z => nomatch z) h
  | @frz a ob xs ea =>
    cases (show u = Value.ref a from rx)
    obtain ⟨_, _, _, n, _, h1⟩ := (show ObjOk X.prog X.w H s.heap a (.frz ob (.lst xs)) from I.hok a _ ea)
    exact PySem.W.kia_one PySem.W.kitx_list I.kIn ⟨_, h1, rfl⟩ e (fun z => nomatch z) h
  | @tup a xs ea =>
    cases (show u = Value.ref a from rx)
    obtain ⟨_, _, _, p⟩ := (show ObjOk X.prog X.w H s.heap a (.tup xs) from I.hok a _ ea)
    obtain ⟨o, h1, h2, _⟩ := p
    exact PySem.W.kia_one PySem.W.kitx_tuple I.kIn ⟨o, h1, h2⟩ e (fun z => nomatch z) h
  | @dK a kvs ea =>
    cases (show u = Value.ref a from rx)
    obtain ⟨_, _, vs, _, p⟩ := (show ObjOk X.prog X.w H s.heap a (.dK kvs) from I.hok a _ ea)
    obtain ⟨o, es, ep, h1, h2, _⟩ := p
    exact PySem.W.kia_one PySem.W.kitx_dict I.kIn ⟨o, h1, h2.1⟩ e (fun z => nomatch z) h
  | @dT a kvs ea =>
    cases (show u = Value.ref a from rx)
    obtain ⟨_, _, xs, _, o, es, ep, h1, h2, _⟩ := (show ObjOk X.prog X.w H s.heap a (.dT kvs) from I.hok a _ ea)
    exact PySem.W.kia_one PySem.W.kitx_dict I.kIn ⟨o, h1, h2.1⟩ e (fun z => nomatch z) h
  | @ins a C dx fs ea cl ha hn htk hm =>
    cases (show u = Value.ref a from rx)
    obtain ⟨mA, O, _⟩ := z7f I.hok ea
    obtain ⟨od, J, _⟩ := O.look
    exact PySem.W.kia_one (PySem.W.kitx_own (cl.get _) cl.hd ha hn htk hm) I.kIn J e (fun z => nomatch z) h
end
structure Room (k : Nat) (A : Around) : Prop where
  hd : A.handled = none
  dp : A.depth + 3 * k + 5 < recursionLimit
  un : A.units + 16 * k + 200 < cLine
theorem Room.mono {j k : Nat} {A : Around} (r : Room k A) (h : j <= k) : Room j A := ⟨r.hd, by have := r.dp; omega, by have := r.un; omega⟩
theorem Room.deeper {k : Nat} {A : Around} (r : Room (k + 1) A) (env : Env) : Room k (A.deeper env) :=
  ⟨r.hd, by have := r.dp; show A.depth + 1 + 3 * k + 5 < _; omega, by have := r.un; show A.units + 3 + 16 * k + 200 < _; omega⟩
theorem Room.in1 {k : Nat} {A : Around} (r : Room (k + 1) A) : Room k A.in1 :=
  ⟨r.hd, by have := r.dp; show A.depth + 3 * k + 5 < _; omega, by have := r.un; show A.units + 1 + 16 * k + 200 < _; omega⟩
theorem Room.depth {k : Nat} {A : Around} (r : Room k A) : A.depth < recursionLimit := by have := r.dp; omega
theorem Room.units {k : Nat} {A : Around} (r : Room k A) : A.units + 64 < cLine := by have := r.un; omega
def zAS : TA := fun _ H Q => Q [] H
def z7g (ta : TE) (tr : TA) : TA := fun σ H Q => ta σ H fun x H1 => tr σ H1 fun xs H2 => Q (x :: xs) H2
section
variable {X : Cx} {e : Expr} {es : List Expr} {te : TE} {t : TA} {pos : Pos}
theorem z03 : PA X [] zAS := fun _ _ _ _ H Q I h => Calls.spliced_nil ⟨[], H, I, .nil, h⟩
theorem z00 (ha : PE X e te) (hr : PA X es t) (hs : starEach (e :: es) X.env = (false, eval e X.env) :: starEach es X.env := by rfl) : PA X (e :: es) (z7g te t) := by
  intro pos pins s σ H Q I h
  rw [hs]
  show wpAny _ _ (spliced ((false, eval e X.env) :: backTo pos (starEach es X.env))) _ _ s
  refine Calls.spliced_cons (thn (ha pins s σ H _ I h) fun u s1 ⟨x, H1, I1, r1, q1⟩ => ?_)
  exact thn (hr pos pins s1 σ H1 _ I1 q1) fun us s2 ⟨xs, H2, I2, r2, q2⟩ => ⟨x :: xs, H2, I2, .cons r1 r2, q2⟩
def zBD (t : TA) : TE := fun σ H Q => t σ H fun xs H1 => xs.length <= sizeLine /\ ∀ p, H1 p = none -> Q (.ref p) (upd H1 p (.tup xs))
def zBE (t : TA) : TE := fun σ H Q => t σ H fun xs H1 => xs.length <= sizeLine /\ ∀ p, H1 p = none -> Q (.ref p) (upd H1 p (.lst xs))
theorem z1Z {x1} (h : PA X es t) : PE X (.Tuple es x1 pos) (zBD t) := by
  intro pins s σ H Q I hq
  refine wpAny_Tuple_spliced (thn (h pos pins s σ H _ I hq) fun us s1 ⟨xs, H1, I1, r, z, q⟩ => ⟨by rw [<- r.length]; exact z, ?_⟩)
  have hf : H1 s1.heap.objs.size = none := I1.hok.fresh (Nat.le_refl _)
  refine ⟨.ref s1.heap.objs.size, upd H1 s1.heap.objs.size (.tup xs), I1.laid (t' := s1.toks) (fun b u e => Heap.get?_push_of_some _ e) (Nat.le_refl _) ?_, rfl, q _ hf⟩
  exact ⟨z, us, r, ⟨_, Heap.get?_push_size _ rfl, rfl, _, rfl⟩⟩
theorem z3B (h : PA X es t) : PE X (.List es pos) (zBE t) := by
  intro pins s σ H Q I hq
  refine wpAny_List_spliced (thn (h pos pins s σ H _ I hq) fun us s1 ⟨xs, H1, I1, r, z, q⟩ => ⟨by rw [<- r.length]; exact z, ?_⟩)
  have hf : H1 s1.heap.objs.size = none := I1.hok.fresh (Nat.le_refl _)
  refine ⟨.ref s1.heap.objs.size, upd H1 s1.heap.objs.size (.lst xs), I1.laid (t' := s1.toks) (fun b u e => Heap.get?_push_of_some _ e) (Nat.le_refl _) ?_, rfl, q _ hf⟩
  exact ⟨z, us, 0, r, Heap.get?_push_size _ rfl⟩
end
abbrev Sp := List V -> Hp -> VK -> XK -> Prop
abbrev CXT := List Env -> Hp -> Shared -> XK -> Value -> Shared -> Prop
structure Env0 (P : Program) (w : World) (K : PySem.W.Frag) (mg : Str -> Option Value) (base : Heap) (A : Around) (outer : List Env) (s : Shared) (H : Hp) : Prop where
  frames : A.frames = some outer
  mod : Mod K mg base
  bs : ∀ b o, base.get? b = some o -> s.heap.get? b = some o /\ H b = none
  bsz : base.objs.size <= s.heap.objs.size
  funs : s.heap.FunFrames base outer
  frf : ∀ b ∈ frs outer, H b = none
  hok : HOk P w H s.heap
  bare : AllBare s.gens
def CE (outer : List Env) (P : Program) (w : World) (H : Hp) (s : Shared) (Q : VK) (u : Value) (s' : Shared) : Prop :=
  ∃ v H', s'.os = s.os /\ AllBare s'.gens /\ Un (frs outer) [] H H' s.heap s'.heap /\ HOk P w H' s'.heap /\ RelV v u /\ Q v H'
def CR (CX : CXT) (outer : List Env) (P : Program) (w : World) (H : Hp) (s : Shared) (Q : VK) (E : XK) (r : Result) (s' : Shared) : Prop :=
  match r with
  | .ok (.ret u) => CE outer P w H s Q u s'
  | .ok _ => False
  | .error e => CX outer H s E e s'
structure FnOk (P : Program) (w : World) (K : PySem.W.Frag) (mg : Str -> Option Value) (base : Heap) (CX : CXT) (k : Nat) (f : Addr) (fd : FuncData) (ps : List Str) (sp : Sp) : Prop where
  len : ∀ vs H Q E, sp vs H Q E -> vs.length = ps.length
  run : ∀ (A : Around) (outer : List Env) (s : Shared) (H : Hp) (args : Args) (us : List Value) (vs : List V) (Q : VK) (E : XK), Room k A -> Env0 P w K mg base A outer s H -> BindsTo s fd args (ps.zip us) -> Vals vs us -> sp vs H Q E ->
    codeAny (model P w) A (.call (.ref f) args) (CR CX outer P w H s Q E) s
theorem FnOk.mono {P : Program} {w : World} {K : PySem.W.Frag} {mg : Str -> Option Value} {base : Heap} {CX : CXT} {j k : Nat} {f : Addr} {fd : FuncData} {ps : List Str} {sp : Sp} (F : FnOk P w K mg base CX j f fd ps sp) (h : j <= k) :
    FnOk P w K mg base CX k f fd ps sp := ⟨F.len, fun A outer s H args us vs Q E hr => F.run A outer s H args us vs Q E (hr.mono h)⟩
theorem Env0.in1 {P : Program} {w : World} {K : PySem.W.Frag} {mg : Str -> Option Value} {base : Heap} {A : Around} {outer : List Env} {s : Shared} {H : Hp} (e : Env0 P w K mg base A outer s H) :
    Env0 P w K mg base A.in1 outer s H := ⟨e.frames, e.mod, e.bs, e.bsz, e.funs, e.frf, e.hok, e.bare⟩
section
variable {X : Cx} {pins : List (Addr × Obj)} {σ : St} {H : Hp} {s s' : Shared}
theorem Inv.env0 (I : Inv X pins σ H s) : Env0 X.prog X.w X.K X.mg X.base X.A X.stack s H :=
  ⟨I.ok.frames, I.ok.mod, I.bs, Nat.le_trans I.ok.bsz I.sz, I.stack, I.stkFree, I.hok, I.bare⟩
theorem Inv.after {Q : VK} {u : Value} (I : Inv X pins σ H s) (h : CE X.stack X.prog X.w H s Q u s') : EP X pins σ Q u s' := by
  obtain ⟨v, H', os, bare, un, hok, r, q⟩ := h
  obtain ⟨hh, g, d, t, os'⟩ := s'
  obtain rfl : os' = s.os := os
  exact ⟨v, H', I.call (h' := hh) (g' := g) (d' := d) (t' := t) (ch := []) un hok bare (fun b z => absurd z (by simp)), r, q⟩
end
def z6k (sp : Sp) (dvs : List V) (E : XK) (t : TA) : TE := fun σ H Q => t σ H fun vs H1 => sp (vs ++ dvs) H1 Q E
def zBF (C : Addr) (m : Str) (sp : Sp) (dvs : List V) (E : XK) (ta : TE) (t : TA) : TE := fun σ H Q => ta σ H fun x H1 => ∃ a dx fs, x = .ref a /\ H1 a = some (.ins C dx fs) /\ fs.lookup m = none /\
  t σ H1 fun vs H2 => sp (x :: (vs ++ dvs)) H2 Q E
def zBG (C : Addr) (sp : Sp) (dvs : List V) (E : XK) (t : TA) : TE := fun σ H Q => t σ H fun vs H1 => ∀ x dx, H1 x = none -> H1 dx = none -> dx ≠ x ->
  sp (.ref x :: (vs ++ dvs)) (upd (upd H1 dx (.own x)) x (.ins C dx [])) (fun v H2 => v = .non /\ Q (.ref x) H2) E
def Binds (K : PySem.W.Frag) (fd : FuncData) (ps : List Str) (ds : List Value) : Prop :=
  ∀ (s : Shared) (us : List Value), K.In s.heap -> (us ++ ds).length = ps.length -> BindsTo s fd ⟨us, []⟩ (ps.zip (us ++ ds))
theorem Binds.all {K : PySem.W.Frag} {fd : FuncData} {ps : List Str} (h : ∀ us : List Value, us.length = ps.length -> bindArgs fd ⟨us, []⟩ = pure (ps.zip us)) : Binds K fd ps [] := fun s us _ hl => by
  rw [List.append_nil] at hl ⊢
  exact .of_eq (h us hl)
def z5X (CX : CXT) (X : Cx) (E : XK) : Prop := ∀ (pins : List (Addr × Obj)) (σ : St) (H : Hp) (s : Shared) (e : Value) (s' : Shared), Inv X pins σ H s -> CX X.stack H s E e s' -> X.xe e s'
section
variable {X : Cx} {CX : CXT} {k : Nat} {f C : Addr} {fd : FuncData} {ps : List Str} {sp : Sp} {dvs : List V} {ds : List Value} {E : XK} {x m : Str} {p pos apos : Pos} {e o : Expr} {es : List Expr} {ta : TE} {t : TA}
theorem z8d {pins : List (Addr × Obj)} {σ : St} {H : Hp} {s : Shared} {Q : VK} {us : List Value} {vs : List V} (F : FnOk X.prog X.w X.K X.mg X.base CX k f fd ps sp) (hr : Room k X.A) (hb : Binds X.K fd ps ds) (hd : Vals dvs ds) (hx : z5X CX X E)
    (I : Inv X pins σ H s) (r : Vals vs us) (h : sp (vs ++ dvs) H Q E) : wpAny (model X.prog X.w) X.A (call (.ref f) us) (EP X pins σ Q) X.xe s := by
  have r2 : Vals (vs ++ dvs) (us ++ ds) := r.append hd
  have hl : (us ++ ds).length = ps.length := by rw [<- r2.length]; exact F.len _ _ _ _ h
  refine wpAny_call (codeAny_mono (F.run X.A X.stack s H ⟨us, []⟩ (us ++ ds) (vs ++ dvs) Q E hr I.env0 (hb s us I.kIn hl) r2 h) fun r s' hq => ?_)
  cases r with
  | error e => exact hx pins σ H s e s' I hq
  | ok fl =>
    cases fl with
    | ret u => exact I.after hq
    | next => exact False.elim hq
    | brk => exact False.elim hq
    | cont => exact False.elim hq
theorem z5Y (F : FnOk X.prog X.w X.K X.mg X.base CX k f fd ps sp) (hr : Room k X.A) (hg : Gl X x) (hm : X.mg x = some (.ref f)) (hk : PySem.W.keepIn X.K (.ref f) = true) (hb : Binds X.K fd ps ds) (hd : Vals dvs ds) (hx : z5X CX X E)
    (ha : PA X (e :: es) t) (hdb : (x == ("__debug__" : Str)) = false := by decide) (he : starEach (e :: es) X.env = (false, eval e X.env) :: starEach es X.env := by rfl) (hpl : (backTo pos (starEach es X.env)).any (·.1) = false := by rfl) :
    PE X (.Call (.Name x p) (e :: es) [] pos) (z6k sp dvs E t) := by
  intro pins s σ H Q I h
  refine wpAny_Call_Name_kw (z7c I hg hm ?_ hdb)
  refine PySem.W.callWith_K (h₀ := X.base) I.ok.mod.kin hk (thn (ha pos pins s σ H _ I h) fun us s1 ⟨vs, H1, I1, r, q⟩ => ⟨I1.kIn, ?_⟩) he hpl
  exact z8d F hr hb hd hx I1 r q
structure Mk (K : PySem.W.Frag) (C f : Addr) : Prop where
  makes : PySem.W.makesIn K C = true
  init : PySem.W.findIn K (.ref C) "__init__" = some (some (.ref f))
  fn : PySem.W.isFn K (.ref f) = true
  kp : PySem.W.keepIn K (.ref C) = true
end
def PK (X : Cx) (kws : List Keyword) (t : TA) : Prop :=
  ∀ (pos : Pos) (pins : List (Addr × Obj)) (s : Shared) (σ : St) (H : Hp) (Q : List V -> Hp -> Prop), Inv X pins σ H s -> t σ H Q -> wpAny (model X.prog X.w) X.A (evalAll ((backToKw pos (keywordEach kws X.env)).map (·.2))) (AP X pins σ Q) X.xe s
section
variable {X : Cx} {CX : CXT} {k : Nat} {f C : Addr} {fd : FuncData} {ps ks : List Str} {sp : Sp} {E : XK} {x m : Str} {p pos apos kpos : Pos} {e o : Expr} {es : List Expr} {kws : List Keyword} {te ta : TE} {t tk : TA} {nm : Option Str}
structure KBinds (K : PySem.W.Frag) (fd : FuncData) (ps ks : List Str) (g : List Value -> List Value -> List Value) (gV : List V -> List V -> List V) : Prop where
  to : ∀ (s : Shared) (us ws : List Value), K.In s.heap -> (g us ws).length = ps.length -> BindsTo s fd ⟨us, ks.zip ws⟩ (ps.zip (g us ws))
  rel : ∀ {vs : List V} {us : List Value} {zs : List V} {ws : List Value}, Vals vs us -> Vals zs ws -> Vals (gV vs zs) (g us ws)
def zAT (sp : Sp) (gV : List V -> List V -> List V) (E : XK) (t tk : TA) : TE := fun σ H Q => t σ H fun vs H1 => tk σ H1 fun zs H2 => sp (gV vs zs) H2 Q E
variable {g : List Value -> List Value -> List Value} {gV : List V -> List V -> List V}
end
structure FnScope (N P : List Str) (sc : Scope) : Prop where
  kind : sc.kind = .function
  co : sc.isCoroutine = false
  gen : sc.isGenerator = false
  nd : N.Nodup
  pre : N.take P.length = P
  par : ∀ x ∈ P, sc.names.lookup x = some .local \/ sc.names.lookup x = some .cell
  nofree : ∀ y ∈ sc.names, y.2 ≠ .free
theorem z3C {kindOf : Str -> Option NameKind} {x : Str} : ∀ {binds : List (Str × Value)} {m : Str -> Option Value}, (∀ v, (x, v) ∉ binds) -> bindL kindOf binds m x = m x
  | [], _, _ => rfl
  | (n, v) :: r, m, h => by
    unfold bindL
    rw [z3C fun w hw => h w (List.mem_cons_of_mem _ hw)]
    split
    . have : x ≠ n := by rintro rfl; exact h v List.mem_cons_self
      simp [this]
    . rfl
theorem z3D {kindOf : Str -> Option NameKind} {x : Str} : ∀ {binds : List (Str × Value)} {m : Str -> Option Value}, (∀ v, (x, v) ∉ binds) -> bindC kindOf binds m x = m x
  | [], _, _ => rfl
  | (n, v) :: r, m, h => by
    unfold bindC
    rw [z3D fun w hw => h w (List.mem_cons_of_mem _ hw)]
    split
    . rfl
    . have : x ≠ n := by rintro rfl; exact h v List.mem_cons_self
      simp [this]
theorem z3E {kindOf : Str -> Option NameKind} {x : Str} {v : Value} : ∀ {P : List Str} {vs : List Value} {i : Nat} {m : Str -> Option Value}, P.Nodup -> P[i]? = some x -> vs[i]? = some v -> kindOf x = some .local ->
    bindL kindOf (P.zip vs) m x = some v
  | [], _, _, _, _, h, _, _ => by simp at h
  | _ :: _, [], _, _, _, _, h, _ => by simp at h
  | p :: P, w :: vs, 0, m, nd, h1, h2, hk => by
    simp at h1 h2; subst h1; subst h2
    show bindL kindOf ((p, w) :: P.zip vs) m p = _
    unfold bindL
    rw [z3C fun v hv => (List.nodup_cons.mp nd).1 (List.of_mem_zip hv).1, if_pos hk]
    simp
  | p :: P, w :: vs, i + 1, m, nd, h1, h2, hk => by
    show bindL kindOf ((p, w) :: P.zip vs) m x = _
    unfold bindL
    exact z3E (i := i) (List.nodup_cons.mp nd).2 (by simpa using h1) (by simpa using h2) hk
theorem z3F {kindOf : Str -> Option NameKind} {x : Str} {v : Value} : ∀ {P : List Str} {vs : List Value} {i : Nat} {m : Str -> Option Value}, P.Nodup -> P[i]? = some x -> vs[i]? = some v -> kindOf x ≠ some .local ->
    bindC kindOf (P.zip vs) m x = some v
  | [], _, _, _, _, h, _, _ => by simp at h
  | _ :: _, [], _, _, _, _, h, _ => by simp at h
  | p :: P, w :: vs, 0, m, nd, h1, h2, hk => by
    simp at h1 h2; subst h1; subst h2
    show bindC kindOf ((p, w) :: P.zip vs) m p = _
    unfold bindC
    rw [z3D fun v hv => (List.nodup_cons.mp nd).1 (List.of_mem_zip hv).1, if_neg hk]
    simp
  | p :: P, w :: vs, i + 1, m, nd, h1, h2, hk => by
    show bindC kindOf ((p, w) :: P.zip vs) m x = _
    unfold bindC
    exact z3F (i := i) (List.nodup_cons.mp nd).2 (by simpa using h1) (by simpa using h2) hk
def start (N : List Str) (vs : List V) : St := vs.map some ++ List.replicate (N.length - vs.length) none
def z7J (CX : CXT) (P : Program) (w : World) (K : PySem.W.Frag) (mg : Str -> Option Value) (base : Heap) (N : List Str) (qual : Str) (scope : Scope) (f : Addr) (cd : Value) (A : Around) (outer : List Env) (s : Shared) (H : Hp) (E : XK) : Cx where
  prog := P
  w := w
  K := K
  mg := mg
  base := base
  A := A.deeper (envOfC qual scope s.heap.objs.size f cd)
  N := N
  s₀ := s
  H₀ := H
  env := envOfC qual scope s.heap.objs.size f cd
  outer := outer
  stack := envOfC qual scope s.heap.objs.size f cd :: outer
  ex := []
  calm := true
  fn := fun _ => true
  pn := []
  xe := fun e s' => wpAny (model P w) (A.deeper (envOfC qual scope s.heap.objs.size f cd)) (leaving (envOfC qual scope s.heap.objs.size f cd) e) (fun _ s'' => CX outer H s E e s'') (fun e' s'' => CX outer H s E e' s'') s'
theorem z4P {sc : Scope} {n : Nat} {x : Str} (h : sc.names.lookup x = some .cell) : ∃ c, (cellsFrom n sc.names []).lookup x = some c := by
  have q := PySem.W.cellsFrom_some sc.names n [] (.inl h)
  exact Option.isSome_iff_exists.mp q
theorem z5Z {CX : CXT} {P : Program} {w : World} {K : PySem.W.Frag} {mg : Str -> Option Value} {base : Heap} {N ps : List Str} {qual : Str} {scope : Scope} {f : Addr} {cd : Value} {A : Around} {outer : List Env} {s s1 : Shared} {H : Hp} {E : XK} {us : List Value} {vs : List V}
    (S : FnScope N ps scope) (hd : A.handled = none) (e0 : Env0 P w K mg base A outer s H) (hl : vs.length = ps.length) (r : Vals vs us)
    (x : InCallC s s.heap.objs.size (bindL (envOfC qual scope s.heap.objs.size f cd).kindOf (ps.zip us) fun _ => none) (cellsFrom (s.heap.objs.size + 1) scope.names []) (bindC (envOfC qual scope s.heap.objs.size f cd).kindOf (ps.zip us) fun _ => none) s1) :
    Inv (z7J CX P w K mg base N qual scope f cd A outer s H E) [] (start N vs) H s1 := by
  have hpl : ps.length <= N.length := by have := congrArg List.length S.pre; rw [List.length_take] at this; omega
  obtain ⟨h1, tk, rfl, hk⟩ := x.done
  have noA : ∀ b : Addr, b ∉ (z7J CX P w K mg base N qual scope f cd A outer s H E).ex := fun b z => absurd (show b ∈ ([] : List Addr) from z) (by simp)
  refine ⟨⟨e0.mod, S.kind, rfl, rfl, Nat.le_refl _, fun y z c h1 h2 => ?_, fun y hy => ?_, fun y c _ h => ?_, fun _ => hd, Around.frames_deeper e0.frames, .inr ⟨rfl, rfl⟩, fun b z => absurd z (noA b), e0.bs, e0.bsz, fun b _ _ => noA b, fun b z => absurd z (noA b), e0.funs, e0.frf⟩,
    rfl, e0.bare, Un.kept hk, ⟨_, x.toInCall.ns, fun i y v h1 h2 h3 => ?_⟩, fun y c h => ⟨_, x.cell y c h⟩, e0.hok.fresh (Nat.le_refl _), fun y c h => ?_, fun p hp => absurd (show p ∈ ([] : List (Addr × Obj)) from hp) (by simp), e0.hok.kept hk, ?_⟩
  . exact name_of_addr x.apart (PySem.mem_of_lookup h1) (PySem.mem_of_lookup h2)
  . have hy : scope.names.lookup y = some .cell \/ scope.names.lookup y = some .free := hy
    rcases hy with hy | hy
    . exact z4P hy
    . exact absurd rfl (S.nofree _ (PySem.mem_of_lookup hy))
  . exact Nat.le_of_lt (x.above y c (PySem.mem_of_lookup h))
  . have hi : i < vs.length := by
      unfold start at h2
      by_cases hi : i < vs.length
      . exact hi
      . rw [List.getElem?_append_right (by simpa using hi)] at h2
        rw [List.getElem?_replicate] at h2
        split at h2 <;> cases h2
    have ha : vs[i]? = some v := by
      unfold start at h2
      rw [List.getElem?_append_left (by simpa using hi), List.getElem?_map] at h2
      cases e : vs[i]? with
      | none => rw [e] at h2; cases h2
      | some a => rw [e] at h2; cases h2; rfl
    obtain ⟨u, hu, rv⟩ := r.get ha
    have hp : ps[i]? = some y := by
      rw [<- S.pre, List.getElem?_take_of_lt (by omega)]; exact h1
    have ndP : ps.Nodup := by rw [<- S.pre]; exact S.nd.sublist (List.take_sublist _ _)
    refine ⟨u, rv, ?_⟩
    rcases S.par y (List.mem_of_getElem? hp) with k | k
    . exact .inl ⟨k, z3E ndP hp hu k⟩
    . obtain ⟨c, e⟩ := z4P (n := s.heap.objs.size + 1) k
      refine .inr ⟨.inl k, c, e, ?_⟩
      have q := x.cell y c e
      rw [z3F ndP hp hu (by show scope.names.lookup y ≠ _; rw [k]; decide)] at q
      exact q
  . exact e0.hok.fresh (Nat.le_of_lt (x.above y c (PySem.mem_of_lookup h)))
  . unfold start
    show _ = N.length
    rw [List.length_append, List.length_map, List.length_replicate]
    omega
theorem z7h {CX : CXT} {P : Program} {w : World} {K : PySem.W.Frag} {mg : Str -> Option Value} {base : Heap} {k : Nat} {f : Addr} {name qual : Str} {params : Arguments} {body : List Stmt} {scope : Scope} {dV kV doc pm cdv ct oc : Value} {an od : Option Addr}
    {osl : Array (Option Value)} {N ps : List Str} {sp : Sp} (lk : K.lookup f = some ⟨oc, od, .func (PySem.W.fnOf name qual params body scope dV kV doc pm an cdv ct), osl⟩) (hcd : PySem.W.codeIn K cdv qual = true) (S : FnScope N ps scope)
    (len : ∀ vs H Q E, sp vs H Q E -> vs.length = ps.length)
    (hbody : ∀ (A : Around) (outer : List Env) (s : Shared) (H : Hp) (vs : List V) (Q : VK) (E : XK), Room k (A.deeper (envOfC qual scope s.heap.objs.size f cdv)) -> sp vs H Q E ->
      ∃ t, PSs (z7J CX P w K mg base N qual scope f cdv A outer s H E) body t /\ t { nx := fun _ H' => Q .non H', rt := Q } (start N vs) H) :
    FnOk P w K mg base CX (k + 1) f (PySem.W.fnOf name qual params body scope dV kV doc pm an cdv ct) ps sp := by
  refine ⟨len, fun A outer s H args us vs Q E hr e0 hb r hsp => ?_⟩
  have hl := len _ _ _ _ hsp
  have KX : K.In s.heap := e0.mod.kin.keeps fun b o e => (e0.bs b o e).1
  have lim : s.heap.NoLimit := e0.mod.nolimit.keeps fun b o e => (e0.bs b o e).1
  have hkind : ∀ y ∈ ps.zip us, scope.names.lookup y.1 = some .local \/ (scope.names.lookup y.1 = some .cell /\ ((cellsFrom (s.heap.objs.size + 1) scope.names []).lookup y.1).isSome = true) := fun ⟨n, v⟩ hy => by
    rcases S.par n (List.of_mem_zip hy).1 with q | q
    . exact .inl q
    . exact .inr ⟨q, PySem.W.cellsFrom_some _ _ _ (.inl q)⟩
  refine codeAny_call_function hr.depth (KX _ _ lk) rfl S.co S.gen rfl (PySem.W.codeRec_of KX hcd) (hb _ _ _ _ ?_)
  refine wpAny_newFunctionEnv_cells S.kind hkind fun env he s1 x => ?_
  subst he
  refine ⟨lim.keeps x.toInCall.keep, codeAny_func ?_⟩
  obtain ⟨t, ht, hq⟩ := hbody A outer s H vs Q E (hr.deeper _) hsp
  have I : Inv (z7J CX P w K mg base N qual scope f cdv A outer s H E) [] (start N vs) H s1 := z5Z S hr.hd e0 hl r x
  refine wpAny_mono (ht [] s1 (start N vs) H _ I hq) (fun fl s' hs => ?_) fun e s' hs => hs
  have fin : ∀ {σ' : St} {H' : Hp} {v : V} {u : Value}, Inv (z7J CX P w K mg base N qual scope f cdv A outer s H E) [] σ' H' s' -> RelV v u -> Q v H' -> CE outer P w H s Q u s' :=
    fun {σ' H' v u} J rv q => ⟨v, H', J.os, J.bare, J.base, J.hok, rv, q⟩
  cases fl with
  | ret u =>
    obtain ⟨v, σ', H', J, rv, q⟩ := hs
    exact fin J rv q
  | next =>
    obtain ⟨σ', H', J, q⟩ := hs
    exact fin (v := V.non) (u := Value.none) J rfl q
  | brk =>
    obtain ⟨_, _, _, q⟩ := hs
    exact False.elim q
  | cont =>
    obtain ⟨_, _, _, q⟩ := hs
    exact False.elim q
section
variable {X : Cx} {x : Str} {p pos : Pos} {e : Expr} {es : List Expr} {t : TA} {id T : String} {r : List V -> Hp -> VK -> Prop}
def tCB (r : List V -> Hp -> VK -> Prop) (t : TA) : TE := fun σ H Q => t σ H fun vs H1 => r vs H1 Q
theorem z0L (hc : CallR X (.builtin id) r) (hg : Gl X x) (hm : X.mg x = none) (hv : bootBuiltins x = some (.builtin id)) (ha : PA X (e :: es) t) (hn : x ≠ "__name__" := by decide) (hdb : (x == ("__debug__" : Str)) = false := by decide)
    (he : starEach (e :: es) X.env = (false, eval e X.env) :: starEach es X.env := by rfl) (hpl : (backTo pos (starEach es X.env)).any (·.1) = false := by rfl) : PE X (.Call (.Name x p) (e :: es) [] pos) (tCB r t) := by
  intro pins s σ H Q I h
  refine wpAny_Call_Name_kw (z1X I hg hm hv ?_ hn hdb)
  exact PyProof.Rows.callWith_builtin1 (thn (ha pos pins s σ H _ I h) fun us s1 ⟨vs, H1, I1, r1, q1⟩ => hc pins s1 σ H1 vs us Q I1 r1 q1) he hpl
theorem z0m (hc : CallR X (.type T) r) (hg : Gl X x) (hm : X.mg x = none) (hv : bootBuiltins x = some (.type T)) (ha : PA X (e :: es) t) (hn : x ≠ "__name__" := by decide) (hdb : (x == ("__debug__" : Str)) = false := by decide)
    (he : starEach (e :: es) X.env = (false, eval e X.env) :: starEach es X.env := by rfl) (hpl : (backTo pos (starEach es X.env)).any (·.1) = false := by rfl) : PE X (.Call (.Name x p) (e :: es) [] pos) (tCB r t) := by
  intro pins s σ H Q I h
  refine wpAny_Call_Name_kw (z1X I hg hm hv ?_ hn hdb)
  exact PyProof.Rows.callWith_type1 (thn (ha pos pins s σ H _ I h) fun us s1 ⟨vs, H1, I1, r1, q1⟩ => hc pins s1 σ H1 vs us Q I1 r1 q1) he hpl
end
end L2
namespace HT
open PySem PyProof.Rows
def lexLt : List Int -> List Int -> Bool
  | [], [] => false
  | [], _ :: _ => true
  | _ :: _, [] => false
  | x :: xs, y :: ys => if x = y then lexLt xs ys else decide (x < y)
section
open PySem.SeqAt
open PySem.AutoSeq1 (wpAny_loadPart')
open PySem.MeetsSeq PySem.MeetsSeq2 PySem.MeetsSeq3
end
section
variable {prog : Program} {w : World} {A : Around} {E : Value -> Shared -> Prop} {s : Shared}
theorem cat_tup {t b : Addr} {vs ws : List Value} {Q : Value -> Shared -> Prop} (ht : IsTup s.heap t vs.toArray) (hb : IsTup s.heap b ws.toArray) (hv : vs ≠ [])
    (h1 : ws = [] -> Q (.ref t) s) (h2 : ws ≠ [] -> Q (.ref s.heap.objs.size) { s with heap := s.heap.push { cls := .type "tuple", data := .seq (vs ++ ws).toArray } })
    (hsz : vs.length + ws.length <= sizeLine) : wpAny (model prog w) A (binaryOp .Add (.ref t) (.ref b)) Q E s := by
  obtain ⟨⟨cls, dd, data, sl⟩, ho, hc, n, hd⟩ := id ht
  obtain ⟨⟨cls2, dd2, data2, sl2⟩, ho2, hc2, n2, hd2⟩ := id hb
  simp only at hc hd hc2 hd2
  subst hc hd hc2 hd2
  have e : vs.toArray ++ ws.toArray = (vs ++ ws).toArray := by simp
  by_cases hw : ws = []
  . exact concat_meets ⟨_, ho, rfl⟩ ⟨_, ho2, rfl⟩ noFill_tuple_add seq_tuple_add PySem.F.slot_tuple_add PySem.F.entry_tuple_add (PySem.F.args_tuple_add_2 _ _)
      (tuple_addW1 t b vs.toArray ws.toArray n n2 dd dd2 sl sl2 (by simpa using hv) (by simp [hw])) ⟨ho, ho2, h1 hw⟩
  . refine concat_meets ⟨_, ho, rfl⟩ ⟨_, ho2, rfl⟩ noFill_tuple_add seq_tuple_add PySem.F.slot_tuple_add PySem.F.entry_tuple_add (PySem.F.args_tuple_add_2 _ _)
      (tuple_addW2 t b vs.toArray ws.toArray n n2 dd dd2 sl sl2 (by simpa using hv) (by simpa using hw) (by rw [List.size_toArray, List.size_toArray]; exact hsz)) ⟨ho, ho2, ?_⟩
    rw [e]
    exact h2 hw
def sIx (n d : Nat) : Option Int -> Nat
  | none => d
  | some v => if v < 0 then (v + (n : Int)).toNat else min v.toNat n
theorem sIx_nat (n d k : Nat) : sIx n d (some (k : Int)) = min k n := by
  show (if (k : Int) < 0 then ((k : Int) + (n : Int)).toNat else min (k : Int).toNat n) = min k n
  rw [if_neg (by omega), Int.toNat_natCast]
end
end HT
namespace L2
open PySem PySem.Spec PyProof.Rows
abbrev TO := St -> Hp -> (Option Int -> Hp -> Prop) -> Prop
def PO (X : Cx) (e : Option Expr) (t : TO) : Prop :=
  ∀ (pins : List (Addr × Obj)) (s : Shared) (σ : St) (H : Hp) (Q : Option Int -> Hp -> Prop), Inv X pins σ H s -> t σ H Q ->
    wpAny (model X.prog X.w) X.A (evalPart e X.env) (fun u s' => ∃ o H', Inv X pins σ H' s' /\ IsPart u o /\ Q o H') X.xe s
def z7i : TO := fun _ H Q => Q none H
def z9k (t : TE) : TO := fun σ H Q => t σ H fun x H1 => ∃ i, x = .int i /\ Q (some i) H1
section
variable {X : Cx} {e : Expr} {te : TE} {lo hi : Option Expr} {tl th : TO} {pos p2 : Pos}
theorem z7j : PO X none z7i := by
  intro pins s σ H Q I h
  rw [evalPart_none]
  exact wpAny_pure ⟨none, H, I, .none, h⟩
theorem z7k (h : PE X e te) : PO X (some e) (z9k te) := by
  intro pins s σ H Q I hw
  rw [evalPart_some]
  refine thn (h pins s σ H _ I hw) fun u s1 ⟨x, H1, I1, r1, q1⟩ => ?_
  obtain ⟨i, rfl, q⟩ := q1
  obtain ⟨t, rfl⟩ := r1
  exact ⟨some i, H1, I1, .int i t, q⟩
def SlR (X : Cx) (r : V -> Option Int -> Option Int -> Hp -> VK -> Prop) : Prop :=
  ∀ (pins : List (Addr × Obj)) (s : Shared) (σ : St) (H : Hp) (x : V) (v vl vu : Value) (lo hi : Option Int) (sl : Addr) (Q : VK), Inv X pins σ H s -> RelV x v -> s.heap.IsSliceOf sl vl vu .none -> IsPart vl lo -> IsPart vu hi -> r x lo hi H Q ->
    ∃ T id, typeLookup (.type T) "__getitem__" = pure (some (.builtin id)) /\ s.TypeIs v T /\ wpAny (model X.prog X.w) X.A (getItem v (.ref sl)) (EP X pins σ Q) X.xe s
theorem SlR.or {r r' : V -> Option Int -> Option Int -> Hp -> VK -> Prop} (h : SlR X r) (h' : SlR X r') : SlR X (fun x lo hi H Q => r x lo hi H Q \/ r' x lo hi H Q) := by
  intro pins s σ H x v vl vu lo hi sl Q I rx hs pl pu q
  rcases q with q | q
  . exact h pins s σ H x v vl vu lo hi sl Q I rx hs pl pu q
  . exact h' pins s σ H x v vl vu lo hi sl Q I rx hs pl pu q
def tSl (r : V -> Option Int -> Option Int -> Hp -> VK -> Prop) (te : TE) (tl th : TO) : TE := fun σ H Q => te σ H fun x H1 => tl σ H1 fun l H2 => th σ H2 fun u H3 => r x l u H3 Q
theorem z6l {r : V -> Option Int -> Option Int -> Hp -> VK -> Prop} (hr : SlR X r) (he : PE X e te) (hl : PO X lo tl) (hu : PO X hi th) : PE X (.Subscript e (.Slice lo hi none p2) pos) (tSl r te tl th) := by
  intro pins s σ H Q I h
  refine Subscript_ (thn (he pins s σ H _ I h) fun v s1 ⟨x, H1, I1, r1, q1⟩ => ?_)
  refine wpAny_Slice (thn (hl pins s1 σ H1 _ I1 q1) fun vl s2 ⟨l, H2, I2, pl, q2⟩ => thn (hu pins s2 σ H2 _ I2 q2) fun vu s3 ⟨u, H3, I3, pu, q3⟩ => ?_)
  rw [evalPart_none]
  refine wpAny_pure ?_
  have I4 : Inv X pins σ H3 { s3 with heap := s3.heap.push { cls := .type "slice", data := .fields #[vl, vu, .none] } } := I3.kept (t' := s3.toks) fun b ob q => Heap.get?_push_of_some _ q
  obtain ⟨T, id, hT, ht, hg⟩ := hr pins { s3 with heap := s3.heap.push { cls := .type "slice", data := .fields #[vl, vu, .none] } } σ H3 x v vl vu l u s3.heap.objs.size Q I4 r1 (Heap.IsSliceOf.new ..) pl pu q3
  show wpAny (model X.prog X.w) X.A (subscriptTail e (.Slice lo hi none p2) v (.ref s3.heap.objs.size)) (EP X pins σ Q) X.xe { s3 with heap := s3.heap.push { cls := .type "slice", data := .fields #[vl, vu, .none] } }
  exact tail_any (ops := [.ref s3.heap.objs.size, v]) ht hT hg (by with_unfolding_all rfl)
def z7K (xs : List V) (lo hi : Option Int) : List V := (xs.drop (HT.sIx xs.length 0 lo)).take (HT.sIx xs.length xs.length hi - HT.sIx xs.length 0 lo)
theorem z3o (xs : List V) (lo hi : Option Int) : (z7K xs lo hi).length <= xs.length := by
  unfold z7K
  rw [List.length_take, List.length_drop]
  omega
def zC1 (K : PySem.W.Frag) : V -> Option Int -> Option Int -> Hp -> VK -> Prop := fun x lo hi H Q => ∃ a xs, x = .ref a /\ SqT K H a xs /\
  ¬ (HT.sIx xs.length 0 lo = 0 /\ HT.sIx xs.length xs.length hi = xs.length) /\ ∀ p, H p = none -> Q (.ref p) (upd H p (.tup (z7K xs lo hi)))
def zC2 (K : PySem.W.Frag) : R2 := fun x y H Q => ∃ a b ns ms, x = .ref a /\ y = .ref b /\ SqT K H a (ns.map V.int) /\ SqT K H b (ms.map V.int) /\ Q (.bl (HT.lexLt ns ms)) H
def z9l (K : PySem.W.Frag) : R2 := fun x y H Q => ∃ a b xs ys, x = .ref a /\ y = .ref b /\ SqT K H a xs /\ SqT K H b ys /\ xs ≠ [] /\ xs.length + ys.length <= sizeLine /\
  (ys = [] -> Q (.ref a) H) /\ (ys ≠ [] -> ∀ p, H p = none -> Q (.ref p) (upd H p (.tup (xs ++ ys))))
theorem Vals.nil_iff {xs : List V} {us : List Value} (r : Vals xs us) : us = [] ↔ xs = [] := by
  cases r with
  | nil => simp
  | cons _ _ => simp
theorem z7l : OpR X (binaryOp .Add) (z9l X.K) := by
  intro pins s σ H x y v u Q I rx ry h
  obtain ⟨a, b, xs, ys, rfl, rfl, ha, hb, hx, hz, q1, q2⟩ := h
  cases rx
  cases ry
  obtain ⟨its, r1, p1, _⟩ := I.tuple ha
  obtain ⟨its2, r2, p2, _⟩ := I.tuple hb
  refine HT.cat_tup p1 p2 (fun z => hx (r1.nil_iff.mp z)) (fun z => ⟨.ref a, H, I, rfl, q1 (r2.nil_iff.mp z)⟩) (fun z => ?_) (by rw [<- r1.length, <- r2.length]; exact hz)
  refine ⟨.ref s.heap.objs.size, _, I.laid (t' := s.toks) (o := .tup (xs ++ ys)) (fun b ob q => Heap.get?_push_of_some _ q) (Nat.le_refl _) ?_, rfl, q2 (fun w => z (r2.nil_iff.mpr w)) _ (I.hok.fresh (Nat.le_refl _))⟩
  exact ⟨by rw [List.length_append]; exact hz, _, r1.append r2, IsTup.new _ _⟩
end
def ixN (n : Nat) (i : Int) : Option Nat := if 0 <= i then (if i < n then some i.toNat else none) else if -(n : Int) <= i then some (i + n).toNat else none
def atI {α : Type} (xs : List α) (i : Int) : Option α := (ixN xs.length i).bind fun j => xs[j]?
theorem z7m {n : Nat} {i : Int} {j : Nat} (h : ixN n i = some j) : seqIndex? i n = some j /\ j < n /\ -(n : Int) <= i /\ i < n := by
  unfold ixN at h
  by_cases h0 : 0 <= i
  . rw [if_pos h0] at h
    by_cases h1 : i < n
    . rw [if_pos h1] at h
      have e : i.toNat = j := Option.some.inj h
      exact ⟨by rw [seqIndex_of h0 h1, e], by omega, by omega, h1⟩
    . rw [if_neg h1] at h; cases h
  . rw [if_neg h0] at h
    by_cases h1 : -(n : Int) <= i
    . rw [if_pos h1] at h
      have e : (i + n).toNat = j := Option.some.inj h
      exact ⟨by rw [seqIndex_neg (by omega) h1, e], by omega, h1, by omega⟩
    . rw [if_neg h1] at h; cases h
theorem z5a {α : Type} {xs : List α} {i : Int} {v : α} (h : atI xs i = some v) : ∃ j, seqIndex? i xs.length = some j /\ xs[j]? = some v /\ j < xs.length /\ -(xs.length : Int) <= i /\ i < xs.length := by
  unfold atI at h
  cases e : ixN xs.length i with
  | none => rw [e] at h; cases h
  | some j =>
    rw [e] at h
    obtain ⟨h1, h2, h3, h4⟩ := z7m e
    exact ⟨j, h1, h, h2, h3, h4⟩
theorem z0y {α : Type} {xs : List α} {j : Nat} {v : α} (h : xs[j]? = some v) : atI xs (j : Int) = some v := by
  have hj : j < xs.length := (List.getElem?_eq_some_iff.mp h).1
  have e : ixN xs.length (j : Int) = some j := by
    unfold ixN
    rw [if_pos (by omega), if_pos (by omega)]; simp
  unfold atI; rw [e]; exact h
def z7n (b : Expr) : Prop := ∀ o i, subscripted b false o i = operate [o, i] (getItem o i)
def IxR (X : Cx) (r : R2) : Prop :=
  ∀ (value slice : Expr) (pins : List (Addr × Obj)) (s : Shared) (σ : St) (H : Hp) (x y : V) (v u : Value) (Q : VK), Inv X pins σ H s -> RelV x v -> RelV y u -> r x y H Q ->
    subscripted slice false v u = operate [v, u] (getItem v u) -> wpAny (model X.prog X.w) X.A (subscriptTail value slice v u) (EP X pins σ Q) X.xe s
def MtR (X : Cx) (id : String) (r : V -> List V -> Hp -> VK -> Prop) : Prop :=
  ∀ (pins : List (Addr × Obj)) (s : Shared) (σ : St) (H : Hp) (x : V) (xs : List V) (v : Value) (us : List Value) (Q : VK), Inv X pins σ H s -> RelV x v -> Vals xs us -> r x xs H Q ->
    wpAny (model X.prog X.w) X.A (call (.builtin id) (v :: us)) (EP X pins σ Q) X.xe s
section
variable {X : Cx} {a b : Expr} {ta tb : TE} {pos : Pos}
theorem IxR.or {r r' : R2} (h : IxR X r) (h' : IxR X r') : IxR X (fun x y H Q => r x y H Q \/ r' x y H Q) := by
  intro value slice pins s σ H x y v u Q I rx ry q hs
  rcases q with q | q
  . exact h value slice pins s σ H x y v u Q I rx ry q hs
  . exact h' value slice pins s σ H x y v u Q I rx ry q hs
theorem MtR.or {id : String} {r r' : V -> List V -> Hp -> VK -> Prop} (h : MtR X id r) (h' : MtR X id r') : MtR X id (fun x xs H Q => r x xs H Q \/ r' x xs H Q) := by
  intro pins s σ H x xs v us Q I rx rs q
  rcases q with q | q
  . exact h pins s σ H x xs v us Q I rx rs q
  . exact h' pins s σ H x xs v us Q I rx rs q
theorem z0C {r : R2} (hr : IxR X r) (ha : PE X a ta) (hb : PE X b tb) (hs : z7n b) : PE X (.Subscript a b pos) (tOp r ta tb) := by
  intro pins s σ H Q I h
  exact Subscript_ (z9f ha hb I h fun v u s2 x y H2 I2 rx ry q => hr a b pins s2 σ H2 x y v u Q I2 rx ry q (hs _ _))
def z9I (K : PySem.W.Frag) : R2 := fun x y H Q => ∃ p xs i v, x = .ref p /\ y = .int i /\ SqL K H p xs /\ atI xs i = some v /\ Q v H
def z9J (K : PySem.W.Frag) : R2 := fun x y H Q => ∃ p xs i v, x = .ref p /\ y = .int i /\ SqT K H p xs /\ atI xs i = some v /\ Q v H
def zBH : R2 := fun x y H Q => ∃ z i c, x = .str z /\ y = .int i /\ z.length <= sizeLine /\ atI z.cps.toList i = some c /\ Q (.str ⟨#[c]⟩) H
theorem z0P : IxR X (z9I X.K) := by
  intro value slice pins s σ H x y v u Q I rx ry h hs
  obtain ⟨p, xs, i, z, rfl, rfl, hq, he, q⟩ := h
  cases rx
  obtain ⟨t, rfl⟩ := ry
  obtain ⟨its, r, pl, hz⟩ := I.list hq
  obtain ⟨j, h1, h2, h3, h4, h5⟩ := z5a he
  obtain ⟨w, ew, rw'⟩ := r.get h2
  have hl := r.length
  have hn := z5S
  have fin : EP X pins σ Q w s := ⟨z, H, I, rw', q⟩
  by_cases h0 : 0 <= i
  . have hj : i.toNat = j := by
      rw [seqIndex_of h0 h5] at h1
      exact Option.some.inj h1
    exact item_listR pl.isList h0 (by omega) (by rw [hj]; simpa using ew) fin hs
  . have hj : (i + (its.toArray.size : Int)).toNat = j := by
      rw [seqIndex_neg (by omega) h4] at h1
      rw [List.size_toArray, <- hl]
      exact Option.some.inj h1
    exact subscriptTail_builtinR (x := w) pl.isList.typeIs slot_list_getitem.lookup
      (wpAny_getItem_list_neg (Q := fun r s' => r = w /\ EP X pins σ Q r s') pl.isList (by omega) (by rw [List.size_toArray] <;> omega) (by omega) (by rw [hj]; simpa using ew) ⟨rfl, fin⟩) hs
theorem z0J : IxR X (z9J X.K) := by
  intro value slice pins s σ H x y v u Q I rx ry h hs
  obtain ⟨p, xs, i, z, rfl, rfl, hq, he, q⟩ := h
  cases rx
  obtain ⟨t, rfl⟩ := ry
  obtain ⟨its, r, pl, hz⟩ := I.tuple hq
  obtain ⟨j, h1, h2, h3, h4, h5⟩ := z5a he
  obtain ⟨w, ew, rw'⟩ := r.get h2
  have hl := r.length
  have hn := z5S
  have fin : EP X pins σ Q w s := ⟨z, H, I, rw', q⟩
  exact subscriptTail_builtinR (x := w) pl.typeIs slot_tuple_getitem.lookup
    (getItem_tuple (j := j) (Q := fun r s' => r = w /\ EP X pins σ Q r s') pl (by omega) (by omega) (by rw [List.size_toArray, <- hl]; exact h1) (by simpa using ew) ⟨rfl, fin⟩) hs
def rIx (K : PySem.W.Frag) : R2 := fun x y H Q => z9I K x y H Q \/ z9J K x y H Q \/ zBH x y H Q
theorem Inv.lst {pins : List (Addr × Obj)} {σ : St} {H : Hp} {s : Shared} {p : Addr} {xs : List V} (I : Inv X pins σ H s) (h : H p = some (.lst xs)) :
    ∃ (its : List Value) (n : Nat), Vals xs its /\ s.heap.get? p = some { cls := .type "list", data := .seq its.toArray n } /\ xs.length <= sizeLine := by
  obtain ⟨z, its, n, r, e⟩ := I.hok p _ h
  exact ⟨its, n, r, e, z⟩
def zBI : V -> V -> V -> Hp -> (Hp -> Prop) -> Prop := fun o i v H Q => ∃ p xs k j, o = .ref p /\ i = .int k /\ H p = some (.lst xs) /\ ixN xs.length k = some j /\ Q (upd H p (.lst (xs.set j v)))
theorem z3G (lo hi : Option Int) (n : Nat) : (sliceBounds lo hi none n).1 = ((HT.sIx n 0 lo : Nat) : Int) /\ (sliceBounds lo hi none n).2.1 = ((HT.sIx n n hi : Nat) : Int) /\ (sliceBounds lo hi none n).2.2 = 1 := by
  refine ⟨?_, ?_, rfl⟩
  . cases lo with
    | none => simp [sliceBounds, HT.sIx]
    | some i =>
      simp only [sliceBounds, HT.sIx, Option.getD_none, show (1 : Int) > 0 by decide, if_true]
      by_cases h : i < 0
      . simp only [h, if_true] <;> omega
      . simp only [h, if_false] <;> omega
  . cases hi with
    | none => simp [sliceBounds, HT.sIx]
    | some i =>
      simp only [sliceBounds, HT.sIx, Option.getD_none, show (1 : Int) > 0 by decide, if_true]
      by_cases h : i < 0
      . simp only [h, if_true] <;> omega
      . simp only [h, if_false] <;> omega
theorem z2p (its : List Value) (lo hi : Option Int) : slicePick its.toArray lo hi none = ((its.drop (HT.sIx its.length 0 lo)).take (HT.sIx its.length its.length hi - HT.sIx its.length 0 lo)).toArray := by
  obtain ⟨h1, h2, h3⟩ := z3G lo hi its.toArray.size
  unfold slicePick
  rw [h1, h2, h3]
  simp only [sliceRange_one, pick_run, List.size_toArray] <;> rfl
def zBJ (K : PySem.W.Frag) : V -> Option Int -> Option Int -> Hp -> VK -> Prop := fun x lo hi H Q => ∃ a xs, x = .ref a /\ SqL K H a xs /\ ∀ p, H p = none -> Q (.ref p) (upd H p (.lst (z7K xs lo hi)))
theorem z7o : SlR X (zBJ X.K) := by
  intro pins s σ H x v vl vu lo hi sl Q I rx hs pl pu h
  obtain ⟨a, xs, rfl, hx, q⟩ := h
  cases rx
  obtain ⟨its, r, ht, hz⟩ := I.list hx
  have hlen := r.length
  refine ⟨"list", _, slot_list_getitem.lookup, ht.isList.typeIs, ?_⟩
  refine wpAny_getItem_list_slice ht.isList hs pl pu .none (by simp) ?_ (by rw [List.size_toArray] <;> omega)
  rw [z2p, <- hlen]
  refine ⟨.ref s.heap.objs.size, _, I.laid (t' := s.toks) (o := .lst (z7K xs lo hi)) (fun b ob q => Heap.get?_push_of_some _ q) (Nat.le_refl _) ?_, rfl, q _ (I.hok.fresh (Nat.le_refl _))⟩
  exact ⟨Nat.le_trans (z3o xs lo hi) hz, _, 0, (r.drop (HT.sIx xs.length 0 lo)).take (HT.sIx xs.length xs.length hi - HT.sIx xs.length 0 lo), Heap.get?_push_size _ rfl⟩
def z8e : V -> Bool
  | .non => true
  | .bl _ => true
  | .int _ => true
  | .str _ => true
  | _ => false
def eqV : V -> V -> Bool
  | .non, .non => true
  | .bl a, .bl b => a == b
  | .bl a, .int b => (if a then 1 else 0) == b
  | .int a, .bl b => a == (if b then 1 else 0)
  | .int a, .int b => a == b
  | .str a, .str b => a == b
  | _, _ => false
def eqU (x : V) (u : Value) : Bool := match u with
  | .none => eqV .non x
  | .bool b => eqV (.bl b) x
  | .int i _ => eqV (.int i) x
  | .str z _ => eqV (.str z) x
  | _ => false
def inV (x : V) (xs : List V) : Bool := xs.any fun y => eqV y x
def rIn (K : PySem.W.Frag) (neg : Bool) : R2 := fun x y H Q => ∃ p xs, y = .ref p /\ (SqL K H p xs \/ SqT K H p xs) /\ z8e x = true /\ xs.all z8e = true /\ Q (.bl (if neg then !inV x xs else inV x xs)) H
theorem z0E : CallR X (.builtin "len") (fun xs H Q => ∃ p ys, xs = [.ref p] /\ (SqL X.K H p ys \/ SqT X.K H p ys) /\ Q (.int ys.length) H) := by
  intro pins s σ H xs us Q I r h
  obtain ⟨p, ys, rfl, hq, q⟩ := h
  obtain ⟨u, rfl, rx⟩ := vals1 r
  cases rx
  have hn := z5S
  rcases hq with hq | hq
  . obtain ⟨its, r', pl, hz⟩ := I.list hq
    have hlen := r'.length
    exact Calls.call_len_list pl.isList (by simp only [List.size_toArray] <;> omega) ⟨.int ys.length, H, I.tok _, ⟨s.toks + 1, by rw [List.size_toArray, hlen]⟩, q⟩
  . obtain ⟨its, r', pl, hz⟩ := I.tuple hq
    have hlen := r'.length
    exact len_tuple pl (by simp only [List.size_toArray] <;> omega) ⟨.int ys.length, H, I.tok _, ⟨s.toks + 1, by rw [List.size_toArray, hlen]⟩, q⟩
theorem CallR.or {f : Value} {r r' : List V -> Hp -> VK -> Prop} (h : CallR X f r) (h' : CallR X f r') : CallR X f (fun xs H Q => r xs H Q \/ r' xs H Q) := by
  intro pins s σ H xs us Q I rs q
  rcases q with q | q
  . exact h pins s σ H xs us Q I rs q
  . exact h' pins s σ H xs us Q I rs q
theorem z3H : CallR X (.type "list") (fun xs H Q => ∃ p ys, xs = [.ref p] /\ (SqL X.K H p ys \/ SqT X.K H p ys) /\ ∀ l, H l = none -> Q (.ref l) (upd H l (.lst ys))) := by
  intro pins s σ H xs us Q I r h
  obtain ⟨p, ys, rfl, hq, q⟩ := h
  obtain ⟨u, rfl, rx⟩ := vals1 r
  cases rx
  have fin : ∀ (its : List Value), Vals ys its -> ys.length <= sizeLine -> ∀ (h' : Heap) (c' : Nat), (∀ b o', s.heap.get? b = some o' -> h'.get? b = some o') ->
      h'.get? s.heap.objs.size = some { cls := .type "list", dict := none, data := .seq its.toArray c', slots := #[] } -> EP X pins σ Q (.ref s.heap.objs.size) { s with heap := h' } := fun its r' hz h' c' kp e =>
    ⟨.ref s.heap.objs.size, _, I.laid (t' := s.toks) kp (Nat.le_refl _) (show ObjOk X.prog X.w _ h' _ (.lst ys) from ⟨hz, its, c', r', e⟩), rfl, q _ (I.hok.fresh (Nat.le_refl _))⟩
  rcases hq with hq | hq
  . obtain ⟨its, r', pl, hz⟩ := I.list hq
    have hlen := r'.length
    obtain ⟨o, ho, hc, n, hd⟩ := pl.isList
    exact call_list_seq p (.inl rfl) ho hc hd (fun h' c' kp e => fin its r' hz h' c' kp e) (by simp only [List.size_toArray] <;> omega)
  . obtain ⟨its, r', pl, hz⟩ := I.tuple hq
    have hlen := r'.length
    obtain ⟨o, ho, hc, n, hd⟩ := pl
    exact call_list_seq p (.inr rfl) ho hc hd (fun h' c' kp e => fin its r' hz h' c' kp e) (by simp only [List.size_toArray] <;> omega)
theorem z0R : CallR X (.type "tuple") (fun xs H Q => ∃ p ys, xs = [.ref p] /\ ((SqL X.K H p ys /\ ∀ l, H l = none -> Q (.ref l) (upd H l (.tup ys))) \/ (SqT X.K H p ys /\ Q (.ref p) H))) := by
  intro pins s σ H xs us Q I r h
  obtain ⟨p, ys, rfl, h⟩ := h
  obtain ⟨u, rfl, rx⟩ := vals1 r
  cases rx
  rcases h with ⟨hq, q⟩ | ⟨hq, q⟩
  . obtain ⟨its, r', pl, hz⟩ := I.list hq
    have hlen := r'.length
    refine call_tuple_list pl.isList (fun h' kp => ?_) (by simp only [List.size_toArray] <;> omega)
    have I1 : Inv X pins σ H { s with heap := h' } := I.kept (t' := s.toks) kp
    have I2 : Inv X pins σ (upd H h'.objs.size (.tup ys)) { s with heap := h'.push { cls := .type "tuple", data := .seq its.toArray } } :=
      I1.laid (t' := s.toks) (fun b o e => Heap.get?_push_of_some _ e) (Nat.le_refl _) (show ObjOk X.prog X.w _ _ _ (.tup ys) from ⟨hz, its, r', IsTup.new _ _⟩)
    exact ⟨.ref h'.objs.size, _, I2, rfl, q _ (I1.hok.fresh (Nat.le_refl _))⟩
  . obtain ⟨its, r', pl, hz⟩ := I.tuple hq
    exact call_tuple_same pl ⟨.ref p, H, I, rfl, q⟩
def tyV (K : PySem.W.Frag) (T : String) (x : V) (H : Hp) : Prop := match x with
  | .str _ => T = "str"
  | .int _ => T = "int"
  | .ref p => (T = "list" /\ ∃ xs, SqL K H p xs) \/ (T = "tuple" /\ ∃ o, K.lookup p = some o /\ o.cls = .type "tuple" /\ o.dict = none) \/
      (T = "dict" /\ ((∃ kvs, H p = some (.dK kvs)) \/ ∃ kvs, H p = some (.dT kvs))) \/ (T = "set" /\ ∃ S n, H p = some (.set S n))
  | _ => False
theorem z8f {pins : List (Addr × Obj)} {σ : St} {H : Hp} {s : Shared} {T : String} {x : V} {v : Value} (I : Inv X pins σ H s) (r : RelV x v) (ty : tyV X.K T x H) :
    s.TypeIs v T /\ ∀ a, v = .ref a -> ∃ ob, s.heap.get? a = some ob /\ ob.dict = none := by
  cases x with
  | str z =>
    obtain ⟨t, rfl⟩ := r
    cases (show T = "str" from ty)
    exact ⟨typeIs_str s z t, fun _ e => nomatch e⟩
  | int i =>
    obtain ⟨t, rfl⟩ := r
    cases (show T = "int" from ty)
    exact ⟨typeIs_int s i t, fun _ e => nomatch e⟩
  | ref p =>
    cases r
    rcases ty with ⟨rfl, xs, hq⟩ | ⟨rfl, o, hk, hc, hd⟩ | ⟨rfl, hk⟩ | ⟨rfl, S, n, hk⟩
    . obtain ⟨its, _, pl, _⟩ := I.list hq
      refine ⟨pl.isList.typeIs, fun a e => ?_⟩
      cases e
      obtain ⟨o, n, e, c, hd, _⟩ := pl
      exact ⟨o, e, hd⟩
    . refine ⟨⟨o, I.kIn p o hk, hc⟩, fun a e => ?_⟩
      cases e
      exact ⟨o, I.kIn _ o hk, hd⟩
    . have z : ∃ o, s.heap.get? p = some o /\ o.ExactDict := by
        rcases hk with ⟨kvs, hk⟩ | ⟨kvs, hk⟩
        . obtain ⟨_, _, _, _, o, _, _, e, ex, _⟩ := I.hok p _ hk
          exact ⟨o, e, ex⟩
        . obtain ⟨_, _, _, _, o, _, _, e, ex, _⟩ := I.hok p _ hk
          exact ⟨o, e, ex⟩
      obtain ⟨o, e, ex⟩ := z
      refine ⟨⟨o, e, ex.1⟩, fun a e2 => ?_⟩
      cases e2
      exact ⟨o, e, ex.2.1⟩
    . obtain ⟨o, _, _, _, e, ex, _⟩ := I.hok p _ hk
      refine ⟨⟨o, e, ex.1⟩, fun a e2 => ?_⟩
      cases e2
      exact ⟨o, e, ex.2.1⟩
  | _ => exact False.elim ty
def zC3 (K : PySem.W.Frag) (T : String) (r : V -> List V -> Hp -> VK -> Prop) (to : TE) : TE := fun σ H Q => to σ H fun x H1 => tyV K T x H1 /\ r x [] H1 Q
def tBM (K : PySem.W.Frag) (T : String) (r : V -> List V -> Hp -> VK -> Prop) (to : TE) (t : TA) : TE := fun σ H Q => to σ H fun x H1 => tyV K T x H1 /\ t σ H1 fun xs H2 => r x xs H2 Q
variable {o e : Expr} {es : List Expr} {to : TE} {t : TA} {name : Str} {apos cpos : Pos} {T id : String} {r : V -> List V -> Hp -> VK -> Prop}
theorem z6m (pa : PlainAttrs T) (slot : Slot T name id) (hty : typeOf (.builtin id) = pure (.type "method_descriptor")) (hm : MtR X id r) (ho : PE X o to) (ha : PA X (e :: es) t)
    (hbase : attributeBase o name X.env (eval o X.env) = eval o X.env := by rfl)
    (hfew : ((backTo cpos (starEach (e :: es) X.env)).all (fun x => !x.1) && (backToKw cpos (keywordEach [] X.env)).all (fun x => x.1.isSome)
      && decide ((e :: es).length + ([] : List Keyword).length + (if ([] : List Keyword).isEmpty then 0 else 1) < 30)) = true := by rfl)
    (hline : (apos.endLine == cpos.line) = true := by rfl) (hs : starEach (e :: es) X.env = (false, eval e X.env) :: starEach es X.env := by rfl) (hplain : (backTo cpos (starEach es X.env)).any (·.1) = false := by rfl) :
    PE X (.Call (.Attribute o name apos) (e :: es) [] cpos) (tBM X.K T r to t) := by
  intro pins s σ H Q I h
  refine wpAny_Call_method_late hbase hfew hline rfl (thn (ho pins s σ H _ I h) fun v s1 ⟨x, H1, I1, r1, ty, q1⟩ => ?_)
  obtain ⟨h1, h2⟩ := z8f I1 r1 ty
  refine ⟨T, id, pa, slot, hty, h1, h2, ?_⟩
  have hA := ha cpos pins s1 σ H1 _ I1 q1
  rw [hs] at hA ⊢
  refine Calls.callWith_builtin (by show (false || (backTo cpos (starEach es X.env)).any (·.1)) = false; rw [hplain] <;> rfl) (Calls.evalArgs_plain ?_)
  exact thn hA fun us s2 ⟨vs, H2, I2, r2, q2⟩ => hm pins s2 σ H2 x vs v us Q I2 r1 r2 q2
/- xs.append(e), list.index on a module's tuple .. are MtR facts of 06m -/
end
def MtM (X : Cx) (id : String) (r : V -> List V -> Hp -> VK -> Prop) : Prop :=
  ∀ (pins : List (Addr × Obj)) (s : Shared) (σ : St) (H : Hp) (x : V) (xs : List V) (v : Value) (us : List Value) (Q : VK), Inv X pins σ H s -> RelV x v -> Vals xs us -> r x xs H Q ->
    wpAny (model X.prog X.w) X.A (call (.builtin id) (v :: us)) (EP X pins σ Q) X.xe s
theorem Vals.one : ∀ {x : V} {us : List Value}, Vals [x] us -> ∃ u, us = [u] /\ RelV x u
  | _, _, .cons r .nil => ⟨_, rfl, r⟩
theorem Vals.two : ∀ {x y : V} {us : List Value}, Vals [x, y] us -> ∃ u v, us = [u, v] /\ RelV x u /\ RelV y v
  | _, _, _, .cons r (.cons q .nil) => ⟨_, _, rfl, r, q⟩
theorem Vals.zero : ∀ {us : List Value}, Vals [] us -> us = []
  | _, .nil => rfl
theorem Vals.dropLast {xs : List V} {us : List Value} (h : Vals xs us) : Vals xs.dropLast us.dropLast := by
  induction h with
  | nil => exact .nil
  | cons r t ih =>
    cases t with
    | nil => exact .nil
    | cons q t' => exact .cons r ih
theorem Vals.eraseIdx : ∀ {xs : List V} {us : List Value} (i : Nat), Vals xs us -> Vals (xs.eraseIdx i) (us.eraseIdx i)
  | _, _, _, .nil => .nil
  | _, _, 0, .cons _ t => t
  | _, _, i + 1, .cons r t => .cons r (Vals.eraseIdx i t)
theorem Vals.reverse {xs : List V} {us : List Value} (h : Vals xs us) : Vals xs.reverse us.reverse := by
  induction h with
  | nil => exact .nil
  | cons r t ih => rw [List.reverse_cons, List.reverse_cons]; exact Vals.append ih (.cons r .nil)
theorem Vals.rep {xs : List V} {us : List Value} (h : Vals xs us) : ∀ k : Nat, Vals (List.replicate k xs).flatten (List.replicate k us).flatten
  | 0 => .nil
  | k + 1 => by
    rw [List.replicate_succ, List.replicate_succ, List.flatten_cons, List.flatten_cons]
    exact Vals.append h (Vals.rep h k)
theorem foldl_rep (its : List Value) : ∀ (k : Nat) (acc : List Value),
    List.foldl (fun x1 x2 => x1 ++ x2) acc.toArray (List.replicate k its.toArray) = (acc ++ (List.replicate k its).flatten).toArray
  | 0, acc => by simp
  | k + 1, acc => by
    have e : acc.toArray ++ its.toArray = (acc ++ its).toArray := by simp
    have e2 : (acc ++ its) ++ (List.replicate k its).flatten = acc ++ (List.replicate (k + 1) its).flatten := by
      rw [List.replicate_succ, List.flatten_cons, List.append_assoc]
    rw [<- e2, <- foldl_rep its k (acc ++ its), <- e, List.replicate_succ, List.foldl_cons]
section
variable {X : Cx} {pins : List (Addr × Obj)} {σ : St} {H : Hp} {s : Shared} {l b : Addr} {xs ys zs : List V}
theorem Inv.lset {its its' : List Value} {n : Nat} {f : Array Value -> Array Value} {t' : Nat} (I : Inv X pins σ H s) (hH : H l = some (.lst xs))
    (e : s.heap.get? l = some { cls := .type "list", data := .seq its.toArray n }) (hf : f its.toArray = its'.toArray) (hv : Vals ys its') (hz : ys.length <= sizeLine) :
    Inv X pins σ (upd H l (.lst ys)) { s with heap := s.heap.update l (Obj.mapSeq f), toks := t' } := by
  have q := PySem.IsL.update e f
  rw [hf] at q
  refine I.write (x := l) (e := l) (by rw [hH]; exact trivial) (.inl rfl) (fun b' u hb hu => (Heap.get?_update_other s.heap (Obj.mapSeq f) (Ne.symm hb)).trans hu) ⟨_, q⟩ ?_
  exact ⟨hz, its', _, hv, q⟩
theorem Inv.lnew {its : List Value} {t' : Nat} (I : Inv X pins σ H s) (hv : Vals ys its) (hz : ys.length <= sizeLine) :
    Inv X pins σ (upd H s.heap.objs.size (.lst ys)) { s with heap := s.heap.push { cls := .type "list", data := .seq its.toArray }, toks := t' } :=
  I.laid (fun _ _ q => Heap.get?_push_of_some _ q) (Nat.le_refl _) ⟨hz, its, 0, hv, Heap.get?_push_size _ rfl⟩
theorem Inv.fresh (I : Inv X pins σ H s) : H s.heap.objs.size = none := I.hok.fresh (Nat.le_refl _)
theorem Inv.lstM (I : Inv X pins σ H s) (hH : H l = some (.lst xs)) : xs.length <= sizeLine /\ ∃ (its : List Value) (n : Nat), Vals xs its /\ xs.length = its.length /\ s.heap.get? l = some { cls := .type "list", data := .seq its.toArray n } := by
  obtain ⟨z, its, n, r, e⟩ := I.hok l _ hH
  exact ⟨z, its, n, r, r.length, e⟩
theorem z6n {n : Nat} (h : n <= sizeLine) : Builtin.List.listTooLong n = false := by
  unfold Builtin.List.listTooLong
  exact decide_eq_false (by omega)
end
section
variable {X : Cx}
def z7p : V -> List V -> Hp -> VK -> Prop := fun x vs H Q => ∃ l xs y, x = .ref l /\ vs = [y] /\ H l = some (.lst xs) /\ xs.length < sizeLine /\ Q .non (upd H l (.lst (xs ++ [y])))
theorem z1g : MtM X "list.append" z7p := by
  intro pins s σ H x vs v us Q I rx rv h
  obtain ⟨l, xs, y, rfl, rfl, hH, hz, q⟩ := h
  cases rx
  obtain ⟨u, rfl, ru⟩ := rv.one
  obtain ⟨z, its, n, r, hl, e⟩ := I.lstM hH
  refine call_meets F.slot_list_append ⟨_, e, rfl⟩ F.entry_list_append (F.args_list_append_2 _ _) (PySem.list_append l its.toArray n u (by rw [List.size_toArray]; omega)) ⟨e, ?_⟩
  refine ⟨.non, _, I.lset (its' := its ++ [u]) hH e (by simp) (r.append (.cons ru .nil)) ?_, rfl, q⟩
  rw [List.length_append, List.length_singleton]
  omega
def z9m : V -> List V -> Hp -> VK -> Prop := fun x vs H Q => ∃ l b xs zs, x = .ref l /\ vs = [.ref b] /\ H l = some (.lst xs) /\ H b = some (.lst zs) /\ xs.length + zs.length <= sizeLine /\ Q .non (upd H l (.lst (xs ++ zs)))
def zC4 : V -> List V -> Hp -> VK -> Prop := fun x vs H Q => ∃ l xs y, x = .ref l /\ vs = [] /\ H l = some (.lst xs) /\ xs[xs.length - 1]? = some y /\ Q y (upd H l (.lst xs.dropLast))
def zAU : V -> List V -> Hp -> VK -> Prop := fun x vs H Q => ∃ l xs i k y, x = .ref l /\ vs = [.int i] /\ H l = some (.lst xs) /\ -(2 ^ 63) <= i /\ i < 2 ^ 63 /\ seqIndex? i xs.length = some k /\ xs[k]? = some y /\ Q y (upd H l (.lst (xs.eraseIdx k)))
def z9K : V -> List V -> Hp -> VK -> Prop := fun x vs H Q => ∃ l xs, x = .ref l /\ vs = [] /\ H l = some (.lst xs) /\ Q .non (upd H l (.lst xs.reverse))
def zAV : V -> List V -> Hp -> VK -> Prop := fun x vs H Q => ∃ l xs, x = .ref l /\ vs = [] /\ H l = some (.lst xs) /\ Q .non (upd H l (.lst []))
def zC5 : R2 := fun x y H Q => ∃ l b xs zs, x = .ref l /\ y = .ref b /\ H l = some (.lst xs) /\ H b = some (.lst zs) /\ xs.length + zs.length <= sizeLine /\ ∀ p, H p = none -> Q (.ref p) (upd H p (.lst (xs ++ zs)))
def zBK : R2 := fun x y H Q => ∃ l k xs, x = .ref l /\ y = .int k /\ H l = some (.lst xs) /\ -(2 ^ 63) <= k /\ k < 2 ^ 63 /\ xs.length * k.toNat <= sizeLine /\
  ∀ p, H p = none -> Q (.ref p) (upd H p (.lst (List.replicate k.toNat xs).flatten))
theorem len_rep {α : Type} (xs : List α) (k : Nat) : (List.replicate k xs).flatten.length = k * xs.length := by
  induction k with
  | zero => simp
  | succ k ih => rw [List.replicate_succ, List.flatten_cons, List.length_append, ih, Nat.succ_mul, Nat.add_comm]
theorem z8g : OpR X (binaryOp .Mult) zBK := by
  intro pins s σ H x y v u Q I rx ry h
  obtain ⟨l, k, xs, rfl, rfl, hH, h1, h2, hz, q⟩ := h
  cases rx
  obtain ⟨t, rfl⟩ := ry
  obtain ⟨z, its, n, r, hl, e⟩ := I.lstM hH
  have hlen : its.toArray.size * k.toNat <= sizeLine := by rw [List.size_toArray, <- hl]; exact hz
  have hcap : ¬ its.toArray.size * k.toNat > (2 ^ 63 - 1) / 8 := by
    have : (sizeLine : Nat) <= (2 ^ 63 - 1) / 8 := by decide
    omega
  have hfit : ¬ (!Builtin.List.listFitsIndex k) = true := by
    rw [fitsIndex_both h1 h2]
    exact Bool.false_ne_true
  have hlong : ¬ Builtin.List.listTooLong (its.toArray.size * k.toNat) = true := by
    rw [z6n hlen]
    exact Bool.false_ne_true
  have hnew : List.foldl (fun x1 x2 => x1 ++ x2) #[] (List.replicate (if its.toArray.isEmpty = true then 0 else k.toNat) its.toArray) = (List.replicate k.toNat its).flatten.toArray := by
    have f0 : ∀ m : Nat, List.foldl (fun x1 x2 => x1 ++ x2) #[] (List.replicate m its.toArray) = (List.replicate m its).flatten.toArray := fun m => by
      have := foldl_rep its m []
      rw [List.nil_append] at this
      exact this
    rw [f0]
    cases its with
    | nil => simp
    | cons a r' => rw [if_neg (by simp)]
  refine wpAny_binaryOp_repeat_ref (T := "list") (U := "int") (by decide) ⟨_, e, rfl⟩ (fun s' => typeIs_int s' k t) noFill_list_mul F.fills_int_mul F.slot_int_rmul repeat_list F.slot_int_index.lookup
    (call_meets F.slot_int_rmul (typeIs_int s k t) F.entry_int_rmul (F.args_int_rmul_2 _ _) (int___rmul___int_list k t l its.toArray n)
      ⟨e, rfl, ⟨_, e, rfl⟩, call_meets F.slot_list_mul ⟨_, e, rfl⟩ F.entry_list_mul (F.args_list_mul_2 _ _) (AutoListH.list___mul___list_int_3 l its.toArray n k t hfit hcap hlong) ⟨e, ?_⟩⟩)
  rw [hnew]
  exact ⟨.ref _, _, I.lnew (t' := s.toks) (r.rep k.toNat) (by rw [len_rep, Nat.mul_comm]; exact hz), rfl, q _ I.fresh⟩
end
section
variable {prog : Program} {w : World} {A : Around} {E : Value -> Shared -> Prop} {s : Shared}
end
section
variable {X : Cx}
end
section
variable {κ : Type} [DecidableEq κ]
def z3m (kvs : List (κ × V)) (k : κ) : Option V := (kvs.find? fun kv => decide (kv.1 = k)).map (·.2)
def putK (kvs : List (κ × V)) (k : κ) (v : V) : List (κ × V) :=
  if (kvs.any fun kv => decide (kv.1 = k)) = true then kvs.map (fun kv => if kv.1 = k then (kv.1, v) else kv) else kvs ++ [(k, v)]
def z5b (kvs : List (κ × V)) (k : κ) : List (κ × V) := kvs.filter fun kv => decide (kv.1 ≠ k)
theorem z2q {p : κ × V} {r : List (κ × V)} {k : κ} (e : p.1 = k) : z3m (p :: r) k = some p.2 := by simp [z3m, List.find?_cons, e]
theorem z2r {p : κ × V} {r : List (κ × V)} {k : κ} (e : ¬ p.1 = k) : z3m (p :: r) k = z3m r k := by simp [z3m, List.find?_cons, e]
theorem z4Q (k : κ) : ∀ kvs : List (κ × V), (kvs.any fun kv => decide (kv.1 = k)) = (z3m kvs k).isSome
  | [] => rfl
  | p :: r => by
    rw [List.any_cons]
    by_cases e : p.1 = k
    . simp only [z2q e, decide_eq_true e, Bool.true_or, Option.isSome_some]
    . rw [z2r e, decide_eq_false e, Bool.false_or]; exact z4Q k r
theorem RelO.isSome_eq {o : Option V} {u : Option Value} (r : RelO o u) : o.isSome = u.isSome := by
  cases o with
  | none => cases u with
    | none => rfl
    | some _ => exact (show False from r).elim
  | some _ => cases u with
    | none => exact (show False from r).elim
    | some _ => rfl
theorem RelO.getD {o : Option V} {u : Option Value} {d : V} {d' : Value} (r : RelO o u) (rd : RelV d d') : RelV (o.getD d) (u.getD d') := by
  cases o with
  | none => cases u with
    | none => exact rd
    | some _ => exact (show False from r).elim
  | some _ => cases u with
    | none => exact (show False from r).elim
    | some _ => exact r
theorem KV.val {kvs : List (κ × V)} {vs : List (κ × Value)} (r : KV kvs vs) (k : κ) : RelO (z3m kvs k) (valueAt vs k) := by
  unfold KV at r
  induction r with
  | nil => exact True.intro
  | @cons p q ps qs h t ih =>
    obtain ⟨h1, h2⟩ := h
    by_cases e : p.1 = k
    . have e' : q.1 = k := h1.symm.trans e
      have b : valueAt (q :: qs) k = some q.2 := by simp [valueAt, List.find?_cons, e']
      rw [z2q e, b]; exact h2
    . have e' : ¬ q.1 = k := fun z => e (h1.trans z)
      have b : valueAt (q :: qs) k = valueAt qs k := by simp [valueAt, List.find?_cons, e']
      rw [z2r e, b]; exact ih
theorem KV.any {kvs : List (κ × V)} {vs : List (κ × Value)} (r : KV kvs vs) (k : κ) : (kvs.any fun kv => decide (kv.1 = k)) = vs.any fun kv => decide (kv.1 = k) := by
  unfold KV at r
  induction r with
  | nil => rfl
  | cons h t ih => rw [List.any_cons, List.any_cons, ih, h.1]
theorem KV.repl {kvs : List (κ × V)} {vs : List (κ × Value)} (r : KV kvs vs) (k : κ) {y : V} {u : Value} (ry : RelV y u) :
    KV (kvs.map fun kv => if kv.1 = k then (kv.1, y) else kv) (vs.map fun kv => if kv.1 = k then (kv.1, u) else kv) := by
  unfold KV at r ⊢
  induction r with
  | nil => exact .nil
  | @cons p q ps qs h t ih =>
    rw [List.map_cons, List.map_cons]
    refine .cons ?_ ih
    obtain ⟨h1, h2⟩ := h
    by_cases e : p.1 = k
    . rw [if_pos e, if_pos (h1.symm.trans e)]; exact ⟨h1, ry⟩
    . rw [if_neg e, if_neg (fun z => e (h1.trans z))]; exact ⟨h1, h2⟩
theorem KV.put {kvs : List (κ × V)} {vs : List (κ × Value)} (r : KV kvs vs) (k : κ) {y : V} {u : Value} (ry : RelV y u) : KV (putK kvs k y) (stored vs k u) := by
  unfold putK stored
  rw [r.any k]
  by_cases e : (vs.any fun kv => decide (kv.1 = k)) = true
  . rw [if_pos e, if_pos e]; exact r.repl k ry
  . rw [if_neg e, if_neg e]; exact Paired.snoc r ⟨rfl, ry⟩
theorem KV.drop {kvs : List (κ × V)} {vs : List (κ × Value)} (r : KV kvs vs) (k : κ) : KV (z5b kvs k) (without vs k) := by
  unfold KV at r ⊢
  unfold z5b without
  induction r with
  | nil => exact .nil
  | @cons p q ps qs h t ih =>
    obtain ⟨h1, h2⟩ := h
    rw [List.filter_cons, List.filter_cons]
    by_cases e : p.1 = k
    . have a : ¬ decide (p.1 ≠ k) = true := by simp [e]
      have b : ¬ decide (q.1 ≠ k) = true := by simp [h1.symm.trans e]
      rw [if_neg a, if_neg b]; exact ih
    . have e' : ¬ q.1 = k := fun z => e (h1.trans z)
      have a : decide (p.1 ≠ k) = true := by simp [e]
      have b : decide (q.1 ≠ k) = true := by simp [e']
      rw [if_pos a, if_pos b]; exact .cons ⟨h1, h2⟩ ih
theorem KV.keys {kvs : List (κ × V)} {vs : List (κ × Value)} (r : KV kvs vs) : kvs.map (·.1) = vs.map (·.1) := by
  unfold KV at r
  induction r with
  | nil => rfl
  | cons h t ih => rw [List.map_cons, List.map_cons, ih, h.1]
theorem KV.length {kvs : List (κ × V)} {vs : List (κ × Value)} (r : KV kvs vs) : kvs.length = vs.length := Paired.length r
end
abbrev KT (H : Hp) : List (List Key × V) -> List (List Key × Addr × Value) -> Prop := Paired fun p q => p.1 = q.1 /\ H q.2.1 = some (.tup (p.1.map kV)) /\ RelV p.2 q.2.2
theorem KT.val {H : Hp} {kvs : List (List Key × V)} {xs : List (List Key × Addr × Value)} (r : KT H kvs xs) (k : List Key) : RelO (z3m kvs k) ((atKey xs k).map (·.2)) := by
  induction r with
  | nil => exact True.intro
  | @cons p q ps qs h t ih =>
    obtain ⟨h1, _, h2⟩ := h
    by_cases e : p.1 = k
    . have e' : q.1 = k := h1.symm.trans e
      have b : atKey (q :: qs) k = some q.2 := by simp [atKey, List.find?_cons, e']
      rw [z2q e, b]; exact h2
    . have e' : ¬ q.1 = k := fun z => e (h1.trans z)
      have b : atKey (q :: qs) k = atKey qs k := by simp [atKey, List.find?_cons, e']
      rw [z2r e, b]; exact ih
theorem KT.repl {H : Hp} {kvs : List (List Key × V)} {xs : List (List Key × Addr × Value)} (r : KT H kvs xs) (k : List Key) {y : V} {u : Value} (ry : RelV y u) :
    KT H (kvs.map fun kv => if kv.1 = k then (kv.1, y) else kv) (xs.map (putAt k u)) := by
  induction r with
  | nil => exact .nil
  | @cons p q ps qs h t ih =>
    rw [List.map_cons, List.map_cons]
    refine .cons ?_ ih
    obtain ⟨h1, h2, h3⟩ := h
    unfold putAt
    by_cases e : p.1 = k
    . rw [if_pos e, if_pos (h1.symm.trans e)]; exact ⟨h1, h2, ry⟩
    . rw [if_neg e, if_neg (fun z => e (h1.trans z))]; exact ⟨h1, h2, h3⟩
theorem KT.put {H : Hp} {kvs : List (List Key × V)} {xs : List (List Key × Addr × Value)} (r : KT H kvs xs) (k : List Key) {b : Addr} {y : V} {u : Value} (hb : H b = some (.tup (k.map kV))) (ry : RelV y u) :
    KT H (putK kvs k y) (storedH xs k b u) := by
  have e : (kvs.any fun kv => decide (kv.1 = k)) = (atKey xs k).isSome := by
    rw [z4Q, (r.val k).isSome_eq, Option.isSome_map]
  unfold putK storedH
  rw [e]
  by_cases q : (atKey xs k).isSome = true
  . rw [if_pos q, if_pos q]; exact r.repl k ry
  . rw [if_neg q, if_neg q]; exact Paired.snoc r ⟨rfl, hb, ry⟩
theorem KT.keeps {H H' : Hp} {kvs : List (List Key × V)} {xs : List (List Key × Addr × Value)} (r : KT H kvs xs) (ht : ∀ b ys, H b = some (.tup ys) -> H' b = some (.tup ys)) : KT H' kvs xs :=
  Paired.mapP r fun _ _ z => ⟨z.1, ht _ _ z.2.1, z.2.2⟩
section
variable {P : Program} {w : World} {H : Hp} {h : Heap} {a : Addr}
end
def DGet (H : Hp) (a : Addr) (y : V) (r : Option V) : Prop :=
  (∃ kvs k, Rd H a (.dK kvs) /\ y = kV k /\ r = z3m kvs k) \/ ∃ kvs k b, Rd H a (.dT kvs) /\ y = .ref b /\ H b = some (.tup (k.map kV)) /\ r = z3m kvs k
def DPut (H : Hp) (a : Addr) (y v : V) (H' : Hp) : Prop :=
  (∃ kvs k, H a = some (.dK kvs) /\ y = kV k /\ kvs.length < sizeLine /\ H' = upd H a (.dK (putK kvs k v))) \/
  ∃ kvs k b, H a = some (.dT kvs) /\ y = .ref b /\ H b = some (.tup (k.map kV)) /\ kvs.length < sizeLine /\ H' = upd H a (.dT (putK kvs k v))
theorem DGet.k {H : Hp} {a : Addr} {kvs : List (Key × V)} {k : Key} (e : H a = some (.dK kvs)) : DGet H a (kV k) (z3m kvs k) := .inl ⟨kvs, k, .inl e, rfl, rfl⟩
theorem DGet.t {H : Hp} {a b : Addr} {kvs : List (List Key × V)} {k : List Key} (e : H a = some (.dT kvs)) (eb : H b = some (.tup (k.map kV))) : DGet H a (.ref b) (z3m kvs k) := .inr ⟨kvs, k, b, .inl e, rfl, eb, rfl⟩
theorem DPut.k {H : Hp} {a : Addr} {kvs : List (Key × V)} {k : Key} {v : V} (e : H a = some (.dK kvs)) (hl : kvs.length < sizeLine) : DPut H a (kV k) v (upd H a (.dK (putK kvs k v))) := .inl ⟨kvs, k, e, rfl, hl, rfl⟩
theorem DPut.t {H : Hp} {a b : Addr} {kvs : List (List Key × V)} {k : List Key} {v : V} (e : H a = some (.dT kvs)) (eb : H b = some (.tup (k.map kV))) (hl : kvs.length < sizeLine) :
    DPut H a (.ref b) v (upd H a (.dT (putK kvs k v))) := .inr ⟨kvs, k, b, e, rfl, eb, hl, rfl⟩
section
variable {X : Cx} {pins : List (Addr × Obj)} {σ : St} {H : Hp} {s : Shared} {a : Addr} {y v : V} {u r : Value} {o : Option V} {A : Around} {E : Value -> Shared -> Prop}
end
section
variable {X : Cx} {pins : List (Addr × Obj)} {σ : St} {H : Hp} {s : Shared} {a : Addr} {kvs : List (Key × V)} {k : Key} {u : Value} {A : Around} {E : Value -> Shared -> Prop}
end
def zC6 (i : Expr) : Prop := ∀ ov iv, subscripted i false ov iv = operate [ov, iv] (getItem ov iv)
def zBL (td ty : TE) : TE := fun σ H Q => td σ H fun x H1 => ty σ H1 fun y H2 => ∃ a v, x = .ref a /\ DGet H2 a y (some v) /\ Q v H2
def zC7 (ty td : TE) : TE := fun σ H Q => ty σ H fun y H1 => td σ H1 fun x H2 => ∃ a o, x = .ref a /\ DGet H2 a y o /\ Q (.bl o.isSome) H2
def z9n (ty td : TE) : TE := fun σ H Q => ty σ H fun y H1 => td σ H1 fun x H2 => ∃ a o, x = .ref a /\ DGet H2 a y o /\ Q (.bl (!o.isSome)) H2
def zBM (td ty tv : TE) : TS := fun D σ H => tv σ H fun v H1 => td σ H1 fun x H2 => ty σ H2 fun y H3 => ∃ a H4, x = .ref a /\ DPut H3 a y v H4 /\ D.nx σ H4
def zBN (td ty tv : TE) (rd : V -> V -> Hp -> VK -> Prop) : TS := fun D σ H => td σ H fun x H1 => ty σ H1 fun y H2 => ∃ a v, x = .ref a /\ DGet H2 a y (some v) /\
  tv σ H2 fun y2 H3 => rd v y2 H3 fun z H4 => ∃ H5, DPut H4 a y z H5 /\ D.nx σ H5
def zBO (td ty : TE) : TS := fun D σ H => td σ H fun x H1 => ty σ H1 fun y H2 => ∃ a kvs k, x = .ref a /\ H2 a = some (.dK kvs) /\ y = kV k /\ (z3m kvs k).isSome = true /\ D.nx σ (upd H2 a (.dK (z5b kvs k)))
section
variable {X : Cx} {o i e value : Expr} {pos pos' tpos : Pos} {td ty tv : TE}
end
def zAW : TE := fun _ H Q => ∀ p, H p = none -> Q (.ref p) (upd H p (.dK []))
def zAX : TE := fun _ H Q => ∀ p, H p = none -> Q (.ref p) (upd H p (.dT []))
section
variable {X : Cx} {pos : Pos}
end
def z5c : List (TE × TE) -> St -> Hp -> (List (V × V) -> Hp -> Prop) -> Prop
  | [], _, H, Q => Q [] H
  | (tk, tv) :: r, σ, H, Q => tk σ H fun x H1 => tv σ H1 fun y H2 => z5c r σ H2 fun ps H3 => Q ((x, y) :: ps) H3
abbrev VV : List (V × V) -> List (Value × Value) -> Prop := Paired fun p q => RelV p.1 q.1 /\ RelV p.2 q.2
def PPs (X : Cx) (pos : Pos) (keys : List (Option Expr)) (values : List Expr) (trs : List (TE × TE)) : Prop :=
  ∀ (pins : List (Addr × Obj)) (s : Shared) (σ : St) (H : Hp) (Q : List (V × V) -> Hp -> Prop), Inv X pins σ H s -> z5c trs σ H Q ->
    wpAny (model X.prog X.w) X.A (evalPairs (pairTrees keys values X.env pos)) (fun vs s' => ∃ ps H', Inv X pins σ H' s' /\ VV ps vs /\ Q ps H') X.xe s
def z8h (kvs more : List (Key × V)) : List (Key × V) := more.foldl (fun acc kv => putK acc kv.1 kv.2) kvs
def zBP (trs : List (TE × TE)) : TE := fun σ H Q => ∀ p, H p = none -> z5c trs σ (upd H p (.dK [])) fun ps H2 => H2 p = some (.dK []) /\ ∃ kvs : List (Key × V), ps = kvs.map (fun kv => (kV kv.1, kv.2)) /\ kvs.length <= 15 /\ Q (.ref p) (upd H2 p (.dK (z8h [] kvs)))
structure M1 (X : Cx) (o : Expr) (m : Str) (apos : Pos) (e : Expr) (cpos : Pos) : Prop where
  base : attributeBase o m X.env (eval o X.env) = eval o X.env
  few : ((backTo cpos (starEach [e] X.env)).all (fun x => !x.1) && (backToKw cpos (keywordEach [] X.env)).all (fun x => x.1.isSome)
    && decide (([e] : List Expr).length + ([] : List Keyword).length + (if ([] : List Keyword).isEmpty then 0 else 1) < 30)) = true
  line : (apos.endLine == cpos.line) = true
  trees : backTo cpos (starEach [e] X.env) = [(false, eval e X.env)]
structure M2 (X : Cx) (o : Expr) (m : Str) (apos : Pos) (e f : Expr) (cpos : Pos) : Prop where
  base : attributeBase o m X.env (eval o X.env) = eval o X.env
  few : ((backTo cpos (starEach [e, f] X.env)).all (fun x => !x.1) && (backToKw cpos (keywordEach [] X.env)).all (fun x => x.1.isSome)
    && decide (([e, f] : List Expr).length + ([] : List Keyword).length + (if ([] : List Keyword).isEmpty then 0 else 1) < 30)) = true
  line : (apos.endLine == cpos.line) = true
  trees : backTo cpos (starEach [e, f] X.env) = [(false, eval e X.env), (false, eval f X.env)]
def IsD (H : Hp) (a : Addr) : Prop := (∃ kvs, Rd H a (.dK kvs)) \/ ∃ kvs, Rd H a (.dT kvs)
section
variable {X : Cx} {pins : List (Addr × Obj)} {σ : St} {H : Hp} {s : Shared} {a : Addr} {y d : V} {u r : Value} {o : Option V} {A : Around} {E : Value -> Shared -> Prop}
end
def zAY (td ty : TE) : TE := fun σ H Q => td σ H fun x H1 => ∃ a, x = .ref a /\ IsD H1 a /\ ty σ H1 fun y H2 => ∃ o, DGet H2 a y o /\ Q (o.getD .non) H2
def zAZ (td ty tx : TE) : TE := fun σ H Q => td σ H fun x H1 => ∃ a, x = .ref a /\ IsD H1 a /\ ty σ H1 fun y H2 => tx σ H2 fun z H3 => ∃ o, DGet H3 a y o /\ Q (o.getD z) H3
def zAa (td ty : TE) : TE := fun σ H Q => td σ H fun x H1 => ∃ a, x = .ref a /\ IsD H1 a /\ ty σ H1 fun y H2 => ∃ kvs k v, H2 a = some (.dK kvs) /\ y = kV k /\ z3m kvs k = some v /\ Q v (upd H2 a (.dK (z5b kvs k)))
def zAb (td ty tx : TE) : TE := fun σ H Q => td σ H fun x H1 => ∃ a, x = .ref a /\ IsD H1 a /\ ty σ H1 fun y H2 => tx σ H2 fun z H3 => ∃ kvs k, H3 a = some (.dK kvs) /\ y = kV k /\
  (∀ v, z3m kvs k = some v -> Q v (upd H3 a (.dK (z5b kvs k)))) /\ (z3m kvs k = none -> Q z H3)
section
variable {X : Cx} {o e f : Expr} {apos cpos : Pos} {td ty tx : TE}
end
section
variable {X : Cx} {pins : List (Addr × Obj)} {σ : St} {H : Hp} {s : Shared} {a : Addr} {kvs : List (Key × V)} {A : Around} {E : Value -> Shared -> Prop}
end
section
variable {X : Cx} {pins : List (Addr × Obj)} {σ : St} {H : Hp} {s : Shared} {a : Addr} {y : V} {u : Value} {A : Around} {E : Value -> Shared -> Prop}
end
end L2
namespace Att
open PySem PySem.W PySem.Calls PyProof.Rows
theorem z24 {P : Params} {h : Heap} : ∀ (ns : List Int) (vs : List Value), WellAll P h vs (ns.map WData.int) -> IntsAre vs ns := by
  intro ns
  induction ns with
  | nil =>
    intro vs w
    rw [List.map_nil] at w
    cases w
    exact .nil
  | cons n ns ih =>
    intro vs w
    rw [List.map_cons] at w
    cases w with
    | cons a b =>
      cases a
      exact .cons _ _ (ih _ b)
theorem z5d {l : OpenLaw} {n : Nat} (hn : l.most = some n) {P : Params} {h : Heap} {args : List WData} {vals : List Value}
    (hpre : l.row.toRowW.claim.pre args = true) (hwl : WellAll P h vals args) :
    ∃ a vs ns, vals = [Value.ref a] /\ args = [WData.list (ns.map WData.int)] /\ h.get? a = some { cls := .type "list", data := .seq vs.toArray } /\ IntsAre vs ns /\ ns.length <= n := by
  have hsh : WShape.hasAll [] args [.list .int] = true := (pre_splitW hpre).1
  have hc : l.pre.holds [] { args := args } = true := (pre_splitW hpre).2
  obtain ⟨d, r, rfl, h1, h2⟩ := hasAllW_cons hsh
  obtain rfl := hasAllW_nil h2
  obtain ⟨xs, rfl, h3⟩ := hasW_list h1
  obtain ⟨ns, rfl⟩ := items_int h3
  have hlen : ns.length <= n := by
    unfold OpenLaw.pre at hc
    have h4 : (WTm.not (.lt (.lit (.int (n : Int))) (.len (.arg 0)))).holds [] { args := [.list (ns.map .int)] } = true := by
      have h4 := (holds_andW hc).1
      rw [hn] at h4
      exact h4
    have h5 := condW_of h4 (w_not (w_lt w_lit (w_len_list (w_arg rfl))))
    rw [List.length_map] at h5
    refine Nat.le_of_not_lt fun q => ?_
    have q' : (n : Int) < ((ns.length : Nat) : Int) := by omega
    first
      | (rw [decide_eq_true q'] at h5; exact absurd h5 (by decide))
      | (simp at h5; omega)
  cases hwl with
  | cons w1 w2 =>
    cases w2
    cases w1 with
    | list ho hall => exact ⟨_, _, ns, rfl, rfl, ho, z24 ns _ hall, hlen⟩
theorem z5e (l : OpenLaw) (args : List WData) : l.row.toRowW.claim.post args (.bool true) args = true :=
  postW_of (r := l.row.toRowW) (X := (true == true))
    (show WShape.has [] (.bool true) .bool = true by first | rfl | decide | simp [WShape.has, WShape.arms, WShape.armsAll])
    (show (WTm.eq .res (.lit (.bool true))).value [] { args := args, res := some (.bool true), after := args } = some (.bool (true == true)) from w_eq_bool (w_res rfl) w_lit) rfl
theorem attach_call {l : OpenLaw} {n : Nat} {q : Program} {loose : List Str} {XP : (Str -> Option Value) -> Heap -> Prop} {YP : World -> Heap -> Prop} {d : DefRec}
    (hn : l.most = some n) (hdf : d.params.defaults = [])
    (call : ∀ (w : World) (s₀ s₁ : Shared) (mg mb : Str -> Option Value) (fa : Addr) (o : Obj) (pm cd doc : Value) (a : Addr) (vs : List Value) (ns : List Int),
      Ground q loose [] XP w s₀ mg mb s₁.heap -> YP w s₁.heap ->
      s₁.heap.get? fa = some o -> o.data = .func (docDef d.name d.params d.body d.scope pm cd doc) -> s₁.heap.CodeRec cd d.name -> mg d.name = some (.ref fa) ->
      s₁.heap.get? a = some { cls := .type "list", data := .seq vs.toArray } -> IntsAre vs ns -> ns.length <= n -> s₁.gens = #[] ->
      codeAny (model l.prog w) callerA (.call (.ref fa) ⟨[.ref a], []⟩) (fun r s' => r = .ok (.ret (.bool true)) /\ OldK s₁.heap s'.heap /\ s'.os = s₁.os /\ AllBare s'.gens) s₁) :
    WalkO q loose XP YP l.row.toRowW d [] (fun f vs => PySem.call f vs) := by
  intro w s₀ s₁ mg mb G Y fa o pm cd doc dV kV ho hd hcd hD hmg hg args vals as hpre hlay hrd hwl hlo
  obtain rfl : dV = .none := Dflts.none hD hdf
  obtain rfl : kV = .none := Dflts.noKw hD
  obtain ⟨a, vs, ns, rfl, rfl, hobj, hints, hlen⟩ := z5d hn hpre hwl
  refine enter_call (codeAny_mono (call w s₀ s₁ mg mb fa o pm cd doc a vs ns G Y ho (fd_plain hd) hcd hmg hobj hints hlen hg) fun r s' hq => ?_)
  obtain ⟨rfl, h2, h3, h4⟩ := hq
  exact ⟨.inl ⟨.bool true, .bool true, [], rfl, fun _ => rfl, .bool true, z5e l _, fun _ => ⟨List.Pairwise.nil, fun _ hm => (nomatch hm)⟩⟩, h2, h3, h4⟩
section
variable {prog : Program} {w : World} {A : Around} {E : Value -> Shared -> Prop} {s : Shared} {K : Frag}
def zAc (h : Heap) : Heap := { h with objs := #[] }
def ledger (h : Heap) (L d : Addr) : List (Addr × Obj) := (List.range h.objs.size).filterMap fun a => if a = L \/ a = d then none else (h.get? a).map fun o => (a, o)
end
end Att
namespace L2
open PySem PySem.Spec PyProof.Rows
theorem z25 : ∀ {vs : List Value} {ns : List Int}, IntsAre vs ns -> Vals (ns.map V.int) vs
  | _, _, .nil => .nil
  | _, _, .cons n t h => .cons ⟨t, rfl⟩ (z25 h)
def z9o (H : Hp) : Prop := ∀ b, H b = none \/ ∃ o xs, H b = some (.frz o (.lst xs))
theorem z6o {P : Program} {w : World} {K : PySem.W.Frag} {mg mb : Str -> Option Value} {CX : CXT} {k : Nat} {fa a : Addr} {fd : FuncData} {x : Str} {sp : Sp} {s₁ : Shared} {vs : List Value} {ns : List Int}
    (KX : K.In s₁.heap) (hns : s₁.heap.Ns mainGlobals mg) (hb : s₁.heap.Ns builtinsNs mb) (hbb : ∀ x : Str, x ≠ "__name__" -> mb x = bootBuiltins x) (hlim : s₁.heap.NoLimit) (hg : s₁.gens = #[])
    (ha : s₁.heap.get? a = some { cls := .type "list", data := .seq vs.toArray }) (hi : IntsAre vs ns) (hl : ns.length <= sizeLine) (hr : Room k callerA)
    (F : ∀ base : Heap, K.In base -> base.Ns mainGlobals mg -> FnOk P w K mg base CX k fa fd [x] sp) (hbind : ∀ (s : Shared) (u : Value), BindsTo s fd ⟨[u], []⟩ [(x, u)])
    (hsp : ∀ H : Hp, z9o H -> SqL K H a (ns.map V.int) -> sp [.ref a] H (fun v _ => v = .bl true) fun _ _ _ => False)
    (hCX : ∀ H e s', CX [] H s₁ (fun _ _ _ => False) e s' -> False) :
    codeAny (model P w) callerA (.call (.ref fa) ⟨[.ref a], []⟩) (fun r s' => r = .ok (.ret (.bool true)) /\ OldK s₁.heap s'.heap /\ s'.os = s₁.os /\ AllBare s'.gens) s₁ := by
  have rv := z25 hi
  have lenV := hi.length
  have core : ∀ H : Hp, z9o H -> SqL K H a (ns.map V.int) -> HOk P w H s₁.heap -> (∀ b, H b ≠ none -> b = a) -> (H a ≠ none -> K.lookup a = none) ->
      codeAny (model P w) callerA (.call (.ref fa) ⟨[.ref a], []⟩) (fun r s' => r = .ok (.ret (.bool true)) /\ OldK s₁.heap s'.heap /\ s'.os = s₁.os /\ AllBare s'.gens) s₁ := by
    intro H hO hS hok hA hK
    have base_of : ∀ {b : Addr} {o : Obj}, s₁.heap.get? b = some o -> H b = none -> (z3n s₁.heap H).get? b = some o := fun e n => z4I e n
    have noA : ∀ {b : Addr} {o : Obj} {es : Array DictEntry} {ep : Nat}, s₁.heap.get? b = some o -> o.data = .dict es ep -> H b = none := fun {b o es ep} e d => by
      cases q : H b with
      | none => rfl
      | some u =>
        have e' : b = a := hA b (by rw [q]; simp)
        subst e'
        rw [ha] at e; cases e
        have d' : Data.seq vs.toArray _ = Data.dict es ep := d
        cases d'
    have nsK : ∀ {b : Addr} {m : Str -> Option Value}, s₁.heap.Ns b m -> (z3n s₁.heap H).Ns b m := fun {b m} ⟨o, es, ep, e, d, r⟩ => ⟨o, es, ep, base_of e (noA e d), d, r⟩
    have hKb : K.In (z3n s₁.heap H) := fun b o e => base_of (KX b o e) (by
      cases q : H b with
      | none => rfl
      | some u =>
        have e' : b = a := hA b (by rw [q]; simp)
        subst e'
        rw [hK (by rw [q]; simp)] at e; cases e)
    have hM : Mod K mg (z3n s₁.heap H) := ⟨hKb, nsK hns, ⟨mb, nsK hb, hbb⟩, let ⟨mc, h1, h2⟩ := hlim; ⟨mc, nsK h1, h2⟩⟩
    have e0 : Env0 P w K mg (z3n s₁.heap H) callerA [] s₁ H := ⟨rfl, hM, fun b o e => z5E e, Nat.le_of_eq (z38 _ _), trivial, fun b hb => absurd (show b ∈ ([] : List Addr) from hb) (by simp), hok, .of_eq hg⟩
    refine codeAny_mono ((F _ hKb (nsK hns)).run callerA [] s₁ H ⟨[.ref a], []⟩ [.ref a] [.ref a] _ _ hr e0 (hbind s₁ (.ref a)) (.cons rfl .nil) (hsp H hO hS)) fun r s' h => ?_
    cases r with
    | error e => exact (hCX H e s' h).elim
    | ok fl =>
      cases fl with
      | next => exact False.elim h
      | brk => exact False.elim h
      | cont => exact False.elim h
      | ret u =>
        obtain ⟨v, H', os, bare, un, hok', r', q⟩ := h
        have q' : v = .bl true := q
        subst q'
        obtain rfl : u = Value.bool true := r'
        refine ⟨rfl, OldK.of_keep fun b o e => ?_, os, bare⟩
        cases q : H b with
        | none => exact un.keep b o e q (by intro z; exact absurd (show b ∈ ([] : List Addr) from z) (by simp)) (by simp)
        | some u =>
          rcases hO b with z | ⟨ob, xs, z⟩
          . rw [q] at z; cases z
          . have z2 := un.frzs b ob _ z
            obtain ⟨e1, _⟩ := hok b _ z
            obtain ⟨e2, _⟩ := hok' b _ z2
            rw [e] at e1; cases e1
            exact e2
  cases hk : K.lookup a with
  | some o =>
    have e := KX a o hk
    rw [ha] at e
    cases e
    refine core (fun _ => none) (fun _ => .inl rfl) (.inr ⟨_, vs.toArray, _, hk, rfl, rfl, rfl, by rw [List.size_toArray, lenV]; exact hl, by simpa using rv⟩) (fun b u z => by have z' : (none : Option HO) = some u := z; cases z') (fun b z => absurd rfl z) fun z => absurd rfl z
  | none =>
    refine core (fun b => if b = a then some (.frz { cls := .type "list", data := .seq vs.toArray } (.lst (ns.map V.int))) else none) (fun b => ?_) (.inl (.inr ⟨{ cls := .type "list", data := .seq vs.toArray }, if_pos rfl⟩)) (fun b u z => ?_) (fun b z => ?_) fun _ => hk
    . by_cases hb : b = a
      . exact .inr ⟨_, _, if_pos hb⟩
      . exact .inl (if_neg hb)
    . by_cases hb : b = a
      . have z' := (if_pos hb).symm.trans z
        cases z'
        subst hb
        exact ⟨ha, by rw [List.length_map]; exact hl, vs, _, rv, ha⟩
      . have z' := (if_neg hb).symm.trans z
        cases z'
    . by_cases hb : b = a
      . exact hb
      . exact absurd (if_neg hb) z
abbrev KOf {K : PySem.W.Frag} {h : Heap} (_ : K.In h) : PySem.W.Frag := K
theorem walk_of {l : PySem.W.OpenLaw} {n k : Nat} {q : Program} {loose : List Str} {XP : (Str -> Option Value) -> Heap -> Prop} {YP : World -> Heap -> Prop} {d : DefRec} {K : Params -> PySem.W.Frag} {CX : World -> CXT} {sp : World -> Sp} {x : Str}
    (hn : l.most = some n) (hn2 : n <= sizeLine) (hdf : d.params.defaults = []) (hr : Room k callerA)
    (hY : ∀ (w : World) (h : Heap), YP w h -> (K w.params).In h)
    (F : ∀ (w : World) (mg : Str -> Option Value) (fa : Addr) (h : Heap), (K w.params).In h -> h.Ns mainGlobals mg -> mg d.name = some (.ref fa) ->
      ∃ fd : FuncData, (∀ (s : Shared) (u : Value), BindsTo s fd ⟨[u], []⟩ [(x, u)]) /\
        ∀ base : Heap, (K w.params).In base -> base.Ns mainGlobals mg -> FnOk l.prog w (K w.params) mg base (CX w) k fa fd [x] (sp w))
    (hsp : ∀ (w : World) (H : Hp) (a : Addr) (ns : List Int), ns.length <= n -> z9o H -> SqL (K w.params) H a (ns.map V.int) -> sp w [.ref a] H (fun v _ => v = .bl true) fun _ _ _ => False)
    (hCX : ∀ (w : World) (H : Hp) (s : Shared) (e : Value) (s' : Shared), CX w [] H s (fun _ _ _ => False) e s' -> False) :
    PySem.W.WalkO q loose XP YP l.row.toRowW d [] (fun f vs => PySem.call f vs) := by
  refine Att.attach_call hn hdf fun w s₀ s₁ mg mb fa o pm cd doc a vs ns G Y ho hd hcd hmg hobj hints hlen hg => ?_
  have KX := hY w _ Y
  obtain ⟨fd, hb, hF⟩ := F w mg fa _ KX G.T.g hmg
  exact z6o KX G.T.g G.T.b G.T.builtins G.T.nolimit hg hobj hints (Nat.le_trans hlen hn2) hr hF hb (fun H hO hS => hsp w H a ns hlen hO hS) fun H e s' => hCX w H s₁ e s'
end L2
/- THE LAST THEOREM (shape; LID, My.* are yours):
   My.Adr: a structure of the addresses that your layer names (classes, functions); My.Txt K t: a structure (Prop) of the equations over K;
   My.txt_mk : {K} {implicit addresses ..} (e1 : nsIn K mainGlobals "law" = some (some (.ref f))) (e2 : K.lookup f = some ⟨oc, od, .func (fnOf "law" "law" params body scope dV kV doc pm an cdv ct), sl⟩) (e3 : codeIn K cdv "law" = true) .. : ∃ t, My.Txt K t
set_option maxRecDepth 100000 in
set_option maxHeartbeats 0 in
theorem PySem.Challenge.cw_LID_holds : PySem.Challenge.rw_LID.Holds := by
  w_on; o_law; k_head; (case hw => w_witness2)
  k_fill
  refine L2.walk_of (l := PySem.Challenge.rw_LID) (n := 63) (k := 40) (x := "script") (CX := fun w => ..) (sp := fun _ => My.sp_law) rfl (by decide) rfl ⟨rfl, by decide, by decide⟩ (fun w h Y => PySem.W.kIn_of Y) ?F ?S ?C
  case F =>
    intro w mg fa h KX G hmg
    have T : ∃ t, My.Txt (L2.KOf KX) t := by
      dsimp only [L2.KOf]
      refine' My.txt_mk ?e1 ?e2 ?e3 ..
      (case e1 => PySem.W.k_is)
      (case e2 => PySem.W.k_is)
      ..
    obtain ⟨t, T⟩ := T
    have e0 := hmg.symm.trans (PySem.W.mg_of KX G T.law)
    cases e0
    exact ⟨_, fun s u => .of_eq rfl, fun base kb nb => My.law_fn T kb nb⟩
  case S => exact fun w H a ns hl hO hS => ..
  case C => exact ..
(the tactic k_is has no namespace: write k_is) -/
namespace L2
open PySem PySem.Spec PyProof.Rows
def inClass (s : Stmt) (j : Nat) : Stmt := match s with
  | .ClassDef _ _ _ body _ _ _ _ _ _ _ => body.getD j (.Pass ⟨0, 0, 0, 0⟩)
  | _ => .Pass ⟨0, 0, 0, 0⟩
def z0F (s : Stmt) : Arguments := match s with
  | .FunctionDef _ a _ _ _ _ _ _ _ _ => a
  | _ => { posonlyargs := [], args := [], vararg := none, kwonlyargs := [], kw_defaults := [], kwarg := none, defaults := [] }
def z0B (s : Stmt) : List Stmt := match s with
  | .FunctionDef _ _ b _ _ _ _ _ _ _ => b
  | _ => []
def z02 (s : Stmt) : Scope := match s with
  | .FunctionDef _ _ _ _ _ _ sc _ _ _ => sc
  | _ => { kind := .function, names := [], isGenerator := false, isCoroutine := false }
abbrev CX0 : CXT := fun _ _ _ _ _ _ => False
abbrev E0 : XK := fun _ _ _ => False
theorem z8i {X : Cx} : z5X CX0 X E0 := fun _ _ _ _ _ _ _ h => h.elim
structure Fun (K : PySem.W.Frag) (x qual : Str) (st : Stmt) (f : Addr) (fd : FuncData) : Prop where
  ex : ∃ (oc : Value) (od : Option Addr) (kV doc pm : Value) (an : Option Addr) (cdv ct : Value) (osl : Array (Option Value)),
    fd = PySem.W.fnOf x qual (z0F st) (z0B st) (z02 st) .none kV doc pm an cdv ct /\ K.lookup f = some ⟨oc, od, .func fd, osl⟩ /\ PySem.W.codeIn K cdv qual = true
  kp : PySem.W.keepIn K (.ref f) = true
section
variable {P : Program} {w : World} {K : PySem.W.Frag} {mg : Str -> Option Value} {base : Heap}
theorem Fun.ok {x qual : Str} {st : Stmt} {f : Addr} {fd : FuncData} {N ps : List Str} {k : Nat} {sp : Sp} (F : Fun K x qual st f fd) (S : FnScope N ps (z02 st)) (len : ∀ vs H Q E, sp vs H Q E -> vs.length = ps.length)
    (hbody : ∀ (cdv : Value) (A : Around) (outer : List Env) (s : Shared) (H : Hp) (vs : List V) (Q : VK) (E : XK), Room k (A.deeper (envOfC qual (z02 st) s.heap.objs.size f cdv)) -> sp vs H Q E ->
      ∃ t, PSs (z7J CX0 P w K mg base N qual (z02 st) f cdv A outer s H E).nox (z0B st) t /\ t { nx := fun _ H' => Q .non H', rt := Q } (start N vs) H) : FnOk P w K mg base CX0 (k + 1) f fd ps sp := by
  obtain ⟨oc, od, kV, doc, pm, an, cdv, ct, osl, rfl, lk, hcd⟩ := F.ex
  refine z7h lk hcd S len fun A outer s H vs Q E hr hsp => ?_
  obtain ⟨t, h, q⟩ := hbody cdv A outer s H vs Q E hr hsp
  exact ⟨t, h.nox, q⟩
theorem Fun.binds {x qual : Str} {st : Stmt} {f : Addr} {fd : FuncData} {ps : List Str} (F : Fun K x qual st f fd)
    (h : ∀ (kV doc pm : Value) (an : Option Addr) (cdv ct : Value) (us : List Value), us.length = ps.length -> bindArgs (PySem.W.fnOf x qual (z0F st) (z0B st) (z02 st) .none kV doc pm an cdv ct) ⟨us, []⟩ = pure (ps.zip us)) : Binds K fd ps [] := by
  obtain ⟨oc, od, kV, doc, pm, an, cdv, ct, osl, rfl, lk, hcd⟩ := F.ex
  exact .all (h kV doc pm an cdv ct)
theorem z0T {x qual : Str} {st : Stmt} {f : Addr} {oc : Value} {od an : Option Addr} {osl : Array (Option Value)} {kV doc pm cdv ct : Value} (l : K.lookup f = some ⟨oc, od, .func (PySem.W.fnOf x qual (z0F st) (z0B st) (z02 st) .none kV doc pm an cdv ct), osl⟩)
    (c : PySem.W.codeIn K cdv qual = true) (k : PySem.W.keepIn K (.ref f) = true) : Fun K x qual st f (PySem.W.fnOf x qual (z0F st) (z0B st) (z02 st) .none kV doc pm an cdv ct) := ⟨⟨oc, od, kV, doc, pm, an, cdv, ct, osl, rfl, l, c⟩, k⟩
end
theorem z9p {A : Around} {k : Nat} (hr : Room k A) : A.units + 1 < cLine := Nat.lt_of_le_of_lt (Nat.add_le_add_left (by decide : 1 <= 64) _) hr.units
theorem z0G {n : Nat} (h : n <= 1000) : n < sizeLine := Nat.lt_of_le_of_lt h (by decide)
section
variable {X : Cx}
theorem pv (i : Nat) {x : Str} {pos : Pos} (hN : X.N[i]? = some x := by rfl) (hv : Vis X.env.scope x := by first | exact Or.inl rfl | exact Or.inr (Or.inl rfl) | exact Or.inr (Or.inr rfl)) (hd : (x == ("__debug__" : Str)) = false := by decide)
    (hcd : (x == ("__classdict__" : Str)) = false := by decide) : PE X (.Name x pos) (z9E i) := z8T hN hv hd hcd
end
theorem z7L {A B : Prop} (h : B) : if false = true then A else B := by
  rw [if_neg Bool.false_ne_true]
  exact h
theorem z8j {A B : Prop} (h : A) : if true = true then A else B := by
  rw [if_pos rfl]
  exact h
def Same (H H' : Hp) : Prop := ∀ b o, H b = some o -> H' b = some o
theorem Same.refl (H : Hp) : Same H H := fun _ _ h => h
theorem Same.trans {H H1 H2 : Hp} (a : Same H H1) (b : Same H1 H2) : Same H H2 := fun c o h => b c o (a c o h)
theorem Same.free {H H' : Hp} (e : Same H H') {l : Addr} (h : H' l = Option.none) : H l = Option.none := by
  cases q : H l with
  | none => rfl
  | some o =>
    rw [e l o q] at h
    cases h
theorem Same.seq {K : PySem.W.Frag} {H H' : Hp} {a : Addr} {xs : List V} (e : Same H H') (h : SqL K H a xs) : SqL K H' a xs := by
  rcases h with (h | ⟨o, h⟩) | h
  . exact .inl (.inl (e _ _ h))
  . exact .inl (.inr ⟨o, e _ _ h⟩)
  . exact .inr h
section
variable {κ : Type} [DecidableEq κ]
end
end L2
set_option maxHeartbeats 4000000
namespace L2
open PySem PySem.Spec PyProof.Rows
structure Df (K : PySem.W.Frag) (mg : Str -> Option Value) (x : Str) (st : Stmt) (ps : List Str) (f : Addr) (fd : FuncData) : Prop where
  F : Fun K x x st f fd
  b : Binds K fd ps []
  m : mg x = some (.ref f)
def zBQ (K : PySem.W.Frag) : Sp := fun vs H Q _ => ∃ (a : Addr) (ns : List Int), vs = [.ref a] /\ SqL K H a (ns.map V.int) /\ ns.length <= 63 /\ ∀ H', Q (.bl true) H'
theorem Same.new {H : Hp} {l : Addr} {o : HO} (h : H l = none) : Same H (upd H l o) := fun b u e => by
  rw [z06 (z08 e h)]
  exact e
theorem Same.tup {K : PySem.W.Frag} {H H' : Hp} {a : Addr} {xs : List V} (e : Same H H') (h : SqT K H a xs) : SqT K H' a xs := by
  rcases h with (h | ⟨o, h⟩) | h
  . exact .inl (.inl (e _ _ h))
  . exact .inl (.inr ⟨o, e _ _ h⟩)
  . exact .inr h
theorem z6p {ns : List Int} {x : V} (h : x ∈ ns.map V.int) : ∃ z, x = .int z := by
  obtain ⟨z, _, e⟩ := List.mem_map.mp h
  exact ⟨z, e.symm⟩
theorem z5f {b : Bool} {A B : Prop} (hb : b = false) (h : B) : if b = true then A else B := by
  subst hb
  exact z7L h
section
variable {X : Cx}
def zC8 : R2 := fun x y H Q => ∃ b c, x = V.bl b /\ y = V.bl c /\ Q (.bl (b == c)) H
def z9q : R2 := fun x y H Q => ∃ b c, x = V.bl b /\ y = V.bl c /\ Q (.bl (b != c)) H
def tyS (H : Hp) : V -> Option String
  | .non => some "NoneType"
  | .bl _ => some "bool"
  | .int _ => some "int"
  | .str _ => some "str"
  | .ref a => match H a with
    | some (.lst _) => some "list"
    | some (.frz _ (.lst _)) => some "list"
    | some (.tup _) => some "tuple"
    | some (.dK _) => some "dict"
    | some (.dT _) => some "dict"
    | _ => none
  | _ => none
theorem z8k {K : PySem.W.Frag} {H : Hp} {x : V} {T : String} (h : tyS H x = some T) : TyOf K H x (.type T) := by
  cases x with
  | non => cases h; exact .non
  | bl b => cases h; exact .bl b
  | int i => cases h; exact .int i
  | str z => cases h; exact .str z
  | byt b => cases h
  | flt b => cases h
  | ty n => cases h
  | ref a =>
    simp only [tyS] at h
    split at h
    . rename_i e; cases h; exact .lst e
    . rename_i e; cases h; exact .frz e
    . rename_i e; cases h; exact .tup e
    . rename_i e; cases h; exact .dK e
    . rename_i e; cases h; exact .dT e
    . cases h
def z7q (T c : String) : Bool := T == c || (T == "bool" && c == "int")
def z7r : List String := ["NoneType", "bool", "int", "str", "list", "tuple", "dict"]
theorem z5g : ∀ T ∈ z7r, ∀ c ∈ z7r, (if (Value.type T == Value.type c) = true then some true else if PySem.W.kitMeta c = true then (PySem.fastBuiltinMro T).map (·.contains (.type c)) else none) = some (z7q T c) := by decide +kernel
theorem z7s {K : PySem.W.Frag} {T c : String} (hT : T ∈ z7r) (hc : c ∈ z7r) : PySem.W.kitOne K (.type T) (.type c) = some (z7q T c) := z5g T hT c hc
theorem z5h {H : Hp} {x : V} {T : String} (h : tyS H x = some T) : T ∈ z7r := by
  cases x with
  | non => cases h; decide
  | bl b => cases h; decide
  | int i => cases h; decide
  | str z => cases h; decide
  | byt b => cases h
  | flt b => cases h
  | ty n => cases h
  | ref a =>
    simp only [tyS] at h
    split at h <;> first | (cases h; decide) | cases h
theorem z1h : CallR X (.builtin "isinstance") (fun xs H Q => ∃ x c T, xs = [x, .ty c] /\ c ∈ z7r /\ tyS H x = some T /\ Q (.bl (z7q T c)) H) := by
  intro pins s σ H xs us Q I r h
  obtain ⟨x, c, T, rfl, hc, ht, q⟩ := h
  obtain ⟨v, w', rfl, rx, ry⟩ := vals2 r
  cases (show w' = Value.type c from ry)
  exact z5W I rx (z8k ht) (z7s (z5h ht) hc) fun tk => ⟨.bl (z7q T c), H, I.tok tk, rfl, q⟩
end
theorem z26 {cells : List (Str × Addr)} {f : Str × NameKind -> List (Str × Addr) -> Sem (ForInStep (List (Str × Addr)))}
    (hf : ∀ n k r c, k = NameKind.free -> cells.lookup n = some c -> f (n, k) r = pure (.yield ((n, c) :: r))) (hg : ∀ n k r, k ≠ NameKind.free -> f (n, k) r = pure (.yield r)) :
    ∀ (names : List (Str × NameKind)) (acc : List (Str × Addr)), (∀ y ∈ names, y.2 = .free -> ∃ c, cells.lookup y.1 = some c) -> (∀ x c, acc.lookup x = some c -> cells.lookup x = some c) ->
      ∃ cl, forIn names acc f = (pure cl : Sem _) /\ (∀ x c, cl.lookup x = some c -> cells.lookup x = some c) /\ (∀ x c, acc.lookup x = some c -> ∃ d, cl.lookup x = some d) /\ ∀ y ∈ names, y.2 = .free -> ∃ d, cl.lookup y.1 = some d
  | [], acc, _, ha => ⟨acc, by rw [List.forIn_nil], ha, fun x c e => ⟨c, e⟩, fun _ hy => nomatch hy⟩
  | (n, k) :: r, acc, hn, ha => by
    have hr : ∀ y ∈ r, y.2 = .free -> ∃ c, cells.lookup y.1 = some c := fun y hy => hn y (List.mem_cons_of_mem _ hy)
    by_cases hk : k = .free
    . obtain ⟨c, hc⟩ := hn (n, k) List.mem_cons_self hk
      have ha' : ∀ x d, ((n, c) :: acc).lookup x = some d -> cells.lookup x = some d := fun x d e => by
        rw [List.lookup_cons] at e
        cases hx : x == n with
        | true =>
          rw [hx] at e
          cases e
          rw [beq_iff_eq.mp hx]
          exact hc
        | false =>
          rw [hx] at e
          exact ha x d e
      obtain ⟨cl, e, h1, h2, h3⟩ := z26 hf hg r ((n, c) :: acc) hr ha'
      have hh : ∀ x d, acc.lookup x = some d -> ∃ d', cl.lookup x = some d' := fun x d q => by
        cases hx : x == n with
        | true => exact h2 x c (by rw [List.lookup_cons, hx])
        | false => exact h2 x d (by rw [List.lookup_cons, hx]; exact q)
      refine ⟨cl, ?_, h1, hh, fun y hy e' => ?_⟩
      . rw [List.forIn_cons, hf n k acc c hk hc, pure_bind]
        exact e
      . rcases List.mem_cons.mp hy with rfl | hy
        . exact h2 n c (by rw [List.lookup_cons, beq_self_eq_true])
        . exact h3 y hy e'
    . obtain ⟨cl, e, h1, h2, h3⟩ := z26 hf hg r acc hr ha
      refine ⟨cl, ?_, h1, h2, fun y hy e' => ?_⟩
      . rw [List.forIn_cons, hg n k acc hk, pure_bind]
        exact e
      . rcases List.mem_cons.mp hy with rfl | hy
        . exact absurd e' hk
        . exact h3 y hy e'
theorem z3p {sc : Scope} {env : Env} (hfree : ∀ y ∈ sc.names, y.2 = .free -> ∃ c, env.cells.lookup y.1 = some c) :
    ∃ cl : List (Str × Addr), closureFor sc env = pure cl /\ (∀ x c, cl.lookup x = some c -> env.cells.lookup x = some c) /\ ∀ y ∈ sc.names, y.2 = .free -> ∃ c, cl.lookup y.1 = some c := by
  obtain ⟨cl, e, h1, _, h3⟩ := z26 (cells := env.cells) (f := fun (y : Str × NameKind) r => if (y.2 == NameKind.free) = true then (do let a <- cellOf env y.1; pure (ForInStep.yield ((y.1, a) :: r))) else pure (ForInStep.yield r))
    (fun n k r c hk hc => by
      subst hk
      show (if (NameKind.free == NameKind.free) = true then (cellOf env n >>= fun a => pure (ForInStep.yield ((n, a) :: r))) else pure (ForInStep.yield r)) = _
      rw [if_pos (show (NameKind.free == NameKind.free) = true by decide)]
      have e : cellOf env n = pure c := by unfold cellOf; rw [hc]
      rw [e, pure_bind])
    (fun n k r hk => by
      show (if (k == NameKind.free) = true then (cellOf env n >>= fun a => pure (ForInStep.yield ((n, a) :: r))) else pure (ForInStep.yield r)) = _
      rw [if_neg (by simpa using hk)])
    sc.names [] hfree (fun x c q => nomatch q)
  refine ⟨cl, ?_, h1, h3⟩
  unfold closureFor
  first
    | (rw [e]; rfl)
    | (refine Eq.trans (congrArg (fun t => t >>= fun cs => pure cs) e) ?_; rw [pure_bind])
    | (simp only [bind_pure]; exact e)
theorem z0W {env : Env} : ∀ {names : List (Str × NameKind)} {x : Str}, names.lookup x = some .free ->
    ((names.map fun (n, k) => if (k == NameKind.free && env.scope.kind == .function && env.kindOf n == some .cell) then (n, NameKind.cell) else (n, k)).lookup x = some .cell) \/
    ((names.map fun (n, k) => if (k == NameKind.free && env.scope.kind == .function && env.kindOf n == some .cell) then (n, NameKind.cell) else (n, k)).lookup x = some .free)
  | [], _, h => by cases h
  | (n, k) :: r, x, h => by
    have ih := @z0W env r x
    rw [List.map_cons]
    cases hx : x == n with
    | true =>
      rw [List.lookup_cons, hx] at h
      cases h
      by_cases hc : (NameKind.free == NameKind.free && env.scope.kind == .function && env.kindOf n == some .cell) = true
      . left
        show List.lookup x ((if (NameKind.free == NameKind.free && env.scope.kind == .function && env.kindOf n == some .cell) = true then (n, NameKind.cell) else (n, NameKind.free)) :: _) = _
        rw [if_pos hc, List.lookup_cons, hx]
      . right
        show List.lookup x ((if (NameKind.free == NameKind.free && env.scope.kind == .function && env.kindOf n == some .cell) = true then (n, NameKind.cell) else (n, NameKind.free)) :: _) = _
        rw [if_neg hc, List.lookup_cons, hx]
    | false =>
      rw [List.lookup_cons, hx] at h
      have z : ∀ (y : Str × NameKind) (t : List (Str × NameKind)), y.1 = n -> List.lookup x (y :: t) = List.lookup x t := fun y t e => by
        obtain ⟨y1, y2⟩ := y
        cases (show y1 = n from e)
        rw [List.lookup_cons, hx]
      rw [z _ _ (by
        show (if (k == NameKind.free && env.scope.kind == .function && env.kindOf n == some .cell) = true then (n, NameKind.cell) else (n, k)).1 = n
        split <;> rfl)]
      exact ih h
theorem z1T {env : Env} : ∀ {names : List (Str × NameKind)} {x : Str}, (∀ y ∈ names, y.2 ≠ .cell) ->
    (((names.map fun (n, k) => if (k == NameKind.free && env.scope.kind == .function && env.kindOf n == some .cell) then (n, NameKind.cell) else (n, k)).lookup x = some .cell) \/
    ((names.map fun (n, k) => if (k == NameKind.free && env.scope.kind == .function && env.kindOf n == some .cell) then (n, NameKind.cell) else (n, k)).lookup x = some .free)) -> ∃ y ∈ names, y.1 = x /\ y.2 = .free
  | [], _, _, h => by rcases h with h | h <;> cases h
  | (n, k) :: r, x, hc, h => by
    have ih := @z1T env r x fun y hy => hc y (List.mem_cons_of_mem _ hy)
    rw [List.map_cons] at h
    cases hx : x == n with
    | true =>
      have e : x = n := beq_iff_eq.mp hx
      by_cases hk : k = .free
      . exact ⟨(n, k), List.mem_cons_self, e.symm, hk⟩
      . exfalso
        have q : (if (k == NameKind.free && env.scope.kind == .function && env.kindOf n == some .cell) = true then (n, NameKind.cell) else (n, k)) = (n, k) := by
          rw [if_neg]
          intro z
          rw [Bool.and_eq_true, Bool.and_eq_true] at z
          exact hk (by simpa using z.1.1)
        have h' : List.lookup x ((n, k) :: (r.map fun (n, k) => if (k == NameKind.free && env.scope.kind == .function && env.kindOf n == some .cell) then (n, NameKind.cell) else (n, k))) = some .cell \/
            List.lookup x ((n, k) :: (r.map fun (n, k) => if (k == NameKind.free && env.scope.kind == .function && env.kindOf n == some .cell) then (n, NameKind.cell) else (n, k))) = some .free := by
          rw [<- q]
          exact h
        rw [List.lookup_cons, hx] at h'
        rcases h' with z | z
        . exact hc (n, k) List.mem_cons_self (Option.some.inj z)
        . exact hk (Option.some.inj z)
    | false =>
      have z : ∀ (y : Str × NameKind) (t : List (Str × NameKind)), y.1 = n -> List.lookup x (y :: t) = List.lookup x t := fun y t e => by
        obtain ⟨y1, y2⟩ := y
        cases (show y1 = n from e)
        rw [List.lookup_cons, hx]
      rw [z _ _ (by
        show (if (k == NameKind.free && env.scope.kind == .function && env.kindOf n == some .cell) = true then (n, NameKind.cell) else (n, k)).1 = n
        split <;> rfl)] at h
      obtain ⟨y, hy, e⟩ := ih h
      exact ⟨y, List.mem_cons_of_mem _ hy, e⟩
def z1H (X : Cx) (locs : List Str) (ix : List Nat) : List Str := locs ++ ix.map fun i => X.N.getD i Str.empty
def z4R (k : Nat) (ix : List Nat) (σ : St) : St := List.replicate k none ++ ix.map fun i => (σ[i]?).join
abbrev cxC (X : Cx) (sc : Scope) (cl : List (Str × Addr)) (C : Addr) (N : List Str) (fp : List Addr) (s2 : Shared) (H2 : Hp) (pn : List (Addr × Obj)) : Cx :=
  { X with N := N, s₀ := s2, H₀ := H2, env := compEnvC sc cl C X.env, outer := X.stack, ex := fp, fn := fun _ => false, pn := pn, xe := fun _ _ => False }
structure BlkSc (X : Cx) (sc : Scope) (locs : List Str) (ix : List Nat) : Prop where
  kind : sc.kind = .function
  cell : ∀ y ∈ sc.names, y.2 ≠ .cell
  free : ∀ y ∈ sc.names, y.2 = .free -> X.env.kindOf y.1 = some .cell \/ X.env.kindOf y.1 = some .free
  names : ∀ y ∈ sc.names, y.2 = .local -> sc.names.lookup y.1 = some .local
  fr : ∀ i ∈ ix, ∃ x, X.N[i]? = some x /\ sc.names.lookup x = some .free
section
variable {X : Cx} {pins : List (Addr × Obj)} {σ : St} {H2 : Hp} {s2 : Shared} {sc : Scope} {cl : List (Str × Addr)} {locs : List Str} {ix : List Nat} {fp : List Addr}
theorem z0f {names : List (Str × NameKind)} {x : Str} {k : NameKind} : names.lookup x = some k -> (x, k) ∈ names := by
  induction names with
  | nil => intro h; cases h
  | cons y r ih =>
    obtain ⟨n, j⟩ := y
    intro h
    rw [List.lookup_cons] at h
    cases hx : x == n with
    | true =>
      rw [hx] at h
      cases h
      rw [beq_iff_eq.mp hx]
      exact List.mem_cons_self
    | false =>
      rw [hx] at h
      exact List.mem_cons_of_mem _ (ih h)
theorem z8l (I : Inv X pins σ H2 s2) (B : BlkSc X sc locs ix) (hcl : ∀ x c, cl.lookup x = some c -> X.env.cells.lookup x = some c) (hcl' : ∀ y ∈ sc.names, y.2 = .free -> ∃ c, cl.lookup y.1 = some c)
    (hf : ∀ b ∈ fp, z1v X pins H2 b) {C : Addr} (hC : s2.heap.objs.size <= C) (hfC : ∀ b ∈ fp, b ≠ C) {N : List Str} {pn : List (Addr × Obj)} : (cxC X sc cl C N fp s2 H2 pn).Ok where
  mod := I.ok.mod
  kind := B.kind
  glob := I.ok.glob
  blt := I.ok.blt
  above := hC
  inj := fun x y c h1 h2 => I.ok.inj x y c (hcl x c h1) (hcl y c h2)
  has := fun x h => by
    obtain ⟨y, hy, e, hk⟩ := z1T (env := X.env) B.cell h
    subst e
    exact hcl' y hy hk
  cab := fun x c h _ => nomatch h
  hd := I.ok.hd
  frames := I.ok.frames
  stk := .inl rfl
  exf := fun b hb => ⟨hfC b hb, fun x c e => (hf b hb).2.2.2.2.1 x c (hcl x c e)⟩
  bs := fun b o e => I.bs b o e
  bsz := Nat.le_trans I.ok.bsz I.sz
  noex := fun b o e hb => by
    obtain ⟨_, _, _, h4, _⟩ := hf b hb
    rcases h4 with h | h
    . exact I.ok.noex b o e h
    . exact absurd (Nat.lt_of_lt_of_le (Nat.lt_of_lt_of_le (Heap.lt_size e) I.ok.bsz) h) (Nat.lt_irrefl _)
  exfs := fun b hb z => by
    obtain ⟨_, h2, h3, _⟩ := hf b hb
    rcases List.mem_cons.mp (I.stkSub b z) with e | e
    . exact h2 e
    . exact h3 e
  funs := I.stack
  frf := I.stkFree
theorem z5i (I : Inv X pins σ H2 s2) (B : BlkSc X sc locs ix) (hcl : ∀ x c, cl.lookup x = some c -> X.env.cells.lookup x = some c) (hcl' : ∀ y ∈ sc.names, y.2 = .free -> ∃ c, cl.lookup y.1 = some c)
    (hf : ∀ b ∈ fp, z1v X pins H2 b) (hfl : ∀ b ∈ fp, b < s2.heap.objs.size) {h1 : Heap} {tk : Nat} {m0 : Str -> Option Value} {D C : Addr} {oD : Obj} (hD : s2.heap.objs.size <= D) (hC : s2.heap.objs.size <= C) (hDC : D ≠ C)
    (old : ∀ b o, s2.heap.get? b = some o -> h1.get? b = some o) (ns : h1.Ns C m0) (gD : h1.get? D = some oD) (dD : ∀ v, oD.data ≠ .cell v) :
    Inv (cxC X sc cl C (z1H X locs ix) fp s2 H2 (X.pn ++ pins)) [(D, oD)] (z4R locs.length ix σ) H2 { s2 with heap := h1, toks := tk } := by
  have low : ∀ b o, s2.heap.get? b = some o -> b < s2.heap.objs.size := fun b o e => Heap.lt_size e
  have nst : ∀ b, s2.heap.objs.size <= b -> b ∉ frs X.stack := fun b hb z => by
    obtain ⟨_, o, ho, _⟩ := I.stack.mem z
    exact absurd (Nat.lt_of_lt_of_le (low b o ho) hb) (Nat.lt_irrefl _)
  refine ⟨z8l I B hcl hcl' hf hC fun b hb => Nat.ne_of_lt (Nat.lt_of_lt_of_le (hfl b hb) hC), rfl, I.bare, Un.kept old, ⟨m0, ns, fun i x v e1 e2 e3 => ?_⟩, fun x c e => ?_, I.hok.fresh hC, fun x c e => I.freeC x c (hcl x c e), fun p hp => ?_, I.hok.kept old, ?_⟩
  . have e2' : (z4R locs.length ix σ)[i]? = some (some v) := e2
    have e1' : (z1H X locs ix)[i]? = some x := e1
    unfold z4R at e2'
    unfold z1H at e1'
    by_cases hi : i < locs.length
    . rw [List.getElem?_append_left (by rw [List.length_replicate]; exact hi), List.getElem?_replicate, if_pos hi] at e2'
      cases e2'
    . rw [List.getElem?_append_right (by rw [List.length_replicate]; omega), List.length_replicate, List.getElem?_map] at e2'
      rw [List.getElem?_append_right (by omega), List.getElem?_map] at e1'
      cases hj : ix[i - locs.length]? with
      | none =>
        rw [hj] at e2'
        cases e2'
      | some j =>
        rw [hj] at e2' e1'
        have e4 : (σ[j]?).join = some v := Option.some.inj e2'
        have e5 : X.N.getD j Str.empty = x := Option.some.inj e1'
        obtain ⟨x', hx', hfree⟩ := B.fr j (List.mem_of_getElem? hj)
        have e6 : x' = x := by
          rw [<- e5, List.getD_eq_getElem?_getD, hx']
          rfl
        subst e6
        have e7 : σ[j]? = some (some v) := by
          cases hs : σ[j]? with
          | none => rw [hs] at e4; cases e4
          | some o =>
            rw [hs] at e4
            cases o with
            | none => cases e4
            | some w => cases e4; rfl
        have hk := B.free (x', .free) (z0f hfree) rfl
        obtain ⟨m, _, hl⟩ := I.loc
        obtain ⟨u, r, l⟩ := hl j x' v hx' e7 (hk.elim (fun z => .inr (.inl z)) fun z => .inr (.inr z))
        refine ⟨u, r, .inr ⟨z0W (env := X.env) hfree, ?_⟩⟩
        obtain ⟨c, hc⟩ := hcl' (x', .free) (z0f hfree) rfl
        rcases l with ⟨k, _⟩ | ⟨_, c', hc', z⟩
        . rcases hk with hk | hk
          . rw [hk] at k; cases k
          . rw [hk] at k; cases k
        . have q := hcl x' c hc
          rw [hc'] at q
          cases q
          obtain ⟨o, ho, hd⟩ := z
          exact ⟨_, hc, o, old _ _ ho, hd⟩
  . obtain ⟨v, o, ho, hd⟩ := I.cell x c (hcl x c e)
    exact ⟨v, o, old _ _ ho, hd⟩
  . rcases List.mem_append.mp hp with hp | hp
    . obtain ⟨e, n, ne, nf, d⟩ := I.pin p hp
      refine ⟨old _ _ e, n, Nat.ne_of_lt (Nat.lt_of_lt_of_le (low _ _ e) hC), fun z => ?_, d⟩
      rcases List.mem_cons.mp (I.stkSub p.1 z) with q | q
      . exact ne q
      . exact nf q
    . have e : p = (D, oD) := by simpa using hp
      subst e
      exact ⟨gD, I.hok.fresh hD, hDC, nst D hD, dD⟩
  . show (z4R locs.length ix σ).length = (z1H X locs ix).length
    unfold z4R z1H
    rw [List.length_append, List.length_append, List.length_replicate, List.length_map, List.length_map]
theorem z6q {N : List Str} {pn : List (Addr × Obj)} {C D : Addr} {s' : Shared} {σ' : St} {H' : Hp} {ys : List V} {its : List Value} {n : Nat} (I : Inv X pins σ H2 s2) (hf : ∀ b ∈ fp, z1v X pins H2 b) (hD : s2.heap.objs.size <= D)
    (I' : Inv (cxC X sc cl C N fp s2 H2 pn) [(D, { cls := .type "list", data := .seq its.toArray n })] σ' H' s') (hv : Vals ys its) (hz : ys.length <= sizeLine) : H' D = none /\ Inv X pins σ (upd H' D (.lst ys)) s' := by
  obtain ⟨gD, nD, _⟩ := I'.pin (D, { cls := .type "list", data := .seq its.toArray n }) (List.mem_append_right _ List.mem_cons_self)
  have low : ∀ b o, s2.heap.get? b = some o -> b ≠ D := fun b o e => Nat.ne_of_lt (Nat.lt_of_lt_of_le (Heap.lt_size e) hD)
  have lowH : ∀ b o, H2 b = some o -> b ≠ D := fun b o e => Nat.ne_of_lt (Nat.lt_of_lt_of_le (I.hok.lt e) hD)
  have U : Un (frs X.stack) fp H2 H' s2.heap s'.heap := I'.base
  refine ⟨nD, I.call' (ch := fp) I'.os ⟨U.keep, U.slot, fun b o e hn hx => ?_, U.there, fun b xs e => ?_, fun b o u e => ?_, fun b ps e => ?_⟩ (fun b u e => ?_) I'.bare fun b hb => ?_⟩
  . rw [z06 (low b o e)]
    exact U.free b o e hn hx
  . rw [z06 (lowH b _ e)]
    exact U.tups b xs e
  . rw [z06 (lowH b _ e)]
    exact U.frzs b o u e
  . rw [z06 (lowH b _ e)]
    exact U.tbls b ps e
  . by_cases hb : b = D
    . subst hb
      rw [upd_same] at e
      cases e
      exact ⟨hz, its, n, hv, gD⟩
    . rw [z06 hb] at e
      exact (I'.hok b u e).stay (fun _ _ _ q => q) (fun c q => by rw [z06 (z08 q nD)]; exact q) fun c xs q => by rw [z06 (z08 q nD)]; exact q
  . obtain ⟨_, f1, _, f3, f4, f5⟩ := hf b hb
    exact ⟨f3, f1, f4, f5⟩
end
section
variable {prog : Program} {w : World} {A : Around} {R : Result -> Shared -> Prop} {s : Shared}
theorem z3I {elt tgt src : Expr} {tests : List Expr} {sc : Scope} {p : Pos} {itv acc : Value} {ev : Env} (J : Nat -> Shared -> Prop)
    (turn : ∀ n s, J n s -> wpAny (model prog w) A (pyNext itv) (fun r s1 => match r with
      | none => R (.ok .next) s1
      | some v => wpAny (model prog w) A (letOwnedTupleGo tgt itv v) (fun _ s2 => wpAny (model prog w) A (assign tgt ev v) (fun _ s3 =>
          wpAny (model prog w) A (forIn tests true fun c r => if r = true then do let ok <- isTrue c ev (eval c ev); pure (ForInStep.yield ok) else pure (ForInStep.yield r)) (fun ok s4 =>
            if ok = true then wpAny (model prog w) A (eval elt ev) (fun x s5 => wpAny (model prog w) A (call (.builtin "list.append") [acc, x]) (fun _ s6 => ∃ m, m < n /\ J m s6) (fun _ _ => False) s5) (fun _ _ => False) s4
            else ∃ m, m < n /\ J m s4) (fun _ _ => False) s3) (fun _ _ => False) s2) (fun _ _ => False) s1) (fun _ _ => False) s)
    (n : Nat) (h : J n s) : codeAny (model prog w) A (.compLoop (.ListComp elt [⟨tgt, src, tests, 0⟩] sc p) 0 itv acc ev) R s := by
  refine codeAny_loop rfl J (fun n s hJ => ?_) n h
  show wpAny _ A ((compTurn (.ListComp elt [⟨tgt, src, tests, 0⟩] sc p) 0 itv acc ev).onRaise (fun x => do noteFrame x ev; theTreesLotGoes x)) _ _ s
  refine wpAny_noted (wpAny_noRaise ?_)
  rw [compTurn_list]
  refine wpAny_bind (wpAny_standAt (wpAny_bind (thn (turn n s hJ) fun r s1 h1 => ?_)))
  cases r with
  | none => exact wpAny_pure h1
  | some v =>
    refine wpAny_bind (thn h1 fun _ s2 h2 => wpAny_bind (thn h2 fun _ s3 h3 => wpAny_bind (thn h3 fun ok s4 h4 => ?_)))
    cases ok with
    | false => exact wpAny_pure ⟨rfl, h4⟩
    | true => exact wpAny_bind (wpAny_bind (thn h4 fun x s5 h5 => wpAny_bind (thn h5 fun _ s6 h6 => wpAny_pure (wpAny_pure ⟨rfl, h6⟩))))
end
def PTs (X : Cx) (tests : List Expr) (t : TT) : Prop :=
  ∀ (pins : List (Addr × Obj)) (s : Shared) (σ : St) (H : Hp) (Q : Bool -> Hp -> Prop), Inv X pins σ H s -> t σ H Q ->
    wpAny (model X.prog X.w) X.A (forIn tests true fun c r => if r = true then do let ok <- isTrue c X.env (eval c X.env); pure (ForInStep.yield ok) else pure (ForInStep.yield r)) (TP X pins σ Q) X.xe s
def zAd : TT := fun _ H Q => Q true H
theorem z0u {X : Cx} : PTs X [] zAd := fun _ _ _ H _ I h => wpAny_tests_nil ⟨H, I, h⟩
theorem z2s {X : Cx} {c : Expr} {t : TT} (hc : PT X c t) : PTs X [c] t := fun pins s σ H Q I h => wpAny_tests_one (hc pins s σ H Q I h)
def z4k (J : It) (g : TG) (tt : TT) (te : TE) (Fin : List V -> Hp -> Prop) (W : Nat -> Nat -> St -> List V -> Hp -> Prop) : Prop :=
  ∀ i m σ ys H, W i m σ ys H -> (J.stop i H /\ ys.length <= sizeLine /\ Fin ys H) \/
    (J.go i H /\ ys.length < sizeLine /\ ∀ x H', J.yld i H x H' -> g x σ H' fun σ2 H2 => tt σ2 H2 fun b H3 => if b = true then te σ2 H3 fun y H4 => ∃ m', m' < m /\ W (i + 1) m' σ2 (ys ++ [y]) H4 else ∃ m', m' < m /\ W (i + 1) m' σ2 ys H3)
def z8m (wi : TI) (k : Nat) (ix : List Nat) (g : TG) (tt : TT) (te : TE) : TE := fun σ H Q => wi σ H fun J H1 =>
  ∃ W : Nat -> Nat -> St -> List V -> Hp -> Prop, (∃ m, W 0 m (z4R k ix σ) [] H1) /\ z4k J g tt te (fun ys H => ∀ l, H l = none -> Q (.ref l) (upd H l (.lst ys))) W
section
variable {X : Cx} {elt tgt iter : Expr} {tests : List Expr} {sc : Scope} {pos : Pos} {locs : List Str} {ix : List Nat} {wi : TI} {g : TG} {tt : TT} {te : TE}
theorem z2X {pins : List (Addr × Obj)} {σ : St} {H2 : Hp} {s2 : Shared} {cl : List (Str × Addr)} {fp : List Addr} {it : Addr} {tn : Nat -> Heap -> Prop} {J : It} {W : Nat -> Nat -> St -> List V -> Hp -> Prop} {Fin : List V -> Hp -> Prop} {RR : Value -> Addr -> Result -> Shared -> Prop} {m0 : Nat} {E : Value -> Shared -> Prop}
    (hc : X.calm = true) (B : BlkSc X sc locs ix)
    (hg : ∀ cl C fp s2 H2 pn, PG (cxC X sc cl C (z1H X locs ix) fp s2 H2 pn) tgt g) (ht : ∀ cl C fp s2 H2 pn, PTs (cxC X sc cl C (z1H X locs ix) fp s2 H2 pn) tests tt) (he : ∀ cl C fp s2 H2 pn, PE (cxC X sc cl C (z1H X locs ix) fp s2 H2 pn) elt te)
    (I : Inv X pins σ H2 s2) (T : Turn X.prog X.w X.K tgt J fp it tn) (st2 : tn 0 s2.heap) (hf : ∀ b ∈ fp, z1v X pins H2 b)
    (hcl : ∀ x c, cl.lookup x = some c -> X.env.cells.lookup x = some c) (hcl' : ∀ y ∈ sc.names, y.2 = .free -> ∃ c, cl.lookup y.1 = some c)
    (w0 : W 0 m0 (z4R locs.length ix σ) [] H2) (turn : z4k J g tt te Fin W)
    (hR : ∀ D C s' H' ys m, H' D = none -> s2.heap.objs.size <= C -> H' C = none -> C ≠ D -> Inv X pins σ (upd H' D (.lst ys)) s' -> Fin ys H' -> s'.heap.Ns C m -> RR (.ref D) C (.ok .next) s') :
    wpAny (model X.prog X.w) X.A (newList []) (fun acc s₃ => wpAny (model X.prog X.w) X.A (newFunctionEnv sc X.env.globals cl [] X.env.qual none .none (some X.env)) (fun cenv s₄ =>
      codeAny (model X.prog X.w) X.A (.compStart (.ListComp elt [⟨tgt, iter, tests, 0⟩] sc pos) 0 (.ref it) acc { cenv with scope := relabel sc X.env }) (RR acc cenv.locals) s₄) E s₃) E s2 := by
  refine wpAny_newObj_type (wpAny_newFunctionEnv B.cell (by intro y hy; cases hy) (fun h1 ns1 sb1 => ?_) B.kind)
  dsimp only at ns1 sb1 ⊢
  generalize eH : s2.heap.push { cls := .type "list", dict := none, data := .seq ([] : List Value).toArray } = G at ns1 sb1 ⊢
  have zG : G.objs.size = s2.heap.objs.size + 1 := by rw [<- eH, Heap.size_push]
  have hDC : s2.heap.objs.size ≠ G.objs.size := by omega
  have old : ∀ b o, s2.heap.get? b = some o -> h1.get? b = some o := fun b o e => sb1.extBut b o (Nat.ne_of_lt (Nat.lt_of_lt_of_le (Heap.lt_size e) (by omega))) (Heap.get?_push_of_some _ (eH ▸ Heap.get?_push_of_some _ e))
  have gD : h1.get? s2.heap.objs.size = some { cls := .type "list", data := .seq ([] : List Value).toArray 0 } := sb1.extBut _ _ hDC (Heap.get?_push_of_some _ (eH ▸ Heap.get?_push_size _ rfl))
  have hfl : ∀ b ∈ fp, b < s2.heap.objs.size := fun b hb => by
    obtain ⟨o, e, _⟩ := T.obj 0 s2.heap st2 b hb
    exact Heap.lt_size e
  have Y := fun tk => z5i (tk := tk) (locs := locs) I B hcl hcl' hf hfl (Nat.le_refl _) (by omega : s2.heap.objs.size <= G.objs.size) hDC old ns1 gD (fun v z => by cases z)
  have st1 : tn 0 h1 := T.keep 0 _ _ st2 fun b _ o e => old b o e
  have stat : ∀ {oD : Obj} {H' : Hp}, (∀ b ∈ fp, H' b = none) -> ∀ b ∈ fp, z1v (cxC X sc cl G.objs.size (z1H X locs ix) fp s2 H2 (X.pn ++ pins)) [(s2.heap.objs.size, oD)] H' b := fun {oD H'} hn b hb => by
    obtain ⟨_, f1, f2, _, f4, f5⟩ := hf b hb
    refine ⟨hn b hb, Nat.ne_of_lt (Nat.lt_of_lt_of_le (hfl b hb) (by show s2.heap.objs.size <= G.objs.size; omega)), fun z => ?_, .inl hb, fun x c e => f4 x c (hcl x c e), fun p hp => ?_⟩
    . rcases List.mem_cons.mp (I.stkSub b z) with q | q
      . exact f1 q
      . exact f2 q
    . rcases List.mem_append.mp hp with hp | hp
      . exact f5 p hp
      . have e : p = (s2.heap.objs.size, oD) := by simpa using hp
        rw [e]
        exact Nat.ne_of_gt (hfl b hb)
  have loop : ∀ tk, codeAny (model X.prog X.w) X.A (.compLoop (.ListComp elt [⟨tgt, iter, tests, 0⟩] sc pos) 0 (.ref it) (.ref s2.heap.objs.size) (compEnvC sc cl G.objs.size X.env)) (RR (.ref s2.heap.objs.size) G.objs.size) { s2 with heap := h1, toks := tk } := by
    intro tk
    refine z3I (fun n s => ∃ i σ' ys its nn H', Inv (cxC X sc cl G.objs.size (z1H X locs ix) fp s2 H2 (X.pn ++ pins)) [(s2.heap.objs.size, { cls := .type "list", data := .seq (List.toArray its) nn })] σ' H' s /\ tn i s.heap /\ (∀ b ∈ fp, H' b = none) /\ Vals ys its /\ W i n σ' ys H') ?_ m0
      ⟨0, _, [], [], 0, H2, Y tk, st1, fun b hb => (hf b hb).1, .nil, w0⟩
    rintro n s ⟨i, σ', ys, its, nn, H', I1, st, fr, hv, hw⟩
    rcases turn i n σ' ys H' hw with ⟨stop, hz, fin⟩ | ⟨go, hz, step⟩
    . refine thn (T.done (cxC X sc cl G.objs.size (z1H X locs ix) fp s2 H2 (X.pn ++ pins)) rfl rfl rfl hc i _ s σ' H' (fun _ _ => False) I1 (stat fr) st stop) fun r s1 ⟨er, I2⟩ => ?_
      subst er
      obtain ⟨nD, I3⟩ := z6q I hf (Nat.le_refl _) I2 hv hz
      obtain ⟨m, ns, _⟩ := I2.loc
      exact hR _ _ s1 H' ys m nD (by omega) I2.free (Ne.symm hDC) I3 fin ns
    . refine thn (T.item (cxC X sc cl G.objs.size (z1H X locs ix) fp s2 H2 (X.pn ++ pins)) rfl rfl rfl hc i _ s σ' H' (fun _ _ => False) I1 (stat fr) st go) fun r s3 ⟨u, er, h3⟩ => ?_
      subst er
      refine thn h3 fun _ s5 ⟨x, H5, I5, r5, y5, st5, fr5⟩ => ?_
      have I5' := I5.pinned (stat fr5) (T.obj _ _ st5)
      refine thn (hg cl G.objs.size fp s2 H2 (X.pn ++ pins) _ s5 σ' H5 x u _ I5' r5 (step x H5 y5)) fun _ s6 ⟨σ6, H6, I6, q6⟩ => ?_
      refine thn (ht cl G.objs.size fp s2 H2 (X.pn ++ pins) _ s6 σ6 H6 _ I6 q6) fun b s7 ⟨H7, I7, q7⟩ => ?_
      have tn7 : ∀ {s' : Shared} {σ'' : St} {H'' : Hp}, Inv (cxC X sc cl G.objs.size (z1H X locs ix) fp s2 H2 (X.pn ++ pins)) ([(s2.heap.objs.size, { cls := .type "list", data := .seq (List.toArray its) nn })] ++ z2V fp s5.heap) σ'' H'' s' -> tn (i + 1) s'.heap /\ ∀ b ∈ fp, H'' b = none := fun J => by
        refine ⟨T.keep _ _ _ st5 fun b hb o e => (J.pin (b, o) (List.mem_append_right _ (List.mem_append_right _ (z0w hb e)))).1, fun b hb => ?_⟩
        obtain ⟨o, e, d⟩ := T.obj _ _ st5 b hb
        exact (J.pin (b, o) (List.mem_append_right _ (List.mem_append_right _ (z0w hb e)))).2.1
      cases b with
      | false =>
        obtain ⟨m', hm, w'⟩ := q7
        exact ⟨m', hm, i + 1, σ6, ys, its, nn, H7, I7.unpinned, (tn7 I7).1, (tn7 I7).2, hv, w'⟩
      | true =>
        refine thn (he cl G.objs.size fp s2 H2 (X.pn ++ pins) _ s7 σ6 H7 _ I7 q7) fun y s8 ⟨yv, H8, I8, r8, q8⟩ => ?_
        obtain ⟨m', hm, w'⟩ := q8
        obtain ⟨gD8, nD8, _⟩ := I8.pin (s2.heap.objs.size, { cls := .type "list", data := .seq (List.toArray its) nn }) (List.mem_append_right _ (List.mem_append_left _ List.mem_cons_self))
        have hl := hv.length
        refine append_at (hsz := by rw [List.size_toArray]; omega) gD8 fun h9 sb9 gD9 => ?_
        have Iu : Inv (cxC X sc cl G.objs.size (z1H X locs ix) fp s2 H2 (X.pn ++ pins)) [] σ6 H8 s8 := I8.pins_of fun p hp => nomatch hp
        have It : Inv (cxC X sc cl G.objs.size (z1H X locs ix) fp s2 H2 (X.pn ++ pins)) [] σ6 H8 { s8 with heap := h9, toks := s8.toks } := Iu.turned (fun b o hb e => (sb9.2 b hb).trans e) nD8 hDC (.inr (Nat.le_refl _))
          (fun x c e => by
            obtain ⟨v, o, ho, _⟩ := I.cell x c (hcl x c e)
            exact Nat.ne_of_lt (Heap.lt_size ho))
          (fun p hp => by
            rcases List.mem_append.mp hp with hp | hp
            . exact Nat.ne_of_lt (Heap.lt_size (I.pin p hp).1)
            . cases hp)
        have gD9' : h9.get? s2.heap.objs.size = some { cls := .type "list", data := .seq (its ++ [y]).toArray (nn + 1) } := by
          rw [gD9, List.push_toArray]
        have In : Inv (cxC X sc cl G.objs.size (z1H X locs ix) fp s2 H2 (X.pn ++ pins)) [(s2.heap.objs.size, { cls := .type "list", data := .seq (its ++ [y]).toArray (nn + 1) })] σ6 H8 { s8 with heap := h9, toks := s8.toks } := It.pins_of fun p hp => by
          have e : p = (s2.heap.objs.size, { cls := .type "list", data := .seq (its ++ [y]).toArray (nn + 1) }) := by simpa using hp
          subst e
          refine ⟨gD9', nD8, hDC, fun z => ?_, fun v z => by cases z⟩
          obtain ⟨_, o, ho, _⟩ := I.stack.mem z
          exact absurd (Heap.lt_size ho) (Nat.lt_irrefl _)
        refine ⟨m', hm, i + 1, σ6, ys ++ [yv], its ++ [y], nn + 1, H8, In, ?_, (tn7 I8).2, Vals.append hv (.cons r8 .nil), w'⟩
        exact T.keep _ _ _ (tn7 I8).1 fun b hb o e => (sb9.2 b (Nat.ne_of_lt (hfl b hb))).trans e
  exact codeAny_compStart_list (loop _) (T.self X.A 0 _ _ _ st1 (loop _))
theorem z1o (hc : X.calm = true) (B : BlkSc X sc locs ix) (hi : PI X tgt iter wi)
    (hg : ∀ cl C fp s2 H2 pn, PG (cxC X sc cl C (z1H X locs ix) fp s2 H2 pn) tgt g) (ht : ∀ cl C fp s2 H2 pn, PTs (cxC X sc cl C (z1H X locs ix) fp s2 H2 pn) tests tt) (he : ∀ cl C fp s2 H2 pn, PE (cxC X sc cl C (z1H X locs ix) fp s2 H2 pn) elt te)
    (hs : ∀ x, foldedSetIterable iter X.env x = pure x := by intro _; rfl) : PE X (.ListComp elt [⟨tgt, iter, tests, 0⟩] sc pos) (z8m wi locs.length ix g tt te) := by
  intro pins s σ H Q I h
  obtain ⟨cl, ecl, hcl, hcl'⟩ := z3p (sc := sc) (env := X.env) fun y hy hk => I.ok.has y.1 (B.free y hy hk)
  rw [eval_ListComp]
  refine wpAny_comprehension_free (use := none) rfl hs ecl B.kind B.names ?_
  refine thn (hi pins s σ H _ I h) fun v s1 h1 => thn h1 fun itv s2 h2 => ?_
  obtain ⟨it, fp, tn, J, H2, e, I2, T, st2, f2, W, ⟨m0, w0⟩, turn⟩ := h2
  subst e
  refine z2X (iter := iter) (pos := pos) (RR := fun acc C => compPost (model X.prog X.w) X.A X.xe none (EP X pins σ Q) acc C) hc B hg ht he I2 T st2 f2 hcl hcl' w0 turn ?_
  intro D C s' H' ys m nD hC nC hCD I3 fin ns
  refine ⟨m, ns, fun h' hs' => ⟨.ref D, _, I3.turned (t' := s'.toks) (fun b o hb e => (hs'.2 b hb).trans e) (by rw [z06 hCD]; exact nC) (Nat.ne_of_gt (Nat.lt_of_lt_of_le I2.lt hC)) (.inr (Nat.le_trans I2.sz hC)) (fun x c e => ?_) (fun p hp => Nat.ne_of_lt (Nat.lt_of_lt_of_le (Heap.lt_size (I2.pin p hp).1) hC)), rfl, fin D nD⟩⟩
  obtain ⟨v, o, ho, _⟩ := I2.cell x c e
  exact Nat.ne_of_lt (Nat.lt_of_lt_of_le (Heap.lt_size ho) hC)
def z9r (i : Nat) (wi : TI) (k : Nat) (ix : List Nat) (g : TG) (tt : TT) (te : TE) : TS := fun D σ H => wi σ H fun J H1 =>
  ∃ W : Nat -> Nat -> St -> List V -> Hp -> Prop, (∃ m, W 0 m (z4R k ix σ) [] H1) /\ z4k J g tt te (fun ys H => ∀ l, H l = none -> D.nx (σ.set i (some (.ref l))) (upd H l (.lst ys))) W
theorem z1J {i : Nat} {y : Str} {py spos : Pos} (hc : X.calm = true) (hN : X.N.Nodup) (hiy : X.N[i]? = some y) (hy : X.env.scope.names.lookup y = some .local) (B : BlkSc X sc locs ix) (hi : PI X tgt iter wi)
    (hg : ∀ cl C fp s2 H2 pn, PG (cxC X sc cl C (z1H X locs ix) fp s2 H2 pn) tgt g) (ht : ∀ cl C fp s2 H2 pn, PTs (cxC X sc cl C (z1H X locs ix) fp s2 H2 pn) tests tt) (he : ∀ cl C fp s2 H2 pn, PE (cxC X sc cl C (z1H X locs ix) fp s2 H2 pn) elt te)
    (hsw : swapsWith (.ListComp elt [⟨tgt, iter, tests, 0⟩] sc pos) (some (.Name y py)) spos.line X.env = pure true)
    (hs : ∀ x, foldedSetIterable iter X.env x = pure x := by intro _; rfl) : PS X (.Assign [.Name y py] (.ListComp elt [⟨tgt, iter, tests, 0⟩] sc pos) spos) (z9r i wi locs.length ix g tt te) := by
  intro pins s σ H D I h
  obtain ⟨cl, ecl, hcl, hcl'⟩ := z3p (sc := sc) (env := X.env) fun y hy hk => I.ok.has y.1 (B.free y hy hk)
  rw [exec_Assign_Name_used _ _ _ _ hsw]
  refine wpAny_bind (wpAny_standAt (wpAny_bind ?_))
  show wpAny _ X.A (do let _ <- comprehension (.ListComp elt [⟨tgt, iter, tests, 0⟩] sc pos) sc X.env _ (newList []) false (eval iter X.env) (some (assign (.Name y py) X.env))) _ _ s
  refine wpAny_bind (thn (wpAny_comprehension_free (use := some (assign (.Name y py) X.env)) (Q := fun _ s' => SP X pins D .next s') rfl hs ecl B.kind B.names ?_) fun _ s' hq => wpAny_pure (wpAny_pure hq))
  refine thn (hi pins s σ H _ I h) fun v s1 h1 => thn h1 fun itv s2 h2 => ?_
  obtain ⟨it, fp, tn, J, H2, e, I2, T, st2, f2, W, ⟨m0, w0⟩, turn⟩ := h2
  subst e
  refine z2X (iter := iter) (pos := pos) (RR := fun acc C => compPost (model X.prog X.w) X.A X.xe (some (assign (.Name y py) X.env)) (fun _ s' => SP X pins D .next s') acc C) hc B hg ht he I2 T st2 f2 hcl hcl' w0 turn ?_
  intro L C s' H' ys m nL hC nC hCL I3 fin ns
  have cL : C ≠ X.env.locals := Nat.ne_of_gt (Nat.lt_of_lt_of_le I2.lt hC)
  have cC : ∀ x c, X.env.cells.lookup x = some c -> c ≠ C := fun x c e => by
    obtain ⟨v, o, ho, _⟩ := I2.cell x c e
    exact Nat.ne_of_lt (Nat.lt_of_lt_of_le (Heap.lt_size ho) hC)
  have cP : ∀ p ∈ X.pn ++ pins, p.1 ≠ C := fun p hp => Nat.ne_of_lt (Nat.lt_of_lt_of_le (Heap.lt_size (I2.pin p hp).1) hC)
  show wpAny _ X.A (assign (.Name y py) X.env (.ref L)) _ _ _
  refine wpAny_assign_Name (z39 (v := .ref L) I3 hN hiy (.inl hy) rfl (fun s4 I4 ⟨a, sb, ha⟩ => ?_) (.inr hy))
  have hCa : C ≠ a := by
    rcases ha with z | z
    . rw [z]; exact cL
    . exact (cC y a z).symm
  exact ⟨m, ns.sameBut sb hCa, fun h' hs' => ⟨_, _, I4.turned (t' := s4.toks) (fun b o hb e => (hs'.2 b hb).trans e) (by rw [z06 hCL]; exact nC) cL (.inr (Nat.le_trans I2.sz hC)) cC cP, fin L nL⟩⟩
end
section
variable {X : Cx}
theorem z5j : ∀ {bs : List Bool} {us : List Value}, Vals (bs.map V.bl) us -> us = bs.map Value.bool
  | [], _, .nil => rfl
  | b :: r, _, .cons q t => by
    cases (show _ = Value.bool b from q)
    rw [z5j t]
    rfl
theorem range_all (bs : List Bool) : (List.range bs.length).all (fun i => bs.getD i true) = bs.all id := by
  rw [Bool.eq_iff_iff, List.all_eq_true, List.all_eq_true]
  constructor
  . intro h b hb
    obtain ⟨i, hi, e⟩ := List.mem_iff_getElem.mp hb
    have q := h i (List.mem_range.mpr hi)
    rw [List.getD_eq_getElem?_getD, List.getElem?_eq_getElem hi, e] at q
    exact q
  . intro h i hi
    have hi' := List.mem_range.mp hi
    rw [List.getD_eq_getElem?_getD, List.getElem?_eq_getElem hi']
    exact h _ (List.getElem_mem hi')
theorem z6r (hc : X.calm = true) : CallR X (.builtin "all") (fun xs H Q => ∃ (a : Addr) (bs : List Bool), xs = [.ref a] /\ SqL X.K H a (bs.map V.bl) /\ Q (.bl (bs.all id)) H) := by
  intro pins s σ H xs us Q I r h
  obtain ⟨a, bs, rfl, hq, q⟩ := h
  obtain ⟨u, rfl, ru⟩ := vals1 r
  cases (show u = Value.ref a from ru)
  obtain ⟨its, rv, p, _⟩ := I.list hq
  have e := z5j rv
  subst e
  have hh : X.A.in1.handled = none := I.ok.hd hc
  have hlt : a < s.heap.objs.size := by obtain ⟨_, e, _⟩ := p.isList; exact Heap.lt_size e
  refine call_all_walk (wpAny_pyIter_list p.isList ?_)
  refine ⟨s.heap.objs.size, _, _, _, _, _, fun i => bs.getD i true, rfl, Walks.list hh s.heap.objs.size a (Nat.ne_of_lt hlt) (bs.map Value.bool).toArray, ⟨⟨_, Heap.get?_push_size _ rfl, rfl, rfl⟩, p.isList.push _⟩, ?_, fun h' tk k => ?_⟩
  . intro i v s' Q' E' hv hQ
    have e : v = Value.bool (bs.getD i true) := by
      rw [List.getElem?_toArray, List.getElem?_map] at hv
      cases hb : bs[i]? with
      | none => rw [hb] at hv; cases hv
      | some b =>
        rw [hb] at hv
        rw [List.getD_eq_getElem?_getD, hb]
        exact (Option.some.inj hv).symm
    subst e
    exact wpAny_truthy_bool hQ
  . have I' : Inv X pins σ H { s with heap := h', toks := tk } := I.kept fun b o e => k b o (by
      intro z
      have e' : b = s.heap.objs.size := by simpa using z
      exact absurd e' (Nat.ne_of_lt (Heap.lt_size e))) (Heap.get?_push_of_some _ e)
    refine ⟨.bl _, H, I', rfl, ?_⟩
    have e : ((bs.map Value.bool).toArray).size = bs.length := by rw [List.size_toArray, List.length_map]
    rw [e, range_all]
    exact q
end
def Ite (K : PySem.W.Frag) (a : Addr) : It :=
  ⟨fun i H => ∃ xs x, SqL K H a xs /\ xs[i]? = some x, fun i H x H' => ∃ T v, H T = none /\ x = .ref T /\ H' = upd H T (.tup [.int i, v]) /\ ∀ xs, SqL K H a xs -> xs[i]? = some v, fun i H => ∃ xs, SqL K H a xs /\ xs.length <= i⟩
theorem z5k {P : Program} {w : World} {K : PySem.W.Frag} {es : List Expr} {k : Nat} {pos : Pos} (a e it : Addr) (hei : e ≠ it) :
    Turn P w K (.Tuple es k pos) (Ite K a) [e, it] e (fun i h => (∃ old, IsEnum h e it (i : Nat) old) /\ h.IsListIter it a i) where
  mem := List.mem_cons_self
  obj := fun i h st b hb => by
    obtain ⟨⟨old, he⟩, o, hi, hc, hd⟩ := st
    rcases List.mem_cons.mp hb with rfl | hb
    . exact ⟨_, he, fun v z => by cases z⟩
    . rw [List.mem_singleton.mp hb]
      exact ⟨o, hi, fun v z => by rw [hd] at z; cases z⟩
  keep := fun i h h' st k => ⟨let ⟨old, he⟩ := st.1; ⟨old, k e List.mem_cons_self _ he⟩, st.2.at fun o q => k it (List.mem_cons_of_mem _ List.mem_cons_self) o q⟩
  item := by
    intro X hP hw hK hc i pins s σ H E I hf st hg
    subst hP hw hK
    obtain ⟨xs, x, hq, hx⟩ := hg
    obtain ⟨its, rv, p, hz⟩ := I.list hq
    obtain ⟨u, hu, ru⟩ := rv.get hx
    obtain ⟨⟨old, he⟩, hit⟩ := st
    obtain ⟨f0, f1, f2, f3, f4, f5⟩ := hf e List.mem_cons_self
    obtain ⟨g0, g1, g2, g3, g4, g5⟩ := hf it (List.mem_cons_of_mem _ List.mem_cons_self)
    refine wpAny_pyNext_enum_item he hit p.isList (x := u) (by simpa using hu) hei fun h' ho hit' hT hsz hk => ?_
    refine ⟨.ref s.heap.objs.size, rfl, wpAny_letOwnedTupleGo_enum ho fun h'' he'' sb => ?_⟩
    have nT : H s.heap.objs.size = none := I.hok.fresh (Nat.le_refl _)
    have kk : ∀ b o, b ≠ e -> b ≠ it -> s.heap.get? b = some o -> h''.get? b = some o := fun b o b1 b2 q => (sb.2 b b1).trans (hk b o b1 b2 q)
    have hTe : s.heap.objs.size ≠ e := Nat.ne_of_gt (Heap.lt_size he)
    have nb : ∀ b u, H b = some u -> b ≠ e /\ b ≠ it := fun b u q => ⟨fun z => (by rw [z, f0] at q; cases q), fun z => (by rw [z, g0] at q; cases q)⟩
    have gT : h''.get? s.heap.objs.size = some { cls := .type "tuple", data := .seq #[.int i s.toks, u] } := (sb.2 _ hTe).trans hT
    have I1 : Inv X pins σ (upd H s.heap.objs.size (.tup [.int i, x])) { s with heap := h'', toks := s.toks + 1 } := by
      refine I.step (g' := s.gens) (d' := s.drawn) (ch := [e, it]) (fun b hb => ?_) (fun b o _ _ hb q _ => kk b o (fun z => hb (by simp [z])) (fun z => hb (by simp [z])) q) (fun b o _ _ hb q _ => ⟨o.slots, kk b o (fun z => hb (by simp [z])) (fun z => hb (by simp [z])) q⟩) (fun b o _ q n => ?_)
        (fun b o hb q => ⟨o, kk b o (fun z => hb (by simp [z])) (fun z => hb (by simp [z])) q⟩) (fun b ys q => ?_) (fun b ob y q => ?_) (fun b ps q => ⟨#[], ?_⟩) (fun m hm => ?_) (fun b y q => ?_) I.bare
      . rcases List.mem_cons.mp hb with rfl | hb
        . exact ⟨f3, f1, f4, f5⟩
        . rw [List.mem_singleton.mp hb]
          exact ⟨g3, g1, g4, g5⟩
      . rw [z06 (Nat.ne_of_lt (Heap.lt_size q))]
        exact n
      . rw [z06 (z08 q nT)]
        exact q
      . rw [z06 (z08 q nT)]
        exact q
      . rw [z06 (z08 q nT), q]
        simp
      . obtain ⟨o, es', ep, ho', r⟩ := hm
        exact ⟨o, es', ep, kk _ o (Ne.symm f1) (Ne.symm g1) ho', r⟩
      . by_cases hb : b = s.heap.objs.size
        . subst hb
          rw [upd_same] at q
          cases q
          exact ⟨by show 2 <= sizeLine; decide, [.int i s.toks, u], .cons ⟨_, rfl⟩ (.cons ru .nil), _, gT, rfl, _, rfl⟩
        . rw [z06 hb] at q
          refine (I.hok b y q).stay (fun c v hc' z => ?_) (fun c z => by rw [z06 (z08 z nT)]; exact z) fun c ys z => by rw [z06 (z08 z nT)]; exact z
          rcases hc' with z' | z'
          . subst z'
            exact kk c v (nb c y q).1 (nb c y q).2 z
          . exact kk c v (nb c _ z').1 (nb c _ z').2 z
    refine ⟨.ref s.heap.objs.size, _, I1, rfl, ⟨_, x, nT, rfl, rfl, fun ys hy => by rw [I.list_inj hy hq]; exact hx⟩, ⟨⟨u, by simpa using he''⟩, hit'.at fun o q => (sb.2 it (Ne.symm hei)).trans q⟩, fun b hb => ?_⟩
    have hn := (hf b hb).1
    have lt : b < s.heap.objs.size := by
      rcases List.mem_cons.mp hb with rfl | hb
      . exact Heap.lt_size he
      . rw [List.mem_singleton.mp hb]
        obtain ⟨o, q, _⟩ := hit
        exact Heap.lt_size q
    rw [z06 (Nat.ne_of_lt lt)]
    exact hn
  done := by
    intro X hP hw hK hc i pins s σ H E I hf st hg
    subst hP hw hK
    obtain ⟨xs, hq, hx⟩ := hg
    obtain ⟨its, rv, p, hz⟩ := I.list hq
    obtain ⟨⟨old, he⟩, hit⟩ := st
    obtain ⟨g0, g1, g2, g3, g4, g5⟩ := hf it (List.mem_cons_of_mem _ List.mem_cons_self)
    have hl := rv.length
    exact wpAny_pyNext_enum_end (I.ok.hd hc) he hit p.isList (by simp; omega) fun h' eb => ⟨rfl, I.turned (t' := s.toks) (fun b o hb q => eb b o hb q) g0 g1 g3 g4 g5⟩
  self := fun _ _ _ _ _ st h => let ⟨_, he⟩ := st.1; wpAny_pyIter_enum he h
section
variable {X : Cx}
def z9s (K : PySem.W.Frag) (ta : TA) : TI := fun σ H R => ta σ H fun vs H1 => ∃ a, vs = [.ref a] /\ (∃ xs, SqL K H1 a xs) /\ R (Ite K a) H1
theorem z5l {l : Expr} {ta : TA} {p pos : Pos} {es : List Expr} {k : Nat} {tp : Pos} (hg : Gl X "enumerate") (hm : X.mg "enumerate" = none) (ha : PA X [l] ta) (hs : starEach [l] X.env = [(false, eval l X.env)] := by rfl) :
    PI X (.Tuple es k tp) (.Call (.Name "enumerate" p) [l] [] pos) (z9s X.K ta) := by
  intro pins s σ H R I h
  refine Call_ (z1X I hg hm boot_enumerate (PyProof.Rows.callWith_type1 (thn (ha pos pins s σ H _ I h) fun us s1 ⟨vs, H1, I1, r1, q1⟩ => ?_) hs rfl))
  obtain ⟨a, e, ⟨xs, hq⟩, q⟩ := q1
  subst e
  obtain ⟨u, rfl, ru⟩ := vals1 r1
  cases (show u = Value.ref a from ru)
  obtain ⟨its, rv, pl, hz⟩ := I1.list hq
  refine call_enumerate_list pl.isList fun h' he hit hsz hk => ?_
  refine wpAny_pyIter_enum (s := { s1 with heap := h' }) he ?_
  have n1 : H1 s1.heap.objs.size = none := I1.hok.fresh (Nat.le_refl _)
  have n2 : H1 (s1.heap.objs.size + 1) = none := I1.hok.fresh (Nat.le_succ _)
  refine ⟨s1.heap.objs.size + 1, [s1.heap.objs.size + 1, s1.heap.objs.size], _, _, H1, rfl, I1.kept (t' := s1.toks) hk, z5k a _ _ (Nat.succ_ne_self _), ⟨⟨_, by simpa using he⟩, hit⟩, fun b hb => ?_, q⟩
  rcases List.mem_cons.mp hb with rfl | hb
  . exact I1.fpOk (Nat.le_succ _) n2
  . rw [List.mem_singleton.mp hb]
    exact I1.fpOk (Nat.le_refl _) n1
end
theorem z4S {K : PySem.W.Frag} {a : Addr} {xs : List V} {g : TG} {tb : TS} {D : Ends} {σ : St} {H : Hp} (Pv : Nat -> St -> Hp -> Prop) (h0 : Pv 0 σ H) (hl : ∀ i σ H, i <= xs.length -> Pv i σ H -> SqL K H a xs)
    (hs : ∀ (i : Nat) x σ H T, xs[i]? = some x -> Pv i σ H -> H T = none -> g (.ref T) σ (upd H T (.tup [.int i, x])) fun σ2 H2 => tb { D with nx := Pv (i + 1), ct := Pv (i + 1), bk := D.nx } σ2 H2) (hd : ∀ σ H, Pv xs.length σ H -> D.nx σ H) :
    ∃ W : Nat -> Nat -> St -> Hp -> Prop, (∃ m, W 0 m σ H) /\ ∀ i m σ H, W i m σ H ->
      ((Ite K a).stop i H /\ D.nx σ H) \/ ((Ite K a).go i H /\ ∃ N : St -> Hp -> Prop, (∀ σ' H', N σ' H' -> ∃ m', m' < m /\ W (i + 1) m' σ' H') /\ ∀ x H', (Ite K a).yld i H x H' -> g x σ H' fun σ2 H2 => tb { D with nx := N, ct := N, bk := D.nx } σ2 H2) := by
  refine ⟨fun i m σ H => m = xs.length - i /\ i <= xs.length /\ Pv i σ H, ⟨xs.length, by simp, Nat.zero_le _, h0⟩, ?_⟩
  rintro i m σ H ⟨rfl, hi, p⟩
  have q := hl i σ H hi p
  by_cases hlt : i < xs.length
  . refine .inr ⟨⟨xs, xs[i], q, List.getElem?_eq_getElem hlt⟩, Pv (i + 1), fun σ' H' p' => ⟨xs.length - (i + 1), by omega, rfl, hlt, p'⟩, fun x H' y => ?_⟩
    obtain ⟨T, v, nT, rfl, rfl, hv⟩ := y
    exact hs i v σ H T (hv xs q) p nT
  . have e : i = xs.length := by omega
    subst e
    exact .inl ⟨⟨xs, q, Nat.le_refl _⟩, hd σ H p⟩
def Itv (K : PySem.W.Frag) (a : Addr) (xs : List V) : It :=
  ⟨fun i H => i < xs.length /\ SqL K H a xs, fun i H x H' => H' = H /\ xs[xs.length - 1 - i]? = some x, fun i _ => i = xs.length⟩
theorem z6s {P : Program} {w : World} {K : PySem.W.Frag} {tg : Expr} (a it : Addr) (xs : List V) :
    Turn P w K tg (Itv K a xs) [it] it (fun i h => h.IsRevIter it a ((xs.length : Int) - 1 - (i : Int))) where
  mem := List.mem_cons_self
  obj := fun i h st b hb => by
    rw [List.mem_singleton.mp hb]
    obtain ⟨o, e, c, d⟩ := st
    exact ⟨o, e, fun v z => by rw [d] at z; cases z⟩
  keep := fun i h h' st k => st.at fun o e => k it List.mem_cons_self o e
  item := by
    intro X hP hw hK hc i pins s σ H E I hf st hg
    subst hP hw hK
    obtain ⟨hi, hq⟩ := hg
    obtain ⟨its, rv, p, hz⟩ := I.list hq
    have hl := rv.length
    have hx : xs[xs.length - 1 - i]? = some (xs[xs.length - 1 - i]'(by omega)) := List.getElem?_eq_getElem (by omega)
    obtain ⟨u, hu, ru⟩ := rv.get hx
    obtain ⟨f0, f1, f2, f3, f4, f5⟩ := hf it List.mem_cons_self
    have e : (xs.length : Int) - 1 - (i : Int) = ((xs.length - 1 - i : Nat) : Int) := by omega
    have st' : s.heap.IsRevIter it a ((xs.length - 1 - i : Nat) : Int) := by rw [<- e]; exact st
    refine wpAny_pyNext_rev_item st' p.isList (x := u) (by simpa using hu) fun h' st1 sb => ?_
    have I1 : Inv X pins σ H { s with heap := h' } := I.turned (t' := s.toks) (fun b o hb q => (sb.2 b hb).trans q) f0 f1 f3 f4 f5
    obtain ⟨o, q, c, d⟩ := id st1
    have e2 : ((xs.length - 1 - i : Nat) : Int) - 1 = (xs.length : Int) - 1 - ((i + 1 : Nat) : Int) := by omega
    refine ⟨u, rfl, z6h (s := { s with heap := h' }) q c d (by decide) ⟨_, H, I1, ru, ⟨rfl, hx⟩, ?_, fun b hb => (hf b hb).1⟩⟩
    rw [<- e2]
    exact st1
  done := by
    intro X hP hw hK hc i pins s σ H E I hf st hg
    subst hP hw hK
    cases (show i = xs.length from hg)
    obtain ⟨f0, f1, f2, f3, f4, f5⟩ := hf it List.mem_cons_self
    have e : (xs.length : Int) - 1 - (xs.length : Int) = -1 := by omega
    have st' : s.heap.IsRevIter it a (-1) := by rw [<- e]; exact st
    exact wpAny_pyNext_rev_end (I.ok.hd hc) st' fun h' eb => ⟨rfl, I.turned (t' := s.toks) (fun b o hb q => eb b o hb q) f0 f1 f3 f4 f5⟩
  self := fun _ _ _ _ _ st h => wpAny_pyIter_revIter st h
section
variable {X : Cx} {tg : Expr}
def zBR (K : PySem.W.Frag) (ta : TA) : TI := fun σ H R => ta σ H fun vs H1 => ∃ a xs, vs = [.ref a] /\ SqL K H1 a xs /\ R (Itv K a xs) H1
theorem z8n {l : Expr} {ta : TA} {p pos : Pos} (hg : Gl X "reversed") (hm : X.mg "reversed" = none) (ha : PA X [l] ta) (hs : starEach [l] X.env = [(false, eval l X.env)] := by rfl) :
    PI X tg (.Call (.Name "reversed" p) [l] [] pos) (zBR X.K ta) := by
  intro pins s σ H R I h
  refine Call_ (z1X I hg hm boot_reversed (PyProof.Rows.callWith_type1 (thn (ha pos pins s σ H _ I h) fun us s1 ⟨vs, H1, I1, r1, q1⟩ => ?_) hs rfl))
  obtain ⟨a, xs, e, hq, q⟩ := q1
  subst e
  obtain ⟨u, rfl, ru⟩ := vals1 r1
  cases (show u = Value.ref a from ru)
  obtain ⟨its, rv, pl, hz⟩ := I1.list hq
  have hl := rv.length
  refine call_reversed_list pl.isList ?_
  have st : Heap.IsRevIter (s1.heap.push (revObj a ((its.toArray.size : Int) - 1))) s1.heap.objs.size a ((xs.length : Int) - 1 - ((0 : Nat) : Int)) := by
    have e : (xs.length : Int) - 1 - ((0 : Nat) : Int) = (its.toArray.size : Int) - 1 := by
      rw [List.size_toArray]
      omega
    rw [e]
    exact ⟨_, Heap.get?_push_size _ rfl, rfl, rfl⟩
  refine wpAny_pyIter_revIter (s := { s1 with heap := s1.heap.push (revObj a ((its.toArray.size : Int) - 1)) }) st ?_
  refine ⟨s1.heap.objs.size, [s1.heap.objs.size], _, _, H1, rfl, I1.kept (t' := s1.toks) fun b o e => Heap.get?_push_of_some _ e, z6s a _ xs, st, fun b hb => ?_, q⟩
  rw [List.mem_singleton.mp hb]
  exact I1.fpOk (Nat.le_refl _) (I1.hok.fresh (Nat.le_refl _))
end
theorem z7t {K : PySem.W.Frag} {a : Addr} {xs : List V} {g : TG} {tb : TS} {D : Ends} {σ : St} {H : Hp} (Pv : Nat -> St -> Hp -> Prop) (h0 : Pv 0 σ H) (hl : ∀ i σ H, i <= xs.length -> Pv i σ H -> SqL K H a xs)
    (hs : ∀ (i : Nat) x σ H, i < xs.length -> xs[xs.length - 1 - i]? = some x -> Pv i σ H -> g x σ H fun σ2 H2 => tb { D with nx := Pv (i + 1), ct := Pv (i + 1), bk := D.nx } σ2 H2) (hd : ∀ σ H, Pv xs.length σ H -> D.nx σ H) :
    ∃ W : Nat -> Nat -> St -> Hp -> Prop, (∃ m, W 0 m σ H) /\ ∀ i m σ H, W i m σ H ->
      ((Itv K a xs).stop i H /\ D.nx σ H) \/ ((Itv K a xs).go i H /\ ∃ N : St -> Hp -> Prop, (∀ σ' H', N σ' H' -> ∃ m', m' < m /\ W (i + 1) m' σ' H') /\ ∀ x H', (Itv K a xs).yld i H x H' -> g x σ H' fun σ2 H2 => tb { D with nx := N, ct := N, bk := D.nx } σ2 H2) := by
  refine ⟨fun i m σ H => m = xs.length - i /\ i <= xs.length /\ Pv i σ H, ⟨xs.length, by simp, Nat.zero_le _, h0⟩, ?_⟩
  rintro i m σ H ⟨rfl, hi, p⟩
  have q := hl i σ H hi p
  by_cases hlt : i < xs.length
  . refine .inr ⟨⟨hlt, q⟩, Pv (i + 1), fun σ' H' p' => ⟨xs.length - (i + 1), by omega, rfl, hlt, p'⟩, fun x H' y => ?_⟩
    obtain ⟨e, y⟩ := y
    subst e
    exact hs i x σ _ hlt y p
  . have e : i = xs.length := by omega
    subst e
    exact .inl ⟨rfl, hd σ H p⟩
section
variable {prog : Program} {w : World} {A : Around} {E : Value -> Shared -> Prop} {s : Shared}
theorem z0x {it t : Addr} {i : Nat} {its : Array Value} {x : Value} {Q : Value -> Shared -> Prop} (ti : s.heap.IsTupleIter it t i) (tt : s.heap.IsTuple t its) (hx : its[i]? = some x)
    (k : ∀ h', h'.IsTupleIter it t (i + 1) -> Heap.SameBut it s.heap h' -> Q x { s with heap := h' }) : wpAny (model prog w) A (Builtin.SmallTypes.nextOf (.ref it)) Q E s := by
  obtain ⟨o, go, co, dd⟩ := id ti
  obtain ⟨ot, gt, _, nt, dt⟩ := tt
  unfold Builtin.SmallTypes.nextOf
  refine wpAny_bind (wpAny_callSpecial?_slot (name := Str.ofString "__next__") ti.typeIs F.slot_tuple_iterator_next (wpAny_call_entry F.slot_tuple_iterator_next ti.typeIs F.entry_tuple_iterator_next ?_ (F.args_tuple_iterator_next_1 _)))
  show wpAny _ _ (field (.ref it) 0 >>= _) _ _ s
  refine wpAny_bind (wpAny_field go dd (x := .ref t) rfl ?_)
  show wpAny _ _ (if (Value.ref t == Value.none) = true then _ else _) _ _ s
  rw [if_neg (show ¬ (Value.ref t == Value.none) = true by intro z; cases z)]
  show wpAny _ _ (field (.ref it) 1 >>= _) _ _ s
  refine wpAny_bind (wpAny_field go dd (x := .int i 0) rfl ?_)
  show wpAny _ _ (seqItems? (.ref t) >>= _) _ _ s
  refine wpAny_bind (wpAny_seqItems gt dt ?_)
  simp only [Int.toNat_natCast, hx]
  refine wpAny_bind (wpAny_setField go dd (by simp) (wpAny_pure ⟨x, rfl, wpAny_pure (k _ ?_ (Heap.SameBut.update ..))⟩))
  exact ⟨_, Heap.get?_update_self _ go (Obj.isFreed_of_fields (Obj.data_mapFields dd _)), (Obj.cls_mapFields ..).trans co, by rw [Obj.data_mapFields dd]; simp [rawInt]⟩
theorem z27 {it t : Addr} {i : Nat} {its : Array Value} {Q : Value -> Shared -> Prop} (hh : A.handled = none) (ti : s.heap.IsTupleIter it t i) (tt : s.heap.IsTuple t its) (hx : its[i]? = none)
    (k : ∀ h' e, Heap.ExtBut it s.heap h' -> (∃ o, h'.get? e = some o /\ o.cls = .type "StopIteration") -> E (.ref e) { s with heap := h' }) : wpAny (model prog w) A (Builtin.SmallTypes.nextOf (.ref it)) Q E s := by
  obtain ⟨o, go, co, dd⟩ := id ti
  obtain ⟨ot, gt, _, nt, dt⟩ := tt
  unfold Builtin.SmallTypes.nextOf
  refine wpAny_bind (wpAny_callSpecial?_slot (name := Str.ofString "__next__") ti.typeIs F.slot_tuple_iterator_next (wpAny_call_entry F.slot_tuple_iterator_next ti.typeIs F.entry_tuple_iterator_next ?_ (F.args_tuple_iterator_next_1 _)))
  show wpAny _ _ (field (.ref it) 0 >>= _) _ _ s
  refine wpAny_bind (wpAny_field go dd (x := .ref t) rfl ?_)
  show wpAny _ _ (if (Value.ref t == Value.none) = true then _ else _) _ _ s
  rw [if_neg (show ¬ (Value.ref t == Value.none) = true by intro z; cases z)]
  show wpAny _ _ (field (.ref it) 1 >>= _) _ _ s
  refine wpAny_bind (wpAny_field go dd (x := .int i 0) rfl ?_)
  show wpAny _ _ (seqItems? (.ref t) >>= _) _ _ s
  refine wpAny_bind (wpAny_seqItems gt dt ?_)
  simp only [Int.toNat_natCast, hx]
  refine wpAny_bind (wpAny_rule (wpAny_bind (wpAny_setField go dd (by simp) ?_)))
  show wpAny _ _ (newExc (.type "StopIteration") [] >>= _) _ _ _
  refine wpAny_bind ?_
  simp only [newExc, newTuple]
  refine wpAny_bind (wpAny_newObj_type ?_ (by size_fits))
  refine wpAny_bind (m := firstArgMember _ _) (wpAny_of_eq (a := Value.none) (by first | rfl | (simp only [firstArgMember]; rfl)) ?_)
  refine wpAny_newObj_type ?_ (by size_fits)
  simp only [raiseNew]
  refine wpAny_bind (wpAny_handled ?_)
  first | rw [show A.in1.handled = none from hh] | rw [hh]
  refine wpAny_bind (wpAny_pure (wpAny_throw ?_))
  exact k _ _ (((Heap.SameBut.update ..).extBut.push _).push _) ⟨_, Heap.get?_push_size _ rfl, rfl⟩
theorem z5m {z TI TO i1 i2 l1 l2 : Addr} {k1 k2 : Nat} {xs ys : Array Value} {x y a b : Value} {Q : Value -> Shared -> Prop} (D : ZipApart z TI TO i1 i2 l1 l2)
    (gz : IsZip s.heap z TI TO .none) (gI : IsPair s.heap TI (.ref i1) (.ref i2)) (gO : IsPair s.heap TO a b)
    (j1 : s.heap.IsTupleIter i1 l1 k1) (j2 : s.heap.IsTupleIter i2 l2 k2) (t1 : s.heap.IsTuple l1 xs) (t2 : s.heap.IsTuple l2 ys) (hx : xs[k1]? = some x) (hy : ys[k2]? = some y)
    (k : ∀ h', IsZip h' z TI TO (rawInt s.heap.objs.size) -> IsPair h' TO x y -> h'.IsTupleIter i1 l1 (k1 + 1) -> h'.IsTupleIter i2 l2 (k2 + 1) -> IsPair h' s.heap.objs.size x y -> h'.objs.size = s.heap.objs.size + 1 ->
      (∀ c o, c ≠ z -> c ≠ TO -> c ≠ i1 -> c ≠ i2 -> s.heap.get? c = some o -> h'.get? c = some o) -> Q (.ref s.heap.objs.size) { s with heap := h' }) :
    wpAny (model prog w) A (Builtin.«zip.__next__» ⟨[.ref z], []⟩) (fun fin s' => ∃ v, fin = .done (.ret v) /\ Q v s') E s := by
  show wpAny _ _ (field (.ref z) 2 >>= _) _ _ _
  refine wpAny_bind (wpAny_field gz rfl (x := .bool false) rfl ?_)
  show wpAny _ _ (field (.ref z) 3 >>= _) _ _ _
  refine wpAny_bind (wpAny_field gz rfl (x := .ref TI) rfl ?_)
  refine wpAny_bind (wpAny_seqItems gI rfl ?_)
  show wpAny _ _ (Builtin.SmallTypes.ownedTupleIsFree (.ref z) >>= _) _ _ _
  refine wpAny_bind ?_
  unfold Builtin.SmallTypes.ownedTupleIsFree
  refine wpAny_bind (wpAny_field gz rfl (x := .none) rfl (wpAny_pure ?_))
  simp only [if_true]
  refine wpAny_bind (wpAny_rule ?_)
  refine wpAny_bind (wpAny_field gz rfl (x := .ref TO) rfl ?_)
  refine wpAny_bind (wpAny_setField_rec gz (by simp) fun q1 gz1 b1 => ?_)
  replace gz1 : IsZip q1 z TI TO .ellipsis := gz1
  refine wpAny_bind ?_
  simp only [List.zipIdx_cons, List.zipIdx_nil, List.forIn_cons, List.forIn_nil]
  refine wpAny_bind (wpAny_bind (wpAny_onRaise ?_))
  show wpAny _ _ (Builtin.SmallTypes.nextOf (.ref i1) >>= _) _ _ _
  refine wpAny_bind (z0x (j1.extBut b1.extBut D.i1z) (t1.extBut b1.extBut D.l1z) hx fun q2 j12 b2 => wpAny_pure ?_)
  have gO2 : IsPair q2 TO a b := b2.extBut _ _ D.TOi1 (b1.extBut _ _ D.TOz gO)
  refine wpAny_bind (wpAny_seqItems gO2 rfl ?_)
  refine wpAny_bind (wpAny_updateSeq_pair gO2 fun q3 gO3 b3 => ?_)
  replace gO3 : IsPair q3 TO x b := gO3
  refine wpAny_bind (wpAny_letGo (wpAny_pure ?_))
  refine wpAny_bind (wpAny_bind (wpAny_onRaise ?_))
  show wpAny _ _ (Builtin.SmallTypes.nextOf (.ref i2) >>= _) _ _ _
  refine wpAny_bind (z0x (((j2.extBut b1.extBut D.i2z).extBut b2.extBut D.i12.symm).extBut b3.extBut D.TOi2.symm) (((t2.extBut b1.extBut D.l2z).extBut b2.extBut D.l2i1).extBut b3.extBut D.l2TO) hy fun q4 j24 b4 => wpAny_pure ?_)
  have gO4 : IsPair q4 TO x b := b4.extBut _ _ D.TOi2 gO3
  refine wpAny_bind (wpAny_seqItems gO4 rfl ?_)
  refine wpAny_bind (wpAny_updateSeq_pair gO4 fun q5 gO5 b5 => ?_)
  replace gO5 : IsPair q5 TO x y := gO5
  refine wpAny_bind (wpAny_letGo (wpAny_pure (wpAny_pure ?_)))
  refine wpAny_bind (wpAny_seqItems gO5 rfl ?_)
  refine wpAny_bind (wpAny_newTuple ?_)
  have sz : q5.objs.size = s.heap.objs.size := by rw [b5.1, b4.1, b3.1, b2.1, b1.1]
  have gz5 : IsZip q5 z TI TO .ellipsis := b5.extBut _ _ D.TOz.symm (b4.extBut _ _ D.i2z.symm (b3.extBut _ _ D.TOz.symm (b2.extBut _ _ D.i1z.symm gz1)))
  have kk5 : ∀ c o, c ≠ z -> c ≠ TO -> c ≠ i1 -> c ≠ i2 -> s.heap.get? c = some o -> q5.get? c = some o := fun c o c1 c2 c3 c4 e => b5.extBut _ _ c2 (b4.extBut _ _ c4 (b3.extBut _ _ c2 (b2.extBut _ _ c3 (b1.extBut _ _ c1 e))))
  have j15 : q5.IsTupleIter i1 l1 (k1 + 1) := ((j12.extBut b3.extBut D.TOi1.symm).extBut b4.extBut D.i12).extBut b5.extBut D.TOi1.symm
  have j25 : q5.IsTupleIter i2 l2 (k2 + 1) := j24.extBut b5.extBut D.TOi2.symm
  have zlt : z < q5.objs.size := Heap.lt_size gz5
  show wpAny _ _ (Builtin.SmallTypes.ownedTupleHandOut (.ref z) (.ref q5.objs.size) >>= _) _ _ _
  refine wpAny_bind ?_
  unfold Builtin.SmallTypes.ownedTupleHandOut
  have gz6 : IsZip (q5.push { cls := .type "tuple", data := .seq #[x, y] }) z TI TO .ellipsis := Heap.get?_push_of_some _ gz5
  refine wpAny_bind (wpAny_setField_rec gz6 (by simp) fun q7 gz7 b7 => ?_)
  replace gz7 : IsZip q7 z TI TO (rawInt q5.objs.size) := gz7
  refine wpAny_setField_rec gz7 (by simp) fun q8 gz8 b8 => ?_
  replace gz8 : IsZip q8 z TI TO (rawInt q5.objs.size) := gz8
  have up : ∀ c o, c ≠ z -> q5.get? c = some o -> q8.get? c = some o := fun c o c1 e => b8.extBut _ _ c1 (b7.extBut _ _ c1 (Heap.get?_push_of_some _ e))
  have gT8 : IsPair q8 q5.objs.size x y := b8.extBut _ _ (Nat.ne_of_gt zlt) (b7.extBut _ _ (Nat.ne_of_gt zlt) (Heap.get?_push_size _ rfl))
  have sz8 : q8.objs.size = q5.objs.size + 1 := by rw [b8.1, b7.1, Heap.size_push]
  rw [sz] at gz8 gT8 sz8
  refine wpAny_pure ⟨_, rfl, ?_⟩
  show Q (.ref q5.objs.size) _
  rw [sz]
  exact k q8 gz8 (up _ _ D.TOz gO5) (j15.at fun o e => up _ o D.i1z e) (j25.at fun o e => up _ o D.i2z e) gT8 sz8 fun c o c1 c2 c3 c4 e => up c o c1 (kk5 c o c1 c2 c3 c4 e)
theorem z6t {z TI TO i1 i2 l1 l2 : Addr} {k1 k2 : Nat} {xs ys : Array Value} {a b : Value} {Q : PySem.Fin -> Shared -> Prop} (hh : A.handled = none) (D : ZipApart z TI TO i1 i2 l1 l2)
    (gz : IsZip s.heap z TI TO .none) (gI : IsPair s.heap TI (.ref i1) (.ref i2)) (gO : IsPair s.heap TO a b)
    (j1 : s.heap.IsTupleIter i1 l1 k1) (j2 : s.heap.IsTupleIter i2 l2 k2) (t1 : s.heap.IsTuple l1 xs) (t2 : s.heap.IsTuple l2 ys) (hend : xs[k1]? = none \/ ys[k2]? = none)
    (kE : ∀ h' e, (∀ c o, c ≠ z -> c ≠ TO -> c ≠ i1 -> c ≠ i2 -> s.heap.get? c = some o -> h'.get? c = some o) -> (∃ o, h'.get? e = some o /\ o.cls = .type "StopIteration") -> E (.ref e) { s with heap := h' }) :
    wpAny (model prog w) A (Builtin.«zip.__next__» ⟨[.ref z], []⟩) Q E s := by
  show wpAny _ _ (field (.ref z) 2 >>= _) _ _ _
  refine wpAny_bind (wpAny_field gz rfl (x := .bool false) rfl ?_)
  show wpAny _ _ (field (.ref z) 3 >>= _) _ _ _
  refine wpAny_bind (wpAny_field gz rfl (x := .ref TI) rfl ?_)
  refine wpAny_bind (wpAny_seqItems gI rfl ?_)
  show wpAny _ _ (Builtin.SmallTypes.ownedTupleIsFree (.ref z) >>= _) _ _ _
  refine wpAny_bind ?_
  unfold Builtin.SmallTypes.ownedTupleIsFree
  refine wpAny_bind (wpAny_field gz rfl (x := .none) rfl (wpAny_pure ?_))
  simp only [if_true]
  refine wpAny_bind (wpAny_rule ?_)
  refine wpAny_bind (wpAny_field gz rfl (x := .ref TO) rfl ?_)
  refine wpAny_bind (wpAny_setField_rec gz (by simp) fun q1 gz1 b1 => ?_)
  replace gz1 : IsZip q1 z TI TO .ellipsis := gz1
  refine wpAny_bind ?_
  simp only [List.zipIdx_cons, List.zipIdx_nil, List.forIn_cons, List.forIn_nil]
  refine wpAny_bind (wpAny_bind (wpAny_onRaise ?_))
  show wpAny _ _ (Builtin.SmallTypes.nextOf (.ref i1) >>= _) _ _ _
  cases hx : xs[k1]? with
  | none =>
    refine wpAny_bind (z27 hh (j1.extBut b1.extBut D.i1z) (t1.extBut b1.extBut D.l1z) hx fun q2 e b2 he => ?_)
    obtain ⟨oe, ge, ce⟩ := he
    have gz2 : IsZip q2 z TI TO .ellipsis := b2 _ _ D.i1z.symm gz1
    have ez : e ≠ z := fun p => by subst p; rw [gz2] at ge; cases ge; simp at ce
    refine wpAny_setField_rec gz2 (by simp) fun q3 _ b3 => kE q3 e (fun c o c1 _ c3 _ p => b3.extBut _ _ c1 (b2 _ _ c3 (b1.extBut _ _ c1 p))) ⟨oe, b3.extBut _ _ ez ge, ce⟩
  | some x =>
    have hy : ys[k2]? = none := by rcases hend with h | h; rw [hx] at h; cases h; exact h
    refine wpAny_bind (z0x (j1.extBut b1.extBut D.i1z) (t1.extBut b1.extBut D.l1z) hx fun q2 j12 b2 => wpAny_pure ?_)
    have gO2 : IsPair q2 TO a b := b2.extBut _ _ D.TOi1 (b1.extBut _ _ D.TOz gO)
    refine wpAny_bind (wpAny_seqItems gO2 rfl ?_)
    refine wpAny_bind (wpAny_updateSeq_pair gO2 fun q3 gO3 b3 => ?_)
    refine wpAny_bind (wpAny_letGo (wpAny_pure ?_))
    refine wpAny_bind (wpAny_bind (wpAny_onRaise ?_))
    show wpAny _ _ (Builtin.SmallTypes.nextOf (.ref i2) >>= _) _ _ _
    refine wpAny_bind (z27 hh (((j2.extBut b1.extBut D.i2z).extBut b2.extBut D.i12.symm).extBut b3.extBut D.TOi2.symm) (((t2.extBut b1.extBut D.l2z).extBut b2.extBut D.l2i1).extBut b3.extBut D.l2TO) hy fun q4 e b4 he => ?_)
    obtain ⟨oe, ge, ce⟩ := he
    have gz4 : IsZip q4 z TI TO .ellipsis := b4 _ _ D.i2z.symm (b3.extBut _ _ D.TOz.symm (b2.extBut _ _ D.i1z.symm gz1))
    have ez : e ≠ z := fun p => by subst p; rw [gz4] at ge; cases ge; simp at ce
    refine wpAny_setField_rec gz4 (by simp) fun q5 _ b5 => kE q5 e (fun c o c1 c2 c3 c4 p => b5.extBut _ _ c1 (b4 _ _ c4 (b3.extBut _ _ c2 (b2.extBut _ _ c3 (b1.extBut _ _ c1 p))))) ⟨oe, b5.extBut _ _ ez ge, ce⟩
theorem z5n {z TI TO i1 i2 l1 l2 : Addr} {k1 k2 : Nat} {xs ys : Array Value} {x y a b : Value} {Q : Option Value -> Shared -> Prop} (D : ZipApart z TI TO i1 i2 l1 l2)
    (gz : IsZip s.heap z TI TO .none) (gI : IsPair s.heap TI (.ref i1) (.ref i2)) (gO : IsPair s.heap TO a b)
    (j1 : s.heap.IsTupleIter i1 l1 k1) (j2 : s.heap.IsTupleIter i2 l2 k2) (t1 : s.heap.IsTuple l1 xs) (t2 : s.heap.IsTuple l2 ys) (hx : xs[k1]? = some x) (hy : ys[k2]? = some y)
    (k : ∀ h', IsZip h' z TI TO (rawInt s.heap.objs.size) -> IsPair h' TO x y -> h'.IsTupleIter i1 l1 (k1 + 1) -> h'.IsTupleIter i2 l2 (k2 + 1) -> IsPair h' s.heap.objs.size x y -> h'.objs.size = s.heap.objs.size + 1 ->
      (∀ c o, c ≠ z -> c ≠ TO -> c ≠ i1 -> c ≠ i2 -> s.heap.get? c = some o -> h'.get? c = some o) -> Q (some (.ref s.heap.objs.size)) { s with heap := h' }) :
    wpAny (model prog w) A (pyNext (.ref z)) Q E s := by
  have ty : s.TypeIs (.ref z) "zip" := ⟨_, gz, rfl⟩
  unfold pyNext
  exact wpAny_bind (wpAny_attempt (wpAny_callSpecial?_slot (name := Str.ofString "__next__") ty F.slot_zip_next (wpAny_call_entry F.slot_zip_next ty F.entry_zip_next
    (z5m D gz gI gO j1 j2 t1 t2 hx hy fun h' a1 a2 a3 a4 a5 a6 a7 => wpAny_pure (k h' a1 a2 a3 a4 a5 a6 a7)) (F.args_zip_next_1 _))))
theorem z5o {z TI TO i1 i2 l1 l2 : Addr} {k1 k2 : Nat} {xs ys : Array Value} {a b : Value} {Q : Option Value -> Shared -> Prop} (hh : A.handled = none) (D : ZipApart z TI TO i1 i2 l1 l2)
    (gz : IsZip s.heap z TI TO .none) (gI : IsPair s.heap TI (.ref i1) (.ref i2)) (gO : IsPair s.heap TO a b)
    (j1 : s.heap.IsTupleIter i1 l1 k1) (j2 : s.heap.IsTupleIter i2 l2 k2) (t1 : s.heap.IsTuple l1 xs) (t2 : s.heap.IsTuple l2 ys) (hend : xs[k1]? = none \/ ys[k2]? = none)
    (k : ∀ h', (∀ c o, c ≠ z -> c ≠ TO -> c ≠ i1 -> c ≠ i2 -> s.heap.get? c = some o -> h'.get? c = some o) -> Q none { s with heap := h' }) : wpAny (model prog w) A (pyNext (.ref z)) Q E s := by
  have ty : s.TypeIs (.ref z) "zip" := ⟨_, gz, rfl⟩
  unfold pyNext
  refine wpAny_bind (wpAny_attempt (wpAny_callSpecial?_slot (name := Str.ofString "__next__") ty F.slot_zip_next (wpAny_call_entry F.slot_zip_next ty F.entry_zip_next
    (z6t hh D gz gI gO j1 j2 t1 t2 hend fun h' e kk he => ?_) (F.args_zip_next_1 _))))
  obtain ⟨o, ho, hc⟩ := he
  refine wpAny_bind (wpAny_isInstance (T := "StopIteration") (b := true) ⟨o, ho, hc⟩ isSubtype_stop ?_)
  exact wpAny_pure (k _ kk)
abbrev zt1 (h : Heap) (l1 : Addr) : Heap := h.push { cls := .type "tuple_iterator", data := .fields #[.ref l1, .int 0 0] }
abbrev zt2 (h : Heap) (l1 l2 : Addr) : Heap := (zt1 h l1).push { cls := .type "tuple_iterator", data := .fields #[.ref l2, .int 0 0] }
abbrev zt3 (h : Heap) (l1 l2 : Addr) : Heap := (zt2 h l1 l2).push { cls := .type "tuple", data := .seq #[.ref h.objs.size, .ref (zt1 h l1).objs.size] }
abbrev zt4 (h : Heap) (l1 l2 : Addr) : Heap := (zt3 h l1 l2).push { cls := .type "tuple", data := .seq #[.none, .none] }
abbrev zt5 (h : Heap) (l1 l2 : Addr) : Heap := (zt4 h l1 l2).push { cls := .type "zip", data := .fields #[.none, .bool false, .bool false, .ref (zt2 h l1 l2).objs.size, .ref (zt3 h l1 l2).objs.size] }
theorem z4l (l1 l2 : Addr) (xs ys : Array Value) :
    Meets (Builtin.«zip.__new__» ⟨[.type "zip", .ref l1, .ref l2], []⟩) (fun _ R s => s.heap.IsTuple l1 xs /\ s.heap.IsTuple l2 ys /\ R (.ok (.ret (.ref (zt4 s.heap l1 l2).objs.size))) { s with heap := zt5 s.heap l1 l2 }) :=
  .of_wp fun prog w A R s h => by
    obtain ⟨hp, g, d, tk, os⟩ := s
    obtain ⟨t1, t2, h⟩ := h
    have hsub := sub_zip
    have hL1 : Heap.IsTuple (Shared.heap ⟨hp, g, d, tk, os⟩) l1 xs := t1
    have hL2 : Heap.IsTuple (Shared.heap ⟨hp.push { cls := .type "tuple_iterator", data := .fields #[.ref l1, .int 0 0] }, g, d, tk, os⟩) l2 ys := t2.at fun o e => Heap.get?_push_of_some _ e
    wp_walk using wpAny_pyIter_tuple hL1, wpAny_pyIter_tuple hL2
    exact ⟨_, rfl, h⟩
theorem z5p {l1 l2 : Addr} {xs ys : Array Value} {Q : Value -> Shared -> Prop} (t1 : s.heap.IsTuple l1 xs) (t2 : s.heap.IsTuple l2 ys)
    (h : ∀ h', IsZip h' (s.heap.objs.size + 4) (s.heap.objs.size + 2) (s.heap.objs.size + 3) .none -> IsPair h' (s.heap.objs.size + 2) (.ref s.heap.objs.size) (.ref (s.heap.objs.size + 1)) ->
      IsPair h' (s.heap.objs.size + 3) .none .none -> h'.IsTupleIter s.heap.objs.size l1 0 -> h'.IsTupleIter (s.heap.objs.size + 1) l2 0 -> h'.objs.size = s.heap.objs.size + 5 ->
      (∀ c o, s.heap.get? c = some o -> h'.get? c = some o) -> Q (.ref (s.heap.objs.size + 4)) { s with heap := h' }) :
    wpAny (model prog w) A (call (.type "zip") [.ref l1, .ref l2]) Q E s := by
  refine callType_new F.called_zip (by decide) (F.typeCall_zip_2 _ _) (F.newCall_zip_2 _ _) (fun obj => F.args_object_init_3 obj _ _) F.entry_zip_new (z4l l1 l2 xs ys) ⟨t1, t2, ?_⟩
  have z1 : (zt1 s.heap l1).objs.size = s.heap.objs.size + 1 := Heap.size_push ..
  have z2 : (zt2 s.heap l1 l2).objs.size = s.heap.objs.size + 2 := by rw [Heap.size_push, z1]
  have z3 : (zt3 s.heap l1 l2).objs.size = s.heap.objs.size + 3 := by rw [Heap.size_push, z2]
  have z4 : (zt4 s.heap l1 l2).objs.size = s.heap.objs.size + 4 := by rw [Heap.size_push, z3]
  have z5 : (zt5 s.heap l1 l2).objs.size = s.heap.objs.size + 5 := by rw [Heap.size_push, z4]
  have g5 : (zt5 s.heap l1 l2).get? (zt4 s.heap l1 l2).objs.size = some _ := Heap.get?_push_size _ rfl
  have g4 : (zt5 s.heap l1 l2).get? (zt3 s.heap l1 l2).objs.size = some _ := Heap.get?_push_of_some _ (Heap.get?_push_size _ rfl)
  have g3 : (zt5 s.heap l1 l2).get? (zt2 s.heap l1 l2).objs.size = some _ := Heap.get?_push_of_some _ (Heap.get?_push_of_some _ (Heap.get?_push_size _ rfl))
  have g2 : (zt5 s.heap l1 l2).get? (zt1 s.heap l1).objs.size = some _ := Heap.get?_push_of_some _ (Heap.get?_push_of_some _ (Heap.get?_push_of_some _ (Heap.get?_push_size _ rfl)))
  have g1 : (zt5 s.heap l1 l2).get? s.heap.objs.size = some _ := Heap.get?_push_of_some _ (Heap.get?_push_of_some _ (Heap.get?_push_of_some _ (Heap.get?_push_of_some _ (Heap.get?_push_size _ rfl))))
  show _ /\ _
  rw [z2, z3, z4] at g5
  rw [z1, z2] at g3
  rw [z3] at g4
  rw [z1] at g2
  rw [z4]
  exact ⟨⟨_, g5, rfl⟩, h _ g5 g3 g4 ⟨_, g1, rfl, rfl⟩ ⟨_, g2, rfl, rfl⟩ z5 fun c o p => Heap.get?_push_of_some _ (Heap.get?_push_of_some _ (Heap.get?_push_of_some _ (Heap.get?_push_of_some _ (Heap.get?_push_of_some _ p))))⟩
end
def Itz (K : PySem.W.Frag) (a b : Addr) (xs ys : List V) : It :=
  ⟨fun i H => SqT K H a xs /\ SqT K H b ys /\ i < xs.length /\ i < ys.length, fun i H x H' => ∃ T u v, H T = none /\ x = .ref T /\ H' = upd H T (.tup [u, v]) /\ xs[i]? = some u /\ ys[i]? = some v,
    fun i H => SqT K H a xs /\ SqT K H b ys /\ (xs.length <= i \/ ys.length <= i)⟩
theorem z5q {P : Program} {w : World} {K : PySem.W.Frag} {es : List Expr} {k : Nat} {pos : Pos} (z TI TO i1 i2 a b : Addr) (xs ys : List V) (D : ZipApart z TI TO i1 i2 a b) :
    Turn P w K (.Tuple es k pos) (Itz K a b xs ys) [z, TI, TO, i1, i2] z (fun i h => IsZip h z TI TO .none /\ IsPair h TI (.ref i1) (.ref i2) /\ (∃ u v, IsPair h TO u v) /\ h.IsTupleIter i1 a i /\ h.IsTupleIter i2 b i) where
  mem := List.mem_cons_self
  obj := fun i h st c hc => by
    obtain ⟨gz, gI, ⟨u, v, gO⟩, ⟨o1, e1, c1, d1⟩, ⟨o2, e2, c2, d2⟩⟩ := st
    simp only [List.mem_cons, List.mem_nil_iff, or_false] at hc
    rcases hc with rfl | rfl | rfl | rfl | rfl
    . exact ⟨_, gz, fun v q => by cases q⟩
    . exact ⟨_, gI, fun v q => by cases q⟩
    . exact ⟨_, gO, fun v q => by cases q⟩
    . exact ⟨o1, e1, fun v q => by rw [d1] at q; cases q⟩
    . exact ⟨o2, e2, fun v q => by rw [d2] at q; cases q⟩
  keep := fun i h h' st kk => by
    obtain ⟨gz, gI, ⟨u, v, gO⟩, j1, j2⟩ := st
    exact ⟨kk z (by simp) _ gz, kk TI (by simp) _ gI, ⟨u, v, kk TO (by simp) _ gO⟩, j1.at fun o e => kk i1 (by simp) o e, j2.at fun o e => kk i2 (by simp) o e⟩
  item := by
    intro X hP hw hK hc i pins s σ H E I hf st hg
    subst hP hw hK
    obtain ⟨ha, hb, hi, hj⟩ := hg
    obtain ⟨gz, gI, ⟨p, q, gO⟩, j1, j2⟩ := st
    obtain ⟨its1, rv1, t1, _⟩ := I.tuple ha
    obtain ⟨its2, rv2, t2, _⟩ := I.tuple hb
    have hx : xs[i]? = some xs[i] := List.getElem?_eq_getElem hi
    have hy : ys[i]? = some ys[i] := List.getElem?_eq_getElem hj
    obtain ⟨u, hu, ru⟩ := rv1.get hx
    obtain ⟨v, hv, rv⟩ := rv2.get hy
    have nT : H s.heap.objs.size = none := I.hok.fresh (Nat.le_refl _)
    have F0 : ∀ c ∈ [z, TI, TO, i1, i2], H c = none := fun c hc' => (hf c hc').1
    refine z5n D gz gI gO j1 j2 (show s.heap.IsTuple a its1.toArray from t1) (show s.heap.IsTuple b its2.toArray from t2) (x := u) (y := v) (by simpa using hu) (by simpa using hv) fun h' a1 a2 a3 a4 a5 a6 a7 => ?_
    refine ⟨.ref s.heap.objs.size, rfl, wpAny_letOwnedTupleGo_zip a1 fun h'' gz'' sb => ?_⟩
    have lt : ∀ {c o}, s.heap.get? c = some o -> c ≠ s.heap.objs.size := fun e => Nat.ne_of_lt (Heap.lt_size e)
    have kk : ∀ c o, c ∉ [z, TO, i1, i2] -> s.heap.get? c = some o -> h''.get? c = some o := fun c o hc' e => by
      simp only [List.mem_cons, List.mem_nil_iff, or_false, not_or] at hc'
      exact (sb.2 c hc'.1).trans (a7 c o hc'.1 hc'.2.1 hc'.2.2.1 hc'.2.2.2 e)
    have gT : IsPair h'' s.heap.objs.size u v := (sb.2 _ (Ne.symm (lt gz))).trans a5
    have nb : ∀ c y, H c = some y -> c ∉ [z, TO, i1, i2] := fun c y e hc' => by
      have := F0 c (by simp only [List.mem_cons, List.mem_nil_iff, or_false] at hc' ⊢; rcases hc' with h | h | h | h <;> simp [h])
      rw [this] at e
      cases e
    have sub : ∀ c, c ∈ [z, TO, i1, i2] -> c ∈ [z, TI, TO, i1, i2] := fun c hc' => by
      simp only [List.mem_cons, List.mem_nil_iff, or_false] at hc' ⊢
      rcases hc' with h | h | h | h <;> simp [h]
    have I1 : Inv X pins σ (upd H s.heap.objs.size (.tup [xs[i], ys[i]])) { s with heap := h'', toks := s.toks } := by
      refine I.step (g' := s.gens) (d' := s.drawn) (ch := [z, TO, i1, i2]) (fun c hc' => ?_) (fun c o _ _ hc' e _ => kk c o hc' e) (fun c o _ _ hc' e _ => ⟨o.slots, kk c o hc' e⟩) (fun c o _ e n => ?_)
        (fun c o hc' e => ⟨o, kk c o hc' e⟩) (fun c zs e => ?_) (fun c ob y e => ?_) (fun c ps e => ⟨#[], ?_⟩) (fun m hm => ?_) (fun c y e => ?_) I.bare
      . obtain ⟨_, f1, _, f3, f4, f5⟩ := hf c (sub c hc')
        exact ⟨f3, f1, f4, f5⟩
      . rw [z06 (lt e)]
        exact n
      . rw [z06 (z08 e nT)]
        exact e
      . rw [z06 (z08 e nT)]
        exact e
      . rw [z06 (z08 e nT), e]
        simp
      . obtain ⟨o, es', ep, ho', r⟩ := hm
        refine ⟨o, es', ep, kk _ o (fun hc' => ?_) ho', r⟩
        exact (hf _ (sub _ hc')).2.1 rfl
      . by_cases hb' : c = s.heap.objs.size
        . subst hb'
          rw [upd_same] at e
          cases e
          exact ⟨by show 2 <= sizeLine; decide, [u, v], .cons ru (.cons rv .nil), _, gT, rfl, _, rfl⟩
        . rw [z06 hb'] at e
          refine (I.hok c y e).stay (fun d o hd e' => ?_) (fun d e' => by rw [z06 (z08 e' nT)]; exact e') fun d zs e' => by rw [z06 (z08 e' nT)]; exact e'
          rcases hd with h | h
          . subst h
            exact kk d o (nb d y e) e'
          . exact kk d o (nb d _ h) e'
    refine ⟨.ref s.heap.objs.size, _, I1, rfl, ⟨_, xs[i], ys[i], nT, rfl, rfl, hx, hy⟩, ⟨gz'', (sb.2 _ D.TIz).trans (a7 _ _ D.TIz D.TITO D.TIi1 D.TIi2 gI), ⟨_, _, (sb.2 _ D.TOz).trans a2⟩, a3.at fun o e => (sb.2 _ D.i1z).trans e, a4.at fun o e => (sb.2 _ D.i2z).trans e⟩, fun c hc' => ?_⟩
    rw [z06]
    . exact F0 c hc'
    . simp only [List.mem_cons, List.mem_nil_iff, or_false] at hc'
      rcases hc' with rfl | rfl | rfl | rfl | rfl
      . exact lt gz
      . exact lt gI
      . exact lt gO
      . obtain ⟨_, e, _⟩ := j1; exact lt e
      . obtain ⟨_, e, _⟩ := j2; exact lt e
  done := by
    intro X hP hw hK hc i pins s σ H E I hf st hg
    subst hP hw hK
    obtain ⟨ha, hb, hend⟩ := hg
    obtain ⟨gz, gI, ⟨p, q, gO⟩, j1, j2⟩ := st
    obtain ⟨its1, rv1, t1, _⟩ := I.tuple ha
    obtain ⟨its2, rv2, t2, _⟩ := I.tuple hb
    have l1 := rv1.length
    have l2 := rv2.length
    have hend' : its1.toArray[i]? = none \/ its2.toArray[i]? = none := by
      rcases hend with h | h
      . exact .inl (by rw [List.getElem?_toArray]; exact List.getElem?_eq_none (by omega))
      . exact .inr (by rw [List.getElem?_toArray]; exact List.getElem?_eq_none (by omega))
    have sub : ∀ c, c ∈ [z, TO, i1, i2] -> c ∈ [z, TI, TO, i1, i2] := fun c hc' => by
      simp only [List.mem_cons, List.mem_nil_iff, or_false] at hc' ⊢
      rcases hc' with h | h | h | h <;> simp [h]
    have nb : ∀ c y, H c = some y -> c ∉ [z, TO, i1, i2] := fun c y e hc' => by
      rw [(hf c (sub c hc')).1] at e
      cases e
    refine z5o (I.ok.hd hc) D gz gI gO j1 j2 (show s.heap.IsTuple a its1.toArray from t1) (show s.heap.IsTuple b its2.toArray from t2) hend' fun h' a7 => ⟨rfl, ?_⟩
    have kk : ∀ c o, c ∉ [z, TO, i1, i2] -> s.heap.get? c = some o -> h'.get? c = some o := fun c o hc' e => by
      simp only [List.mem_cons, List.mem_nil_iff, or_false, not_or] at hc'
      exact a7 c o hc'.1 hc'.2.1 hc'.2.2.1 hc'.2.2.2 e
    refine I.step (t' := s.toks) (g' := s.gens) (d' := s.drawn) (ch := [z, TO, i1, i2]) (fun c hc' => ?_) (fun c o _ _ hc' e _ => kk c o hc' e) (fun c o _ _ hc' e _ => ⟨o.slots, kk c o hc' e⟩) (fun c o _ e n => n)
      (fun c o hc' e => ⟨o, kk c o hc' e⟩) (fun c zs e => e) (fun c ob y e => e) (fun c ps e => ⟨#[], by rw [e]; simp⟩) (fun m hm => ?_) (fun c y e => ?_) I.bare
    . obtain ⟨_, f1, _, f3, f4, f5⟩ := hf c (sub c hc')
      exact ⟨f3, f1, f4, f5⟩
    . obtain ⟨o, es', ep, ho', r⟩ := hm
      exact ⟨o, es', ep, kk _ o (fun hc' => (hf _ (sub _ hc')).2.1 rfl) ho', r⟩
    . refine (I.hok c y e).stay (fun d o hd e' => ?_) (fun d e' => e') fun d zs e' => e'
      rcases hd with h | h
      . subst h
        exact kk d o (nb d y e) e'
      . exact kk d o (nb d _ h) e'
  self := fun _ _ _ _ _ st h => wpAny_pyIter_zip st.1 h
section
variable {X : Cx}
def zBS (K : PySem.W.Frag) (ta : TA) : TI := fun σ H R => ta σ H fun vs H1 => ∃ a b xs ys, vs = [.ref a, .ref b] /\ SqT K H1 a xs /\ SqT K H1 b ys /\ R (Itz K a b xs ys) H1
theorem z8o {l1 l2 : Expr} {ta : TA} {p pos : Pos} {es : List Expr} {k : Nat} {tp : Pos} (hg : Gl X "zip") (hm : X.mg "zip" = none) (ha : PA X [l1, l2] ta) (hs : starEach [l1, l2] X.env = [(false, eval l1 X.env), (false, eval l2 X.env)] := by rfl) (hs2 : starEach [l2] X.env = [(false, eval l2 X.env)] := by rfl) :
    PI X (.Tuple es k tp) (.Call (.Name "zip" p) [l1, l2] [] pos) (zBS X.K ta) := by
  intro pins s σ H R I h
  refine Call_ (z1X I hg hm boot_zip (PyProof.Rows.callWith_type1 (thn (ha pos pins s σ H _ I h) fun us s1 ⟨vs, H1, I1, r1, q1⟩ => ?_) (by rw [hs, hs2]) (by rw [hs2]; rfl)))
  obtain ⟨a, b, xs, ys, e, ta', tb', q⟩ := q1
  subst e
  obtain ⟨u, v, rfl, ru, rv⟩ := vals2 r1
  cases (show u = Value.ref a from ru)
  cases (show v = Value.ref b from rv)
  obtain ⟨its1, rv1, t1, _⟩ := I1.tuple ta'
  obtain ⟨its2, rv2, t2, _⟩ := I1.tuple tb'
  have la : a < s1.heap.objs.size := by obtain ⟨_, e, _⟩ := t1; exact Heap.lt_size e
  have lb : b < s1.heap.objs.size := by obtain ⟨_, e, _⟩ := t2; exact Heap.lt_size e
  refine z5p (show s1.heap.IsTuple a its1.toArray from t1) (show s1.heap.IsTuple b its2.toArray from t2) fun h' a1 a2 a3 a4 a5 a6 a7 => ?_
  refine wpAny_pyIter_zip (s := { s1 with heap := h' }) a1 ?_
  refine ⟨s1.heap.objs.size + 4, [s1.heap.objs.size + 4, s1.heap.objs.size + 2, s1.heap.objs.size + 3, s1.heap.objs.size, s1.heap.objs.size + 1], _, _, H1, rfl, I1.kept (t' := s1.toks) a7,
    z5q _ _ _ _ _ a b xs ys (zipApart_new la lb), ⟨a1, a2, ⟨_, _, a3⟩, a4, a5⟩, fun c hc => ?_, q⟩
  have ge : s1.heap.objs.size <= c := by
    simp only [List.mem_cons, List.mem_nil_iff, or_false] at hc
    rcases hc with e | e | e | e | e <;> rw [e]
    . exact Nat.le_add_right _ _
    . exact Nat.le_add_right _ _
    . exact Nat.le_add_right _ _
    . exact Nat.le_refl _
    . exact Nat.le_add_right _ _
  exact I1.fpOk ge (I1.hok.fresh ge)
end
def z6u (sc dsc : Scope) (N : List Str) (ix : List Nat) : Bool :=
  sc.kind == .function && sc.names.all (fun y => y.2 != .cell) && sc.names.all (fun y => y.2 != .free || dsc.names.lookup y.1 == some .cell || dsc.names.lookup y.1 == some .free) &&
    sc.names.all (fun y => y.2 != .local || sc.names.lookup y.1 == some .local) && ix.all (fun i => match N[i]? with | some x => sc.names.lookup x == some .free | none => false)
theorem BlkSc.look {X : Cx} {sc dsc : Scope} {locs N : List Str} {ix : List Nat} (hs : X.env.scope = dsc) (hN : X.N = N) (c : z6u sc dsc N ix = true) : BlkSc X sc locs ix := by
  unfold z6u at c
  rw [Bool.and_eq_true, Bool.and_eq_true, Bool.and_eq_true, Bool.and_eq_true] at c
  obtain ⟨⟨⟨⟨c1, c2⟩, c3⟩, c4⟩, c5⟩ := c
  refine ⟨by simpa using c1, fun y hy => ?_, fun y hy hk => ?_, fun y hy hk => ?_, fun i hi => ?_⟩
  . simpa using List.all_eq_true.mp c2 y hy
  . have q := List.all_eq_true.mp c3 y hy
    have z : X.env.kindOf y.1 = dsc.names.lookup y.1 := by rw [<- hs]; rfl
    rw [z]
    rw [hk] at q
    simpa using q
  . have q := List.all_eq_true.mp c4 y hy
    rw [hk] at q
    simpa using q
  . have q := List.all_eq_true.mp c5 i hi
    rw [hN]
    cases hx : N[i]? with
    | none => rw [hx] at q; cases q
    | some x =>
      rw [hx] at q
      exact ⟨x, rfl, by simpa using q⟩
section
variable {X : Cx} {sc : Scope} {cl : List (Str × Addr)} {C : Addr} {N : List Str} {fp : List Addr} {s2 : Shared} {H2 : Hp} {pn : List (Addr × Obj)}
theorem z1U : IxR (cxC X sc cl C N fp s2 H2 pn) (z9I X.K) := z0P
theorem z1F : IxR (cxC X sc cl C N fp s2 H2 pn) (z9J X.K) := z0J
theorem z5r : CallR (cxC X sc cl C N fp s2 H2 pn) (.builtin "len") (fun xs H Q => ∃ p ys, xs = [.ref p] /\ (SqL X.K H p ys \/ SqT X.K H p ys) /\ Q (.int ys.length) H) := z0E
theorem z3q {es : List Expr} {k n : Nat} {t : TGs} {pos : Pos} (hc : X.calm = true) (h : PGs (cxC X sc cl C N fp s2 H2 pn) es t)
    (hn : (assignEach es (cxC X sc cl C N fp s2 H2 pn).env).length = n := by rfl) (hst : (assignEach es (cxC X sc cl C N fp s2 H2 pn).env).findIdx? (·.1) = none := by rfl) :
    PG (cxC X sc cl C N fp s2 H2 pn) (.Tuple es k pos) (zAQ X.K n t) := z5H hc h hn hst
end
theorem z0v {J : It} {n : Nat} {g : TG} {te : TE} {σ0 : St} {H1 : Hp} {Fin : List V -> Hp -> Prop} (Pv : Nat -> St -> List V -> Hp -> Prop) (h0 : Pv 0 σ0 [] H1) (hn : n <= sizeLine) (len : ∀ i σ ys H, Pv i σ ys H -> ys.length = i)
    (stop : ∀ σ ys H, Pv n σ ys H -> J.stop n H) (go : ∀ i σ ys H, i < n -> Pv i σ ys H -> J.go i H)
    (hs : ∀ i σ ys H x H' (Z : St -> List V -> Hp -> Prop), i < n -> Pv i σ ys H -> J.yld i H x H' -> (∀ σ' ys' H', Pv (i + 1) σ' ys' H' -> Z σ' ys' H') -> g x σ H' fun σ2 H2 => te σ2 H2 fun y H3 => Z σ2 (ys ++ [y]) H3) (hd : ∀ σ ys H, Pv n σ ys H -> Fin ys H) :
    ∃ W : Nat -> Nat -> St -> List V -> Hp -> Prop, (∃ m, W 0 m σ0 [] H1) /\ z4k J g zAd te Fin W := by
  refine ⟨fun i m σ ys H => m = n - i /\ i <= n /\ Pv i σ ys H, ⟨n, rfl, Nat.zero_le _, h0⟩, ?_⟩
  rintro i m σ ys H ⟨rfl, hi, p⟩
  by_cases hlt : i < n
  . refine .inr ⟨go i σ ys H hlt p, by rw [len i σ ys H p]; omega, fun x H' y => ?_⟩
    have q := hs i σ ys H x H' (fun σ2 ys2 H3 => ∃ m', m' < n - i /\ m' = n - (i + 1) /\ i + 1 <= n /\ Pv (i + 1) σ2 ys2 H3) hlt p y fun σ' ys' H'' p' => ⟨n - (i + 1), by omega, rfl, hlt, p'⟩
    exact q
  . have e : i = n := by omega
    subst e
    exact .inl ⟨stop σ ys H p, by rw [len i σ ys H p]; exact hn, hd σ ys H p⟩
def Alk : Nat -> Hp -> V -> V -> Prop
  | 0, _, _, _ => False
  | n + 1, H, x, y => (x = y /\ (x = .non \/ (∃ b, x = .bl b) \/ (∃ i, x = .int i) \/ ∃ z, x = .str z)) \/
      ∃ a b xs ys, x = .ref a /\ y = .ref b /\ ((H a = some (.lst xs) /\ H b = some (.lst ys)) \/ (H a = some (.tup xs) /\ H b = some (.tup ys))) /\ xs.length <= 1000000 /\ xs.length = ys.length /\ ∀ (i : Nat) u v, xs[i]? = some u -> ys[i]? = some v -> Alk n H u v
theorem Alk.mono {H H' : Hp} (s : Same H H') : ∀ {n : Nat} {x y : V}, Alk n H x y -> Alk n H' x y
  | 0, _, _, h => h.elim
  | n + 1, _, _, h => by
    rcases h with h | ⟨a, b, xs, ys, e1, e2, e3, e4, e5, e6⟩
    . exact .inl h
    . refine .inr ⟨a, b, xs, ys, e1, e2, ?_, e4, e5, fun i u v h1 h2 => (e6 i u v h1 h2).mono s⟩
      rcases e3 with ⟨p, q⟩ | ⟨p, q⟩
      . exact .inl ⟨s _ _ p, s _ _ q⟩
      . exact .inr ⟨s _ _ p, s _ _ q⟩
theorem Alk.up {H : Hp} : ∀ {n m : Nat} {x y : V}, n <= m -> Alk n H x y -> Alk m H x y
  | 0, _, _, _, _, h => h.elim
  | n + 1, 0, _, _, hm, _ => absurd hm (Nat.not_succ_le_zero _)
  | n + 1, m + 1, _, _, hm, h => by
    rcases h with h | ⟨a, b, xs, ys, e1, e2, e3, e4, e5, e6⟩
    . exact .inl h
    . exact .inr ⟨a, b, xs, ys, e1, e2, e3, e4, e5, fun i u v h1 h2 => (e6 i u v h1 h2).up (Nat.le_of_succ_le_succ hm)⟩
theorem Alk.int {n : Nat} {H : Hp} (i : Int) : Alk (n + 1) H (.int i) (.int i) := .inl ⟨rfl, .inr (.inr (.inl ⟨i, rfl⟩))⟩
theorem Alk.non {n : Nat} {H : Hp} : Alk (n + 1) H .non .non := .inl ⟨rfl, .inl rfl⟩
theorem Alk.bl {n : Nat} {H : Hp} (b : Bool) : Alk (n + 1) H (.bl b) (.bl b) := .inl ⟨rfl, .inr (.inl ⟨b, rfl⟩)⟩
theorem Alk.ints {n : Nat} {H : Hp} {a b : Addr} {zs ws : List Int} (h1 : H a = some (.lst (zs.map V.int))) (h2 : H b = some (.lst (ws.map V.int))) (e : zs = ws) (hl : zs.length <= 1000000) : Alk (n + 2) H (.ref a) (.ref b) := by
  subst e
  refine .inr ⟨a, b, _, _, rfl, rfl, .inl ⟨h1, h2⟩, by rw [List.length_map]; exact hl, rfl, fun i u v hu hv => ?_⟩
  rw [hu] at hv
  cases hv
  obtain ⟨z, rfl⟩ := z6p (List.mem_of_getElem? hu)
  exact Alk.int z
def z9t (n : Nat) : Sp := fun vs H Q _ => ∃ x y, vs = [x, y] /\ Alk n H x y /\ ∀ H', Same H H' -> Q (.bl true) H'
structure BltA (mg : Str -> Option Value) : Prop where
  isi : mg "isinstance" = none
  tup : mg "tuple" = none
  lst : mg "list" = none
  boo : mg "bool" = none
  str : mg "str" = none
  int : mg "int" = none
  len : mg "len" = none
  all : mg "all" = none
  rng : mg "range" = none
end L2
namespace G
open PySem
def z05 : List (Option Int) -> Int
  | [] => 0
  | c :: r => c.getD 0 + 16 * z05 r
def z09 : List (Option Int) -> Int
  | [] => 0
  | c :: r => (if c.isSome = true then 1 else 0) + 2 * z09 r
def Cell (c : Option Int) : Prop := ∀ z, c = some z -> 0 <= z /\ z <= 15
def Cells (r : List (Option Int)) : Prop := ∀ c ∈ r, Cell c
theorem Cells.tail {c : Option Int} {r : List (Option Int)} (h : Cells (c :: r)) : Cells r := fun d hd => h d (List.mem_cons_of_mem _ hd)
theorem Cell.get {c : Option Int} (h : Cell c) : 0 <= c.getD 0 /\ c.getD 0 <= 15 := by
  cases c with
  | none => exact ⟨by decide, by decide⟩
  | some z => exact h z rfl
theorem z2t (n : Nat) : (16 : Int) ^ (n + 1) = 16 * 16 ^ n := by rw [Int.pow_succ, Int.mul_comm]
theorem z5s (n : Nat) : (2 : Int) ^ (n + 1) = 2 * 2 ^ n := by rw [Int.pow_succ, Int.mul_comm]
theorem z3J : ∀ n : Nat, (0 : Int) < 16 ^ n
  | 0 => by decide
  | n + 1 => by have := z3J n; rw [z2t]; omega
theorem z1i : ∀ n : Nat, (0 : Int) < 2 ^ n
  | 0 => by decide
  | n + 1 => by have := z1i n; rw [z5s]; omega
theorem z1j : ∀ {r : List (Option Int)}, Cells r -> 0 <= z05 r /\ z05 r < 16 ^ r.length
  | [], _ => ⟨by decide, by decide⟩
  | c :: r, h => by
    have ih := z1j h.tail
    have hc := (h c List.mem_cons_self).get
    show 0 <= c.getD 0 + 16 * z05 r /\ c.getD 0 + 16 * z05 r < 16 ^ (r.length + 1)
    rw [z2t]
    omega
theorem z1b : ∀ (r : List (Option Int)), 0 <= z09 r /\ z09 r < 2 ^ r.length
  | [] => ⟨by decide, by decide⟩
  | c :: r => by
    have ih := z1b r
    show 0 <= (if c.isSome = true then 1 else 0) + 2 * z09 r /\ (if c.isSome = true then 1 else 0) + 2 * z09 r < (2 : Int) ^ (r.length + 1)
    rw [z5s]
    split <;> omega
theorem z2Y (c : Option Int) : ∀ r : List (Option Int), z05 (r ++ [c]) = z05 r + c.getD 0 * 16 ^ r.length
  | [] => by show c.getD 0 + 16 * 0 = 0 + c.getD 0 * 1; omega
  | d :: r => by
    have ih := z2Y c r
    show d.getD 0 + 16 * z05 (r ++ [c]) = d.getD 0 + 16 * z05 r + c.getD 0 * 16 ^ (r.length + 1)
    rw [ih, z2t, Int.mul_add, <- Int.mul_assoc, Int.mul_comm 16 (c.getD 0), Int.mul_assoc, Int.add_assoc]
theorem z3K (c : Option Int) : ∀ r : List (Option Int), z09 (r ++ [c]) = z09 r + (if c.isSome = true then 1 else 0) * 2 ^ r.length
  | [] => by show (if c.isSome = true then 1 else 0) + 2 * 0 = 0 + (if c.isSome = true then (1 : Int) else 0) * 1; omega
  | d :: r => by
    have ih := z3K c r
    show (if d.isSome = true then 1 else 0) + 2 * z09 (r ++ [c]) = (if d.isSome = true then 1 else 0) + 2 * z09 r + (if c.isSome = true then (1 : Int) else 0) * 2 ^ (r.length + 1)
    rw [ih, z5s, Int.mul_add, <- Int.mul_assoc, Int.mul_comm 2 (if c.isSome = true then (1 : Int) else 0), Int.mul_assoc, Int.add_assoc]
theorem z7u (a d k : Nat) (h : d < 2 ^ k) : (2 ^ k * a) &&& d = 0 := by
  have e1 : d &&& (2 ^ k - 1) = d := by rw [Nat.and_two_pow_sub_one_eq_mod, Nat.mod_eq_of_lt h]
  have e2 : (2 ^ k * a) &&& (2 ^ k - 1) = 0 := by rw [Nat.and_two_pow_sub_one_eq_mod, Nat.mul_mod_right]
  have f : (2 ^ k * a) &&& (d &&& (2 ^ k - 1)) = ((2 ^ k * a) &&& (2 ^ k - 1)) &&& d := by rw [Nat.and_comm d (2 ^ k - 1), Nat.and_assoc]
  rw [e1, e2, Nat.zero_and] at f
  exact f
theorem z2Z (k : Nat) : ((2 ^ k : Nat) : Int) = (2 : Int) ^ k := by
  induction k with
  | zero => rfl
  | succ k ih => rw [Nat.pow_succ, Int.natCast_mul, ih, Int.pow_succ]; rfl
theorem z3r {p c : Int} {k : Nat} (p0 : 0 <= p) (p1 : p < 2 ^ k) (c0 : 0 <= c) : Builtin.bitOr p (c * 2 ^ k) = p + c * 2 ^ k := by
  obtain ⟨P, rfl⟩ := Int.eq_ofNat_of_zero_le p0
  obtain ⟨C, rfl⟩ := Int.eq_ofNat_of_zero_le c0
  have e : ((C : Int) * 2 ^ k) = ((2 ^ k * C : Nat) : Int) := by rw [Int.natCast_mul, z2Z, Int.mul_comm]
  rw [e, PyProof.Rows.bitOr_and, PyProof.Rows.bitAnd_pp (Int.natCast_nonneg _) (Int.natCast_nonneg _), Int.toNat_natCast, Int.toNat_natCast]
  have hP : P < 2 ^ k := by
    rw [<- z2Z] at p1
    omega
  rw [Nat.and_comm, z7u C P k hP]
  omega
theorem z7M (x : Nat) : (2 : Int) ^ (4 * x) = 16 ^ x := by
  induction x with
  | zero => rfl
  | succ x ih =>
    rw [show 4 * (x + 1) = 4 * x + 1 + 1 + 1 + 1 by omega, z5s, z5s, z5s, z5s, ih, z2t]
    omega
def pc : Nat -> Nat
  | 0 => 0
  | n + 1 => (n + 1) % 2 + pc ((n + 1) / 2)
decreasing_by omega
def z7v : List (Option Int) -> Nat
  | [] => 0
  | c :: r => (if c.isSome = true then 1 else 0) + z7v r
end G
namespace L2
open PySem PySem.Spec PyProof.Rows G
def z0M : Option Int -> V
  | none => .non
  | some z => .int z
structure RowsAt (H : Hp) (l : Addr) (ps : List Addr) (rows : List (List (Option Int))) : Prop where
  lst : H l = some (.lst (ps.map V.ref))
  len : ps.length = rows.length
  row : ∀ (i : Nat) p r, ps[i]? = some p -> rows[i]? = some r -> H p = some (.lst (r.map z0M))
theorem RowsAt.mono {H H' : Hp} {l : Addr} {ps : List Addr} {rows : List (List (Option Int))} (s : Same H H') (h : RowsAt H l ps rows) : RowsAt H' l ps rows := ⟨s _ _ h.lst, h.len, fun i p r e1 e2 => s _ _ (h.row i p r e1 e2)⟩
structure Rect (w h : Nat) (rows : List (List (Option Int))) : Prop where
  len : rows.length = h
  h1 : 1 <= h
  h2 : h <= 64
  w1 : 1 <= w
  w2 : w <= 64
  row : ∀ r ∈ rows, r.length = w /\ Cells r
def PicAt (H : Hp) (p : Addr) (w : Nat) (rows : List (List (Option Int))) : Prop :=
  ∃ pp pm, H p = some (.tup [.int (w : Int), .int (rows.length : Int), .ref pp, .ref pm]) /\ H pp = some (.tup ((rows.map z05).map V.int)) /\ H pm = some (.tup ((rows.map z09).map V.int))
theorem PicAt.mono {H H' : Hp} {p : Addr} {w : Nat} {rows : List (List (Option Int))} (s : Same H H') (h : PicAt H p w rows) : PicAt H' p w rows := by
  obtain ⟨pp, pm, h1, h2, h3⟩ := h
  exact ⟨pp, pm, s _ _ h1, s _ _ h2, s _ _ h3⟩
theorem Alk.cell {n : Nat} {H : Hp} (c : Option Int) : Alk (n + 1) H (z0M c) (z0M c) := by
  cases c with
  | none => exact Alk.non
  | some z => exact Alk.int z
theorem z5t {ns : List Int} (h : 0 < ns.length) (k : Int) : ∃ z, atI (ns.map V.int) (k % ((ns.map V.int).length : Int)) = some (.int z) := by
  have e : ((ns.map V.int).length : Int) = (ns.length : Int) := by rw [List.length_map]
  rw [e]
  have h1 := Int.emod_nonneg k (show (ns.length : Int) ≠ 0 by omega)
  have h2 := Int.emod_lt_of_pos k (show (0 : Int) < ns.length by omega)
  have e2 : k % (ns.length : Int) = (((k % (ns.length : Int)).toNat : Nat) : Int) := by omega
  rw [e2]
  have hj : (k % (ns.length : Int)).toNat < ns.length := by omega
  refine ⟨ns[(k % (ns.length : Int)).toNat], z0y ?_⟩
  rw [List.getElem?_map, List.getElem?_eq_getElem hj]
  rfl
def look (w h : Nat) (rows : List (List (Option Int))) (x y : Int) : Option Int := if 0 <= x /\ x < w /\ 0 <= y /\ y < h then (rows.getD y.toNat []).getD x.toNat none else none
theorem z8p {zs : List Int} {y : Int} {z : Int} (h0 : 0 <= y) (h : zs[y.toNat]? = some z) : atI (zs.map V.int) y = some (.int z) := by
  have e : y = ((y.toNat : Nat) : Int) := by omega
  rw [e]
  exact z0y (by rw [List.getElem?_map, h]; rfl)
def z7N (K : PySem.W.Frag) : Sp := fun vs H Q _ => ∃ (a : Addr) (ns : List Int) (k m : Int), vs = [.ref a, .int k, .int m] /\ SqL K H a (ns.map V.int) /\ 0 <= k /\ k < 1000000 /\ 0 < m /\ ∀ r, 0 <= r -> r < m -> Q (.int r) H
def z9u (K : PySem.W.Frag) : Sp := fun vs H Q _ => ∃ (a : Addr) (ns : List Int) (k : Int), vs = [.ref a, .int k] /\ SqL K H a (ns.map V.int) /\ 0 <= k /\ k < 10000 /\ ∀ (w h : Int) p, 1 <= w -> w <= 64 -> 1 <= h -> h <= 64 -> H p = none -> Q (.ref p) (upd H p (.tup [.int w, .int h]))
def z5u (K : PySem.W.Frag) : Sp := fun vs H Q _ => ∃ (a : Addr) (ns : List Int) (k w h : Int), vs = [.ref a, .int k, .int w, .int h] /\ SqL K H a (ns.map V.int) /\ 0 <= k /\ k < 10000 /\ 1 <= w /\ w <= 64 /\ 1 <= h /\ h <= 64 /\
  ∀ l ps rows H', Same H H' -> H l = none -> (∀ p ∈ ps, H p = none) -> RowsAt H' l ps rows -> Rect w.toNat h.toNat rows -> Q (.ref l) H'
def z2u : Sp := fun vs H Q _ => ∃ l ps rows w h, vs = [.ref l] /\ RowsAt H l ps rows /\ Rect w h rows /\ ∀ p H', Same H H' -> PicAt H' p w rows -> Q (.ref p) H'
def zAe : Sp := fun vs H Q _ => ∃ p x y w h rows, vs = [.ref p, .int x, .int y] /\ PicAt H p w rows /\ Rect w h rows /\ Q (z0M (look w h rows x y)) H
def z5v : Sp := fun vs H Q _ => ∃ l r, vs = [.ref l] /\ H l = some (.lst (r.map z0M)) /\ Cells r /\ r.length <= 64 /\ ∀ H', Same H H' -> Q (.int (z05 r)) H'
def z7O : Sp := fun vs H Q _ => ∃ l r, vs = [.ref l] /\ H l = some (.lst (r.map z0M)) /\ Cells r /\ r.length <= 64 /\ ∀ H', Same H H' -> Q (.int (z09 r)) H'
theorem zBT (x : Int) : Builtin.bitAnd x 1 = x % 2 := bitAnd_m1 x
structure Ow (P : Program) (w : World) (K : PySem.W.Frag) (mg : Str -> Option Value) (base : Heap) (x : Str) (ps : List Str) (k : Nat) (sp : Sp) : Prop where
  ex : ∃ (f : Addr) (fd : FuncData), mg x = some (.ref f) /\ PySem.W.keepIn K (.ref f) = true /\ Binds K fd ps [] /\ FnOk P w K mg base CX0 k f fd ps sp
theorem Df.ow {P : Program} {w : World} {K : PySem.W.Frag} {mg : Str -> Option Value} {base : Heap} {x : Str} {st : Stmt} {ps : List Str} {f : Addr} {fd : FuncData} {k : Nat} {sp : Sp} (D : Df K mg x st ps f fd) (F : FnOk P w K mg base CX0 k f fd ps sp) :
    Ow P w K mg base x ps k sp := ⟨f, fd, D.m, D.F.kp, D.b, F⟩
section
variable {X : Cx} {k j : Nat} {ps : List Str} {sp : Sp} {x : Str} {p pos : Pos} {e : Expr} {es : List Expr} {t : TA}
theorem z0A (O : Ow X.prog X.w X.K X.mg X.base x ps k sp) (hr : Room j X.A) (hg : Gl X x) (ha : PA X (e :: es) t) (hk : k <= j := by decide) (hdb : (x == ("__debug__" : Str)) = false := by decide)
    (he : starEach (e :: es) X.env = (false, eval e X.env) :: starEach es X.env := by rfl) (hpl : (backTo pos (starEach es X.env)).any (·.1) = false := by rfl) :
    PE X (.Call (.Name x p) (e :: es) [] pos) (z6k sp [] E0 t) := by
  obtain ⟨f, fd, m, kp, b, F⟩ := O.ex
  exact z5Y F (hr.mono hk) hg m kp b .nil z8i ha hdb he hpl
end
theorem z2Q {c A B : Prop} [Decidable c] (h1 : c -> A) (h2 : ¬ c -> B) : if decide c = true then A else B := by
  by_cases h : c
  . rw [decide_eq_true h, if_pos rfl]; exact h1 h
  . rw [decide_eq_false h, if_neg Bool.false_ne_true]; exact h2 h
theorem z9v {c A B : Prop} [Decidable c] (h1 : ¬ c -> A) (h2 : c -> B) : if (!decide c) = true then A else B := by
  by_cases h : c
  . rw [decide_eq_true h, Bool.not_true, if_neg Bool.false_ne_true]; exact h2 h
  . rw [decide_eq_false h, Bool.not_false, if_pos rfl]; exact h1 h
theorem mulL {i j : Int} (h1 : -18446744073709551616 < i) (h2 : i < 18446744073709551616) : CMul i j := .inl ⟨h1, h2⟩
theorem mulR {i j : Int} (h1 : -18446744073709551616 < j) (h2 : j < 18446744073709551616) : CMul i j := .inr ⟨h1, h2⟩
theorem powS {i j : Int} (h1 : 0 <= j) (h2 : j <= 1000000) (h3 : i.natAbs < 18446744073709551616) : z9g i j := ⟨h1, h2, h3⟩
theorem szV {xs : List V} (h : xs.length <= 100000) : xs.length <= sizeLine := Nat.le_trans h (by decide)
theorem z2a {j : Int} (h1 : 0 <= j) (h2 : j <= 1000000000) : -(2 ^ 62) <= j /\ j < 2 ^ 62 := by
  have : (1000000000 : Int) < 2 ^ 62 := by decide
  omega
def zBU (t u : TS) : TS := fun D σ H => ∃ I : St -> Hp -> Prop, t { D with nx := I } σ H /\ ∀ σ' H', I σ' H' -> u D σ' H'
theorem z28 {X : Cx} {st : Stmt} {rest : List Stmt} {t u : TS} (h1 : PS X st t) (h2 : PSs X rest u) : PSs X (st :: rest) (zBU t u) := by
  intro pins s σ H D I h
  obtain ⟨J, h, hj⟩ := h
  refine wpAny_execs_cons (thn (h1 pins s σ H { D with nx := J } I h) fun f s1 q => ?_)
  cases f with
  | next =>
    obtain ⟨σ', H', I', q⟩ := q
    exact h2 pins s1 σ' H' D I' (hj _ _ q)
  | ret v => exact q
  | brk => exact q
  | cont => exact q
end L2
namespace L2
open PySem PySem.Spec PyProof.Rows G
structure RowsB (H0 H : Hp) (l : Addr) (ps : List Addr) (rows : List (List (Option Int))) : Prop where
  same : Same H0 H
  fl : H0 l = none
  fp : ∀ p ∈ ps, H0 p = none /\ p ≠ l
  rat : RowsAt H l ps rows
theorem Same.put {H0 H : Hp} {p : Addr} {o : HO} (s : Same H0 H) (h : H0 p = none) : Same H0 (upd H p o) := fun b u e => by
  rw [z06 (z08 e h)]
  exact s b u e
theorem RowsB.put {H0 H : Hp} {l p : Addr} {ps : List Addr} {rows : List (List (Option Int))} {o : HO} (B : RowsB H0 H l ps rows) (h0 : H0 p = none) (hl : p ≠ l) (hp : p ∉ ps) : RowsB H0 (upd H p o) l ps rows where
  same := B.same.put h0
  fl := B.fl
  fp := B.fp
  rat := ⟨by rw [z06 (Ne.symm hl)]; exact B.rat.lst, B.rat.len, fun i q r e1 e2 => by
    have hq : q ≠ p := fun e => hp (by rw [<- e]; exact List.mem_of_getElem? e1)
    rw [z06 hq]
    exact B.rat.row i q r e1 e2⟩
theorem RowsB.push {H0 H : Hp} {l p : Addr} {ps : List Addr} {rows : List (List (Option Int))} {r : List (Option Int)} (B : RowsB H0 H l ps rows) (h0 : H0 p = none) (hl : p ≠ l) (hr : H p = some (.lst (r.map z0M))) :
    RowsB H0 (upd H l (.lst (ps.map V.ref ++ [.ref p]))) l (ps ++ [p]) (rows ++ [r]) where
  same := B.same.put B.fl
  fl := B.fl
  fp := fun q hq => by
    rcases List.mem_append.mp hq with h | h
    . exact B.fp q h
    . rw [List.mem_singleton.mp h]
      exact ⟨h0, hl⟩
  rat := ⟨by rw [upd_same, List.map_append]; rfl, by rw [List.length_append, List.length_append, B.rat.len]; rfl, fun i q s e1 e2 => by
    have hq : q ≠ l := by
      rcases List.mem_append.mp (List.mem_of_getElem? e1) with h | h
      . exact (B.fp q h).2
      . rw [List.mem_singleton.mp h]
        exact hl
    rw [z06 hq]
    have hlen := B.rat.len
    by_cases hi : i < ps.length
    . rw [List.getElem?_append_left hi] at e1
      rw [List.getElem?_append_left (by omega)] at e2
      exact B.rat.row i q s e1 e2
    . rw [List.getElem?_append_right (by omega)] at e1
      rw [List.getElem?_append_right (by omega)] at e2
      rw [hlen] at e1
      cases hj : i - rows.length with
      | zero =>
        rw [hj] at e1 e2
        cases e1
        cases e2
        exact hr
      | succ n =>
        rw [hj] at e1
        cases e1⟩
theorem RowsB.mono {H0 H H' : Hp} {l : Addr} {ps : List Addr} {rows : List (List (Option Int))} (B : RowsB H0 H l ps rows) (s : Same H H') : RowsB H0 H' l ps rows := ⟨B.same.trans s, B.fl, B.fp, B.rat.mono s⟩
theorem z5w {H0 H : Hp} {l : Addr} (s : Same H0 H) (h : H l = none) : RowsB H0 (upd H l (.lst [])) l [] [] :=
  ⟨s.trans (Same.new h), s.free h, (fun _ hp => nomatch hp), ⟨upd_same, rfl, (fun _ _ _ e => nomatch e)⟩⟩
theorem Rect.ne {w h : Nat} {rows : List (List (Option Int))} (R : Rect w h rows) : 0 < rows.length := by have := R.len; have := R.h1; omega
theorem RowsAt.at {H : Hp} {l : Addr} {ps : List Addr} {rows : List (List (Option Int))} (a : RowsAt H l ps rows) {i : Nat} (hi : i < rows.length) : ∃ p, ps[i]? = some p /\ H p = some (.lst ((rows[i]'hi).map z0M)) := by
  have hl := a.len
  exact ⟨ps[i]'(by omega), List.getElem?_eq_getElem _, a.row i _ _ (List.getElem?_eq_getElem _) (List.getElem?_eq_getElem _)⟩
theorem RowsAt.atI {H : Hp} {l : Addr} {ps : List Addr} {rows : List (List (Option Int))} (a : RowsAt H l ps rows) {i : Nat} (hi : i < rows.length) : ∃ p, L2.atI (ps.map V.ref) (i : Int) = some (.ref p) /\ H p = some (.lst ((rows[i]'hi).map z0M)) := by
  obtain ⟨p, h1, h2⟩ := a.at hi
  exact ⟨p, z0y (by rw [List.getElem?_map, h1]; rfl), h2⟩
theorem Rect.row0 {w h : Nat} {rows : List (List (Option Int))} (R : Rect w h rows) {i : Nat} (hi : i < rows.length) : (rows[i]'hi).length = w /\ Cells (rows[i]'hi) := R.row _ (List.getElem_mem hi)
theorem z7w {w h : Nat} {rows : List (List (Option Int))} {x y : Int} (x0 : 0 <= x) (x1 : x < w) (y0 : 0 <= y) (y1 : y < h) (hy : y.toNat < rows.length) (hx : x.toNat < (rows[y.toNat]'hy).length) : look w h rows x y = (rows[y.toNat]'hy)[x.toNat]'hx := by
  unfold look
  have e1 : rows.getD y.toNat [] = rows[y.toNat]'hy := by rw [List.getD_eq_getElem?_getD, List.getElem?_eq_getElem hy]; rfl
  rw [if_pos ⟨x0, x1, y0, y1⟩, e1, List.getD_eq_getElem?_getD, List.getElem?_eq_getElem hx]
  rfl
theorem PicAt.put {H : Hp} {p q : Addr} {w : Nat} {rows : List (List (Option Int))} {xs : List V} {o : HO} (h : PicAt H p w rows) (hq : H q = some (.lst xs)) : PicAt (upd H q o) p w rows := by
  obtain ⟨a, b, h1, h2, h3⟩ := h
  have ne : ∀ {c : Addr} {ys : List V}, H c = some (.tup ys) -> c ≠ q := fun e z => by
    rw [z, hq] at e
    cases e
  exact ⟨a, b, by rw [z06 (ne h1)]; exact h1, by rw [z06 (ne h2)]; exact h2, by rw [z06 (ne h3)]; exact h3⟩
end L2
namespace L2
open PySem PySem.Spec PyProof.Rows G
def inB (x : V) (a b : Int) : Bool := match x with
  | .int i => decide (a <= i) && decide (i <= b)
  | _ => false
def z9w (x : V) : Bool := match x with
  | .non => true
  | x => inB x 0 15
def z5x : Sp := fun vs H Q _ => ∃ x T, vs = [x] /\ tyS H x = some T /\ Q (.bl (T == "int")) H
theorem z3s : ∀ T ∈ z7r, (if z7q T "int" = true then (!z7q T "bool") else false) = (T == "int") := by decide
def z9L : Sp := fun vs H Q _ => ∃ x a b T, vs = [x, .int a, .int b] /\ tyS H x = some T /\ Q (.bl (inB x a b)) H
def zAf : Sp := fun vs H Q _ => ∃ x T, vs = [x] /\ tyS H x = some T /\ Q (.bl (inB x 1 64)) H
def z9M : Sp := fun vs H Q _ => ∃ x T, vs = [x] /\ tyS H x = some T /\ Q (.bl (z9w x)) H
def z8q : Sp := fun vs H Q _ => ∃ (l m : Addr) (r r' : List (Option Int)), vs = [.ref l, .ref m] /\ H l = some (.lst (r.map z0M)) /\ H m = some (.lst (r'.map z0M)) /\ r.length = r'.length /\ 1 <= r.length /\ r.length <= 64 /\ Cells r /\ ∀ H', Same H H' -> Q (.bl true) H'
def z8H : Sp := fun vs H Q _ => ∃ l ps rows w h, vs = [.ref l] /\ RowsAt H l ps rows /\ Rect w h rows /\ ∀ p H', Same H H' -> H p = none -> PicAt H' p w rows -> Q (.ref p) H'
def zAg : Sp := fun vs H Q _ => ∃ l ps rows w h x y, vs = [.ref l, .int x, .int y] /\ RowsAt H l ps rows /\ Rect w h rows /\ Q (z0M (look w h rows x y)) H
end L2
namespace L2
open PySem PySem.Spec PyProof.Rows G
end L2
namespace L2
open PySem PySem.Spec PyProof.Rows G
def z9x (K : PySem.W.Frag) : Sp := fun vs H Q _ => ∃ (a : Addr) (ns : List Int) (k : Int), vs = [.ref a, .int k] /\ SqL K H a (ns.map V.int) /\ 0 <= k /\ k < 10000 /\ ∀ (z : Int) H', Same H H' -> Q (.int z) H'
def zC9 (K : PySem.W.Frag) : Sp := fun vs H Q _ => ∃ (a : Addr) (ns : List Int) (p l : Addr) (ps : List Addr) (rows : List (List (Option Int))) (w h : Nat), vs = [.ref a, .ref p, .ref l] /\ SqL K H a (ns.map V.int) /\ PicAt H p w rows /\ RowsAt H l ps rows /\ Rect w h rows /\ ∀ H', Same H H' -> Q (.bl true) H'
set_option maxRecDepth 100000 in
theorem z1r : fillsNumberSlot (.type "tuple") "mul" = pure false :=
  PySem.fillsNumberSlot_seq (id := "tuple.__mul__") (r := some (.builtin "tuple.__rmul__")) F.slot_tuple_mul.lookup (by decide +kernel) F.slot_tuple_rmul.lookup (by decide +kernel)
set_option maxRecDepth 100000 in
theorem z3L : seqRepeat? (.type "tuple") = pure (some (.builtin "tuple.__mul__")) := by
  unfold seqRepeat?
  rw [PySem.seqSlot_of (T := "tuple") (name := "__mul__") (id := "tuple.__mul__") F.slot_tuple_mul.lookup (by decide +kernel), PySem.seqSlot_of (T := "tuple") (name := "__rmul__") (id := "tuple.__rmul__") F.slot_tuple_rmul.lookup (by decide +kernel)]
  rfl
theorem z2R (a : Int) (t : Tok) (l : Addr) (items : Array Value) (n : Nat) (dd : Option Addr) (sl : Array (Option Value)) :
    Meets (Builtin.«int.__rmul__» ⟨[.int a t, .ref l], []⟩) (fun _ R s => s.heap.get? l = some ⟨.type "tuple", dd, .seq items n, sl⟩ /\ R (.ok (.ret Value.notImplemented)) s) :=
  .of_wp fun prog w A R s h => by obtain ⟨hp, g, d, tk, os⟩ := s; obtain ⟨hl, h⟩ := h; wp_walk; exact ⟨_, rfl, h⟩
theorem z3t (l : Addr) (v : Value) (n : Nat) (u : Tok) (dd : Option Addr) (sl : Array (Option Value)) :
    Meets (Builtin.«tuple.__mul__» ⟨[.ref l, .int 1 u], []⟩) (fun _ R s => s.heap.get? l = some ⟨.type "tuple", dd, .seq #[v] n, sl⟩ /\ R (.ok (.ret (.ref l))) s) :=
  .of_wp fun prog w A R s h => by
    obtain ⟨hp, g, d, tk, os⟩ := s; obtain ⟨hl, h⟩ := h
    wp_walk; exact ⟨_, rfl, h⟩
theorem z8I {α : Type} {M : Model} {A : Around} {E : Value -> Shared -> Prop} {s : Shared} {c : Prop} [Decidable c] {t f : Sem α} {Q : α -> Shared -> Prop} (n : ¬ c) (h : wpAny M A f Q E s) : wpAny M A (if c then t else f) Q E s := by
  rw [if_neg n]
  exact h
theorem z4T (v : Value) (k : Nat) : List.foldl (fun x1 x2 => x1 ++ x2) #[] (List.replicate k #[v]) = (List.replicate k v).toArray := by
  have := foldl_rep [v] k []
  rw [List.nil_append] at this
  refine Eq.trans this ?_
  congr 1
  induction k with
  | zero => rfl
  | succ k ih => rw [List.replicate_succ, List.flatten_cons, ih (foldl_rep [v] k []), List.replicate_succ]; rfl
theorem z3u (l : Addr) (v : Value) (n : Nat) (k : Int) (u : Tok) (dd : Option Addr) (sl : Array (Option Value)) (h2 : 2 <= k) (h3 : k <= 10000) :
    Meets (Builtin.«tuple.__mul__» ⟨[.ref l, .int k u], []⟩) (fun _ R s => s.heap.get? l = some ⟨.type "tuple", dd, .seq #[v] n, sl⟩ /\
      R (.ok (.ret (.ref s.heap.objs.size))) { s with heap := s.heap.push { cls := .type "tuple", data := .seq ((List.replicate k.toNat #[v]).foldl (· ++ ·) #[]) } }) :=
  .of_wp fun prog w A R s h => by
    obtain ⟨hp, g, d, tk, os⟩ := s; obtain ⟨hl, h⟩ := h
    have c1 : (decide (k < -2 ^ 63) || decide (k ≥ 2 ^ 63)) = false := by
      have : (10000 : Int) < 2 ^ 63 := by decide
      rw [decide_eq_false (by omega), decide_eq_false (by omega)]
      rfl
    have c2 : ((#[v] : Array Value).isEmpty || k == 1) = false := by
      have : (k == 1) = false := beq_false_of_ne (by omega)
      rw [this]
      rfl
    have c3 : (decide (k <= 0) || (#[v] : Array Value).isEmpty) = false := by
      rw [decide_eq_false (by omega)]
      rfl
    have c4 : ¬ (((#[v] : Array Value).size : Int) * k > (2 ^ 63 - 1) / 8) := by
      show ¬ ((1 : Int) * k > (2 ^ 63 - 1) / 8)
      omega
    have c5 : Builtin.Tuple.tupleTooMany (((#[v] : Array Value).size : Int) * k) = false := by
      show Builtin.Tuple.tupleTooMany ((1 : Int) * k) = false
      unfold Builtin.Tuple.tupleTooMany
      have z : (10000 : Int) <= (sizeLine : Int) := by decide
      exact decide_eq_false (by omega)
    wp_walk
    refine z8I (by rw [c1]; exact Bool.false_ne_true) ?_
    wp_walk
    refine z8I (by rw [c2]; exact Bool.false_ne_true) ?_
    refine z8I (by rw [c3]; exact Bool.false_ne_true) ?_
    refine z8I c4 ?_
    refine z8I (by rw [c5]; exact Bool.false_ne_true) ?_
    wp_walk
    refine z8I (by
      rw [z4T, List.size_toArray, List.length_replicate]
      have z : (10000 : Nat) <= sizeLine := by decide
      omega) ?_
    wp_walk
    exact ⟨_, rfl, h⟩
section
variable {X : Cx}
def z9y : R2 := fun x y H Q => ∃ a k v, x = .ref a /\ y = .int k /\ H a = some (.tup [v]) /\ 1 <= k /\ k <= 10000 /\ ∀ p H', Same H H' -> H' p = some (.tup (List.replicate k.toNat v)) -> Q (.ref p) H'
theorem z5y : OpR X (binaryOp .Mult) z9y := by
  intro pins s σ H x y v u Q I rx ry h
  obtain ⟨a, k, z, rfl, rfl, ha, k1, k2, q⟩ := h
  cases rx
  obtain ⟨t, rfl⟩ := ry
  obtain ⟨_, its, rv, o, ho, hc, n, hd⟩ := (show ObjOk X.prog X.w H s.heap a (.tup [z]) from I.hok a _ ha)
  obtain ⟨w', rfl, rz⟩ := Vals.one rv
  obtain ⟨oc, od, dt, sl⟩ := o
  cases (show oc = Value.type "tuple" from hc)
  cases (show dt = Data.seq _ n from hd)
  refine wpAny_binaryOp_repeat_ref (T := "tuple") (U := "int") (by decide) ⟨_, ho, rfl⟩ (fun s' => typeIs_int s' k t) z1r F.fills_int_mul F.slot_int_rmul z3L F.slot_int_index.lookup
    (call_meets F.slot_int_rmul (typeIs_int s k t) F.entry_int_rmul (F.args_int_rmul_2 _ _) (z2R k t a _ n _ _) ⟨ho, rfl, ⟨_, ho, rfl⟩, ?_⟩)
  by_cases e : k = 1
  . subst e
    exact call_meets F.slot_tuple_mul ⟨_, ho, rfl⟩ F.entry_tuple_mul (F.args_tuple_mul_2 _ _) (z3t a w' n t od sl) ⟨ho, ⟨.ref a, H, I, rfl, q a H (Same.refl _) ha⟩⟩
  . refine call_meets F.slot_tuple_mul ⟨_, ho, rfl⟩ F.entry_tuple_mul (F.args_tuple_mul_2 _ _) (z3u a w' n k t od sl (by omega) k2) ⟨ho, ?_⟩
    rw [z4T]
    have rr : Vals (List.replicate k.toNat z) (List.replicate k.toNat w') := by
      induction k.toNat with
      | zero => exact .nil
      | succ m ih => rw [List.replicate_succ, List.replicate_succ]; exact .cons rz ih
    have hz : (List.replicate k.toNat z).length <= sizeLine := by
      rw [List.length_replicate]
      exact Nat.le_of_lt (Nat.lt_of_le_of_lt (show k.toNat <= 10000 by omega) (by decide))
    exact ⟨.ref _, upd H s.heap.objs.size (.tup (List.replicate k.toNat z)), I.laid (t' := s.toks) (fun b u e => Heap.get?_push_of_some _ e) (Nat.le_refl _) ⟨hz, _, rr, ⟨_, Heap.get?_push_size _ rfl, rfl, _, rfl⟩⟩, rfl, q _ _ (Same.new I.fresh) upd_same⟩
end
structure FunD (K : PySem.W.Frag) (x qual : Str) (st : Stmt) (f : Addr) (fd : FuncData) (T : Addr) : Prop where
  ex : ∃ (oc : Value) (od : Option Addr) (kV doc pm : Value) (an : Option Addr) (cdv ct : Value) (osl : Array (Option Value)),
    fd = PySem.W.fnOf x qual (z0F st) (z0B st) (z02 st) (.ref T) kV doc pm an cdv ct /\ K.lookup f = some ⟨oc, od, .func fd, osl⟩ /\ PySem.W.codeIn K cdv qual = true
  kp : PySem.W.keepIn K (.ref f) = true
theorem FunD.ok {P : Program} {w : World} {K : PySem.W.Frag} {mg : Str -> Option Value} {base : Heap} {x qual : Str} {st : Stmt} {f T : Addr} {fd : FuncData} {N ps : List Str} {k : Nat} {sp : Sp} (F : FunD K x qual st f fd T) (S : FnScope N ps (z02 st)) (len : ∀ vs H Q E, sp vs H Q E -> vs.length = ps.length)
    (hbody : ∀ (cdv : Value) (A : Around) (outer : List Env) (s : Shared) (H : Hp) (vs : List V) (Q : VK) (E : XK), Room k (A.deeper (envOfC qual (z02 st) s.heap.objs.size f cdv)) -> sp vs H Q E ->
      ∃ t, PSs (z7J CX0 P w K mg base N qual (z02 st) f cdv A outer s H E).nox (z0B st) t /\ t { nx := fun _ H' => Q .non H', rt := Q } (start N vs) H) : FnOk P w K mg base CX0 (k + 1) f fd ps sp := by
  obtain ⟨oc, od, kV, doc, pm, an, cdv, ct, osl, rfl, lk, hcd⟩ := F.ex
  refine z7h lk hcd S len fun A outer s H vs Q E hr hsp => ?_
  obtain ⟨t, h, q⟩ := hbody cdv A outer s H vs Q E hr hsp
  exact ⟨t, h.nox, q⟩
structure Owd (P : Program) (w : World) (K : PySem.W.Frag) (mg : Str -> Option Value) (base : Heap) (x : Str) (ps : List Str) (dvs : List V) (k : Nat) (sp : Sp) : Prop where
  ex : ∃ (f : Addr) (fd : FuncData) (ds : List Value), mg x = some (.ref f) /\ PySem.W.keepIn K (.ref f) = true /\ Binds K fd ps ds /\ Vals dvs ds /\ FnOk P w K mg base CX0 k f fd ps sp
theorem z7x {X : Cx} {k j : Nat} {ps : List Str} {sp : Sp} {dvs : List V} {x : Str} {p pos : Pos} {e : Expr} {es : List Expr} {t : TA} (O : Owd X.prog X.w X.K X.mg X.base x ps dvs k sp) (hr : Room j X.A) (hg : Gl X x) (ha : PA X (e :: es) t) (hk : k <= j := by decide) (hdb : (x == ("__debug__" : Str)) = false := by decide)
    (he : starEach (e :: es) X.env = (false, eval e X.env) :: starEach es X.env := by rfl) (hpl : (backTo pos (starEach es X.env)).any (·.1) = false := by rfl) :
    PE X (.Call (.Name x p) (e :: es) [] pos) (z6k sp dvs E0 t) := by
  obtain ⟨f, fd, ds, m, kp, b, r, F⟩ := O.ex
  exact z5Y F (hr.mono hk) hg m kp b r z8i ha hdb he hpl
def zAh (sc : Scope) : Bool := sc.kind == .function && sc.names.all (fun y => y.2 != .cell && y.2 != .free && (y.2 != .local || sc.names.lookup y.1 == some .local))
section
variable {X : Cx} {sc : Scope} {cl : List (Str × Addr)} {C : Addr} {N : List Str} {fp : List Addr} {s2 : Shared} {H2 : Hp} {pn : List (Addr × Obj)} {tg l : Expr} {tl : TE}
end
theorem z2v {J : It} {n : Nat} {g : TG} {tt : TT} {te : TE} {σ0 : St} {H1 : Hp} {Fin : List V -> Hp -> Prop} (Pv : Nat -> St -> List V -> Hp -> Prop) (h0 : Pv 0 σ0 [] H1) (hn : n < sizeLine) (len : ∀ i σ ys H, Pv i σ ys H -> ys.length <= i)
    (stop : ∀ σ ys H, Pv n σ ys H -> J.stop n H) (go : ∀ i σ ys H, i < n -> Pv i σ ys H -> J.go i H)
    (hs : ∀ i σ ys H x H' (Z : St -> List V -> Hp -> Prop), i < n -> Pv i σ ys H -> J.yld i H x H' -> (∀ σ' ys' H', Pv (i + 1) σ' ys' H' -> Z σ' ys' H') -> g x σ H' fun σ2 H2 => tt σ2 H2 fun b H3 => if b = true then te σ2 H3 fun y H4 => Z σ2 (ys ++ [y]) H4 else Z σ2 ys H3) (hd : ∀ σ ys H, Pv n σ ys H -> Fin ys H) :
    ∃ W : Nat -> Nat -> St -> List V -> Hp -> Prop, (∃ m, W 0 m σ0 [] H1) /\ z4k J g tt te Fin W := by
  refine ⟨fun i m σ ys H => m = n - i /\ i <= n /\ Pv i σ ys H, ⟨n, rfl, Nat.zero_le _, h0⟩, ?_⟩
  rintro i m σ ys H ⟨rfl, hi, p⟩
  have hl := len i σ ys H p
  by_cases hlt : i < n
  . refine .inr ⟨go i σ ys H hlt p, by omega, fun x H' y => ?_⟩
    have q := hs i σ ys H x H' (fun σ2 ys2 H3 => ∃ m', m' < n - i /\ m' = n - (i + 1) /\ i + 1 <= n /\ Pv (i + 1) σ2 ys2 H3) hlt p y fun σ' ys' H'' p' => ⟨n - (i + 1), by omega, rfl, hlt, p'⟩
    exact q
  . have e : i = n := by omega
    subst e
    exact .inl ⟨stop σ ys H p, by omega, hd σ ys H p⟩
structure DfD (K : PySem.W.Frag) (mg : Str -> Option Value) (x : Str) (st : Stmt) (ps : List Str) (f : Addr) (fd : FuncData) (T : Addr) : Prop where
  F : FunD K x x st f fd T
  b : Binds K fd ps []
  b1 : Binds K fd ps [.none]
  m : mg x = some (.ref f)
theorem DfD.ow {P : Program} {w : World} {K : PySem.W.Frag} {mg : Str -> Option Value} {base : Heap} {x : Str} {st : Stmt} {ps : List Str} {f T : Addr} {fd : FuncData} {k : Nat} {sp : Sp} (D : DfD K mg x st ps f fd T) (F : FnOk P w K mg base CX0 k f fd ps sp) :
    Ow P w K mg base x ps k sp := ⟨f, fd, D.m, D.F.kp, D.b, F⟩
theorem DfD.owd {P : Program} {w : World} {K : PySem.W.Frag} {mg : Str -> Option Value} {base : Heap} {x : Str} {st : Stmt} {ps : List Str} {f T : Addr} {fd : FuncData} {k : Nat} {sp : Sp} (D : DfD K mg x st ps f fd T) (F : FnOk P w K mg base CX0 k f fd ps sp) :
    Owd P w K mg base x ps [.non] k sp := ⟨f, fd, [.none], D.m, D.F.kp, D.b1, .cons rfl .nil, F⟩
theorem z5z {K : PySem.W.Frag} {x qual : Str} {st : Stmt} {f T : Addr} {oc : Value} {od an : Option Addr} {osl : Array (Option Value)} {kV doc pm cdv ct : Value} (l : K.lookup f = some ⟨oc, od, .func (PySem.W.fnOf x qual (z0F st) (z0B st) (z02 st) (.ref T) kV doc pm an cdv ct), osl⟩)
    (c : PySem.W.codeIn K cdv qual = true) (k : PySem.W.keepIn K (.ref f) = true) : FunD K x qual st f (PySem.W.fnOf x qual (z0F st) (z0B st) (z02 st) (.ref T) kV doc pm an cdv ct) T := ⟨⟨oc, od, kV, doc, pm, an, cdv, ct, osl, rfl, l, c⟩, k⟩
end L2
namespace L2
open PySem PySem.Spec PyProof.Rows G
def z9z : Sp := fun vs H Q _ => ∃ p y w h rows, vs = [.ref p, .int y] /\ PicAt H p w rows /\ Rect w h rows /\ 0 <= y /\ y < h /\ ∀ l H', Same H H' -> H l = none -> H' l = some (.lst ((rows.getD y.toNat []).map z0M)) -> Q (.ref l) H'
def z9N : Sp := fun vs H Q _ => ∃ p w h rows, vs = [.ref p] /\ PicAt H p w rows /\ Rect w h rows /\ ∀ l ps H', RowsB H H' l ps rows -> Q (.ref l) H'
def zAi : Sp := fun vs H Q _ => ∃ m : Int, vs = [.int m] /\ 0 <= m /\ Q (.int (pc m.toNat : Int)) H
def zA0 : Sp := fun vs H Q _ => ∃ p w h rows, vs = [.ref p] /\ PicAt H p w rows /\ Rect w h rows /\ ∀ H', Same H H' -> Q (.int ((rows.map fun r => (z7v r : Int)).sum)) H'
def zA1 : Sp := fun vs H Q _ => ∃ l ps w h rows, vs = [.ref l] /\ RowsAt H l ps rows /\ Rect w h rows /\ ∀ H', Same H H' -> Q (.int ((rows.map fun r => (z7v r : Int)).sum)) H'
end L2
namespace L2
open PySem PySem.Spec PyProof.Rows G
def z2w : Sp := fun vs H Q _ => ∃ (w h : Int) (c : Option Int), vs = [.int w, .int h, z0M c] /\ 1 <= w /\ w <= 64 /\ 1 <= h /\ h <= 64 /\ Cell c /\ ∀ p H', Same H H' -> PicAt H' p w.toNat (List.replicate h.toNat (List.replicate w.toNat c)) -> Q (.ref p) H'
theorem z4U {α : Type} (x : α) : ∀ k : Nat, (List.replicate k [x]).flatten = List.replicate k x
  | 0 => rfl
  | k + 1 => by rw [List.replicate_succ, List.flatten_cons, z4U x k, List.replicate_succ]; rfl
theorem z3M {c : Option Int} (h : Cell c) (k : Nat) : Cells (List.replicate k c) := fun d hd => by
  rw [List.eq_of_mem_replicate hd]
  exact h
end L2
namespace G
open PySem
def z7y : Nat -> Int -> Int -> List (Option Int)
  | 0, _, _ => []
  | n + 1, P, M => (if M % 2 = 1 then some (P % 16) else none) :: z7y n (P / 16) (M / 2)
def zA2 : Nat -> Int -> Int -> Bool
  | 0, P, M => decide (P = 0) && decide (M = 0)
  | n + 1, P, M => (decide (M % 2 = 1) || decide (P % 16 = 0)) && zA2 n (P / 16) (M / 2)
def roomI : Nat -> Int -> Int
  | 0, _ => 0
  | n + 1, M => (if M % 2 = 1 then 15 else 0) + 16 * roomI n (M / 2)
theorem z2x : ∀ (n : Nat) (M : Int), 0 <= roomI n M /\ roomI n M < 16 ^ n
  | 0, _ => ⟨Int.le_refl 0, (show (0 : Int) < 1 by decide)⟩
  | n + 1, M => by
    have ih := z2x n (M / 2)
    show 0 <= (if M % 2 = 1 then 15 else 0) + 16 * roomI n (M / 2) /\ (if M % 2 = 1 then 15 else 0) + 16 * roomI n (M / 2) < (16 : Int) ^ (n + 1)
    rw [z2t]
    split <;> omega
theorem z2b : ∀ (n : Nat) (M : Int), roomI (n + 1) M = roomI n M + (if M / 2 ^ n % 2 = 1 then 15 else 0) * 16 ^ n
  | 0, M => by
    show (if M % 2 = 1 then 15 else 0) + 16 * 0 = 0 + (if M / 1 % 2 = 1 then 15 else 0) * 1
    have : M / 1 = M := by omega
    rw [this]
    omega
  | n + 1, M => by
    have ih := z2b n (M / 2)
    have e : roomI (n + 1 + 1) M = (if M % 2 = 1 then 15 else 0) + 16 * roomI (n + 1) (M / 2) := rfl
    have e' : roomI (n + 1) M = (if M % 2 = 1 then 15 else 0) + 16 * roomI n (M / 2) := rfl
    have d : M / 2 / 2 ^ n = M / 2 ^ (n + 1) := by rw [Int.ediv_ediv_of_nonneg (by decide), z5s]
    rw [e, ih, e', d, z2t, Int.mul_add, <- Int.mul_assoc, <- Int.mul_assoc, Int.mul_comm 16 (if M / 2 ^ (n + 1) % 2 = 1 then 15 else 0)]
    omega
end G
namespace L2
open PySem PySem.Spec PyProof.Rows
def zA3 (K : PySem.W.Frag) : R2 := fun x y H Q => ∃ a b xs ys, x = .ref a /\ y = .ref b /\ SqT K H a xs /\ SqT K H b ys /\ xs.length + ys.length <= sizeLine /\
  (xs = [] -> Q (.ref b) H) /\ (xs ≠ [] -> ys = [] -> Q (.ref a) H) /\ (xs ≠ [] -> ys ≠ [] -> ∀ p, H p = none -> Q (.ref p) (upd H p (.tup (xs ++ ys))))
section
variable {X : Cx}
theorem z60 : OpR X (binaryOp .Add) (zA3 X.K) := by
  intro pins s σ H x y v u Q I rx ry h
  obtain ⟨a, b, xs, ys, rfl, rfl, ha, hb, hz, q0, q1, q2⟩ := h
  by_cases hx : xs = []
  . cases rx
    cases ry
    obtain ⟨its, r1, p1, _⟩ := I.tuple ha
    obtain ⟨its2, r2, p2, _⟩ := I.tuple hb
    obtain ⟨⟨cls, dd, data, sl⟩, ho, hc, n, hd⟩ := id p1
    obtain ⟨⟨cls2, dd2, data2, sl2⟩, ho2, hc2, n2, hd2⟩ := id p2
    simp only at hc hd hc2 hd2
    subst hc hd hc2 hd2
    have hv : its = [] := r1.nil_iff.mpr hx
    exact concat_meets ⟨_, ho, rfl⟩ ⟨_, ho2, rfl⟩ noFill_tuple_add seq_tuple_add PySem.F.slot_tuple_add PySem.F.entry_tuple_add (PySem.F.args_tuple_add_2 _ _)
      (tuple_addW0 a b its.toArray its2.toArray n n2 dd dd2 sl sl2 (by simp [hv])) ⟨ho, ho2, ⟨.ref b, H, I, rfl, q0 hx⟩⟩
  . exact z7l pins s σ H _ _ v u Q I rx ry ⟨a, b, xs, ys, rfl, rfl, ha, hb, hx, hz, q1 hx, q2 hx⟩
theorem z29 : ∀ (ns ms : List Int), ((List.range (min ns.length ms.length)).all (fun j => ns.getD j 0 == ms.getD j 0) && ns.length == ms.length) = decide (ns = ms)
  | [], [] => rfl
  | [], m :: ms => rfl
  | n :: ns, [] => rfl
  | n :: ns, m :: ms => by
    have ih := z29 ns ms
    have e : min (n :: ns).length (m :: ms).length = min ns.length ms.length + 1 := by rw [List.length_cons, List.length_cons]; omega
    rw [e, List.range_succ_eq_map, List.all_cons, List.all_map]
    have e2 : ((fun j => (n :: ns).getD j 0 == (m :: ms).getD j 0) ∘ Nat.succ) = fun j => ns.getD j 0 == ms.getD j 0 := rfl
    have e3 : ((n :: ns).length == (m :: ms).length) = (ns.length == ms.length) := by
      rw [List.length_cons, List.length_cons]
      by_cases hh : ns.length = ms.length
      . rw [hh]; simp
      . rw [beq_eq_false_iff_ne.mpr hh, beq_eq_false_iff_ne.mpr (by omega)]
    rw [e2, e3, Bool.and_assoc, ih]
    show ((n == m) && decide (ns = ms)) = decide (n :: ns = m :: ms)
    by_cases h1 : n = m
    . by_cases h2 : ns = ms
      . rw [h1, h2]; simp
      . rw [decide_eq_false h2, Bool.and_false, decide_eq_false (fun h => h2 (by injection h))]
    . rw [beq_eq_false_iff_ne.mpr h1, Bool.false_and, decide_eq_false (fun h => h1 (by injection h))]
theorem z3N {pins : List (Addr × Obj)} {σ : St} {H : Hp} {s : Shared} {A : Around} {a b : Addr} {ns ms : List Int} (hu : A.units < cLine) (I : Inv X pins σ H s) (ha : SqT X.K H a (ns.map V.int)) (hb : SqT X.K H b (ms.map V.int)) : SeqAt.EqAt A s (.ref a) (.ref b) (decide (ns = ms)) := by
  by_cases e : a = b
  . subst e
    have q := I.tuple_inj ha hb
    have q' : ns = ms := (List.map_inj_right (fun _ _ h => by injection h)).mp q
    rw [decide_eq_true q']
    exact SeqAt.EqAt.same _
  . obtain ⟨its, r1, p1, _⟩ := I.tuple ha
    obtain ⟨its2, r2, p2, _⟩ := I.tuple hb
    have l1 := r1.length
    have l2 := r2.length
    rw [List.length_map] at l1 l2
    refine SeqAt.EqAt.of_refs e ?_
    have q := SeqAt.RcAt.tuples (A := A) (s := s) (e := fun j => ns.getD j 0 == ms.getD j 0) p1 p2 hu fun j h1 h2 => ?_
    . rw [List.size_toArray, List.size_toArray, <- l1, <- l2, z29] at q
      exact q
    . rw [List.size_toArray] at h1 h2
      have g1 : (ns.map V.int)[j]? = some (.int (ns.getD j 0)) := by
        rw [List.getElem?_map, List.getD_eq_getElem?_getD, List.getElem?_eq_getElem (by omega)]; rfl
      have g2 : (ms.map V.int)[j]? = some (.int (ms.getD j 0)) := by
        rw [List.getElem?_map, List.getD_eq_getElem?_getD, List.getElem?_eq_getElem (by omega)]; rfl
      obtain ⟨u1, e1, t1, rfl⟩ := Vals.get r1 g1
      obtain ⟨u2, e2, t2, rfl⟩ := Vals.get r2 g2
      have f1 : its.toArray[j] = Value.int (ns.getD j 0) t1 := by
        rw [List.getElem?_eq_getElem h1] at e1
        simpa using Option.some.inj e1
      have f2 : its2.toArray[j] = Value.int (ms.getD j 0) t2 := by
        rw [List.getElem?_eq_getElem h2] at e2
        simpa using Option.some.inj e2
      rw [f1, f2]
      exact SeqAt.EqAt.int_int _ _ _ _
def zBV (K : PySem.W.Frag) : R2 := fun x y H Q => ∃ (a b pa pb qa qb : Addr) (w h w' h' : Int) (ns ms ns' ms' : List Int), x = .ref a /\ y = .ref b /\ SqT K H a [.int w, .int h, .ref pa, .ref pb] /\ SqT K H b [.int w', .int h', .ref qa, .ref qb] /\
  SqT K H pa (ns.map V.int) /\ SqT K H pb (ms.map V.int) /\ SqT K H qa (ns'.map V.int) /\ SqT K H qb (ms'.map V.int) /\ Q (.bl ((w == w') && ((h == h') && (decide (ns = ns') && decide (ms = ms'))))) H
theorem z8r (hu : X.A.units + 1 < cLine) : OpR X (compareOp .Eq) (zBV X.K) := by
  intro pins s σ H x y v u Q I rx ry h0
  obtain ⟨a, b, pa, pb, qa, qb, w, h, w', h', ns, ms, ns', ms', rfl, rfl, ha, hb, h1, h2, h3, h4, q⟩ := h0
  cases rx
  cases ry
  obtain ⟨its, r1, p1, _⟩ := I.tuple ha
  obtain ⟨its2, r2, p2, _⟩ := I.tuple hb
  cases r1 with
  | @cons _ u1 _ _ x1 r1 => cases r1 with
    | @cons _ u2 _ _ x2 r1 => cases r1 with
      | @cons _ u3 _ _ x3 r1 => cases r1 with
        | @cons _ u4 _ _ x4 r1 =>
          cases r1
          cases r2 with
          | @cons _ v1 _ _ y1 r2 => cases r2 with
            | @cons _ v2 _ _ y2 r2 => cases r2 with
              | @cons _ v3 _ _ y3 r2 => cases r2 with
                | @cons _ v4 _ _ y4 r2 =>
                  cases r2
                  obtain ⟨t1, rfl⟩ := x1
                  obtain ⟨t2, rfl⟩ := x2
                  obtain ⟨t3, rfl⟩ := y1
                  obtain ⟨t4, rfl⟩ := y2
                  cases (show u3 = Value.ref pa from x3)
                  cases (show u4 = Value.ref pb from x4)
                  cases (show v3 = Value.ref qa from y3)
                  cases (show v4 = Value.ref qb from y4)
                  have d1 := z3N (A := X.A.in1) hu I h1 h3
                  have d2 := z3N (A := X.A.in1) hu I h2 h4
                  refine SeqAt.eq_tupleAt (e := fun j => match j with | 0 => w == w' | 1 => h == h' | 2 => decide (ns = ns') | _ => decide (ms = ms')) p1 p2 (by omega) (fun j j1 j2 => ?_) ⟨.bl _, H, I, rfl, ?_⟩
                  . have c4 : j < 4 := j1
                    match j, c4 with
                    | 0, _ => exact SeqAt.EqAt.int_int _ _ _ _
                    | 1, _ => exact SeqAt.EqAt.int_int _ _ _ _
                    | 2, _ => exact d1
                    | 3, _ => exact d2
                  . have e : ((List.range (min 4 4)).all (fun j => match j with | 0 => w == w' | 1 => h == h' | 2 => decide (ns = ns') | _ => decide (ms = ms')) && ((4 : Nat) == 4)) = ((w == w') && ((h == h') && (decide (ns = ns') && decide (ms = ms')))) := by
                      show (((w == w') && ((h == h') && (decide (ns = ns') && (decide (ms = ms') && true)))) && true) = _
                      rw [Bool.and_true, Bool.and_true]
                    show Q (.bl ((List.range (min 4 4)).all (fun j => match j with | 0 => w == w' | 1 => h == h' | 2 => decide (ns = ns') | _ => decide (ms = ms')) && ((4 : Nat) == 4))) H
                    rw [e]
                    exact q
def zA4 (i j : Int) : Prop := i.natAbs < 2 ^ 1000 /\ j.natAbs < 2 ^ 1000
theorem z3v {x : Int} {n : Nat} (h : x.natAbs < 2 ^ n) : Builtin.Int.intBits x <= n := by
  unfold Builtin.Int.intBits
  split
  . exact Nat.zero_le _
  . rename_i h0
    have hx : x.natAbs ≠ 0 := fun e => h0 (by rw [Int.natAbs_eq_zero.mp e]; rfl)
    exact (Nat.log2_lt hx).mpr h
theorem z7z : OpR X (binaryOp .Mult) (rI zA4 fun i j => .int (i * j)) := opI fun _ _ _ _ _ _ _ hc q => mul_int q (IntMulOk.of_bits (Nat.le_trans (z3v hc.1) (by decide)) (Nat.le_trans (z3v hc.2) (by decide)))
end
def z7P : Sp := fun vs H Q _ => ∃ w m : Int, vs = [.int w, .int m] /\ 0 <= w /\ w <= 64 /\ 0 <= m /\ Q (.int (G.roomI w.toNat m)) H
end L2
namespace G
def tk : Nat -> List (Option Int) -> List (Option Int)
  | 0, _ => []
  | w + 1, [] => none :: tk w []
  | w + 1, c :: r => c :: tk w r
theorem z61 : ∀ (w : Nat) (r : List (Option Int)), (tk w r).length = w
  | 0, _ => rfl
  | w + 1, [] => by show (tk w []).length + 1 = w + 1; rw [z61 w]
  | w + 1, c :: r => by show (tk w r).length + 1 = w + 1; rw [z61 w]
theorem z62 : ∀ (w : Nat) (r : List (Option Int)) (i : Nat), i < w -> (tk w r)[i]? = some ((r[i]?).join)
  | 0, _, i, h => absurd h (Nat.not_lt_zero i)
  | w + 1, [], 0, _ => rfl
  | w + 1, [], i + 1, h => by
    show (tk w [])[i]? = _
    rw [z62 w [] i (by omega)]
    rfl
  | w + 1, c :: r, 0, _ => rfl
  | w + 1, c :: r, i + 1, h => by
    show (tk w r)[i]? = _
    rw [z62 w r i (by omega)]
    rfl
theorem z3O {b c p m : Int} (hb : 0 < b) (hm : 0 < m) (c0 : 0 <= c) (c1 : c < b) : (c + b * p) % (b * m) = c + b * (p % m) := by
  have e : p = p % m + m * (p / m) := (Int.emod_add_mul_ediv p m).symm
  have q0 := Int.emod_nonneg p (show m ≠ 0 by omega)
  have q1 := Int.emod_lt_of_pos p hm
  have e1 : c + b * p = (c + b * (p % m)) + b * m * (p / m) := by
    rw [Int.mul_assoc, Int.add_assoc, <- Int.mul_add, <- e]
  rw [e1, Int.add_mul_emod_self_left]
  have h0 : 0 <= b * (p % m) := Int.mul_nonneg (by omega) q0
  refine Int.emod_eq_of_lt (by omega) ?_
  have h1 : b * (p % m + 1) <= b * m := Int.mul_le_mul_of_nonneg_left (by omega) (by omega)
  rw [Int.mul_add] at h1
  omega
theorem z2y : ∀ (w : Nat) {r : List (Option Int)}, Cells r -> z05 (tk w r) = z05 r % 16 ^ w
  | 0, r, _ => by
    show (0 : Int) = z05 r % 1
    omega
  | w + 1, [], h => by
    have ih := z2y w h
    show (0 : Int) + 16 * z05 (tk w []) = 0 % 16 ^ (w + 1)
    rw [ih]
    show (0 : Int) + 16 * (0 % 16 ^ w) = _
    rw [Int.zero_emod, Int.zero_emod]
    rfl
  | w + 1, c :: r, h => by
    have ih := z2y w h.tail
    have hc := (h c List.mem_cons_self).get
    show c.getD 0 + 16 * z05 (tk w r) = (c.getD 0 + 16 * z05 r) % 16 ^ (w + 1)
    rw [ih, z2t, z3O (by decide) (z3J w) hc.1 (by omega)]
theorem z3w : ∀ (w : Nat) (r : List (Option Int)), z09 (tk w r) = z09 r % 2 ^ w
  | 0, r => by
    show (0 : Int) = z09 r % 1
    omega
  | w + 1, [] => by
    have ih := z3w w []
    show (if (none : Option Int).isSome = true then (1 : Int) else 0) + 2 * z09 (tk w []) = 0 % 2 ^ (w + 1)
    rw [ih, if_neg (by simp)]
    show (0 : Int) + 2 * (0 % 2 ^ w) = _
    rw [Int.zero_emod, Int.zero_emod]
    rfl
  | w + 1, c :: r => by
    have ih := z3w w r
    show (if c.isSome = true then (1 : Int) else 0) + 2 * z09 (tk w r) = ((if c.isSome = true then 1 else 0) + 2 * z09 r) % 2 ^ (w + 1)
    rw [ih, z5s, z3O (by decide) (z1i w) (by split <;> decide) (by split <;> decide)]
theorem z2c : ∀ (x : Nat) {r : List (Option Int)}, Cells r -> z05 (r.drop x) = z05 r / 16 ^ x
  | 0, r, _ => by
    show z05 r = z05 r / 1
    omega
  | x + 1, [], _ => by
    show (0 : Int) = 0 / 16 ^ (x + 1)
    rw [Int.zero_ediv]
  | x + 1, c :: r, h => by
    have ih := z2c x h.tail
    have hc := (h c List.mem_cons_self).get
    show z05 (r.drop x) = (c.getD 0 + 16 * z05 r) / 16 ^ (x + 1)
    rw [z2t, <- Int.ediv_ediv_of_nonneg (by decide), ih]
    congr 1
    omega
theorem z3P : ∀ (x : Nat) (r : List (Option Int)), z09 (r.drop x) = z09 r / 2 ^ x
  | 0, r => by
    show z09 r = z09 r / 1
    omega
  | x + 1, [] => by
    show (0 : Int) = 0 / 2 ^ (x + 1)
    rw [Int.zero_ediv]
  | x + 1, c :: r => by
    have ih := z3P x r
    show z09 (r.drop x) = ((if c.isSome = true then 1 else 0) + 2 * z09 r) / 2 ^ (x + 1)
    rw [z5s, <- Int.ediv_ediv_of_nonneg (by decide), ih]
    congr 1
    split <;> omega
theorem z3Q (r : List (Option Int)) : ∀ k : Nat, z05 (List.replicate k none ++ r) = z05 r * 16 ^ k
  | 0 => by
    show z05 r = z05 r * 1
    omega
  | k + 1 => by
    have ih := z3Q r k
    show (0 : Int) + 16 * z05 (List.replicate k none ++ r) = _
    rw [ih, z2t, <- Int.mul_assoc, <- Int.mul_assoc, Int.mul_comm (z05 r) 16]
    omega
theorem z4V (r : List (Option Int)) : ∀ k : Nat, z09 (List.replicate k none ++ r) = z09 r * 2 ^ k
  | 0 => by
    show z09 r = z09 r * 1
    omega
  | k + 1 => by
    have ih := z4V r k
    show (if (none : Option Int).isSome = true then (1 : Int) else 0) + 2 * z09 (List.replicate k none ++ r) = _
    rw [ih, z5s, <- Int.mul_assoc, <- Int.mul_assoc, Int.mul_comm (z09 r) 2, if_neg (by simp)]
    omega
def z1k (x : Int) (r : List (Option Int)) : List (Option Int) := if 0 <= x then r.drop x.toNat else List.replicate (-x).toNat none ++ r
def z7Q (b at' many : Int) : Int := (if 0 <= at' then b / 2 ^ at'.toNat else b * 2 ^ (-at').toNat) % 2 ^ many.toNat
theorem z3x {x : Int} {r : List (Option Int)} (h : Cells r) : Cells (z1k x r) := by
  unfold z1k
  split
  . exact fun c hc => h c (List.mem_of_mem_drop hc)
  . intro c hc
    rcases List.mem_append.mp hc with e | e
    . rw [List.eq_of_mem_replicate e]; exact fun z q => nomatch q
    . exact h c e
theorem z63 {r : List (Option Int)} (h : Cells r) (x : Int) (w : Nat) : z7Q (z05 r) (4 * x) (4 * (w : Int)) = z05 (tk w (z1k x r)) := by
  rw [z2y w (z3x h)]
  unfold z7Q z1k
  have e : (4 * (w : Int)).toNat = 4 * w := by omega
  rw [e, z7M]
  by_cases hx : 0 <= x
  . have e2 : (4 * x).toNat = 4 * x.toNat := by omega
    rw [if_pos (by omega), if_pos hx, z2c _ h, e2, z7M]
  . have e2 : (-(4 * x)).toNat = 4 * (-x).toNat := by omega
    rw [if_neg (by omega), if_neg hx, z3Q, e2, z7M]
theorem z6v (r : List (Option Int)) (x : Int) (w : Nat) : z7Q (z09 r) x (w : Int) = z09 (tk w (z1k x r)) := by
  rw [z3w]
  unfold z7Q z1k
  have e : ((w : Int)).toNat = w := by omega
  rw [e]
  by_cases hx : 0 <= x
  . rw [if_pos hx, if_pos hx, z3P]
  . rw [if_neg hx, if_neg hx, z4V]
def atR (r : List (Option Int)) (x : Int) : Option Int := if 0 <= x then (r[x.toNat]?).join else none
theorem z64 (r : List (Option Int)) (x : Int) (i : Nat) : ((z1k x r)[i]?).join = atR r (x + i) := by
  unfold z1k atR
  by_cases hx : 0 <= x
  . have e : x.toNat + i = (x + (i : Int)).toNat := by omega
    rw [if_pos hx, if_pos (by omega), List.getElem?_drop, e]
  . rw [if_neg hx]
    by_cases hi : 0 <= x + (i : Int)
    . have e : i - (-x).toNat = (x + (i : Int)).toNat := by omega
      rw [if_pos hi, List.getElem?_append_right (by rw [List.length_replicate]; omega), List.length_replicate, e]
    . rw [if_neg hi, List.getElem?_append_left (by rw [List.length_replicate]; omega), List.getElem?_replicate, if_pos (by omega)]
      rfl
theorem z65 (r : List (Option Int)) (x : Int) (w : Nat) : tk w (z1k x r) = (List.range w).map fun (i : Nat) => atR r (x + (i : Int)) := by
  refine List.ext_getElem? fun i => ?_
  by_cases hi : i < w
  . rw [z62 w _ i hi, z64, List.getElem?_map, List.getElem?_range hi]
    rfl
  . rw [List.getElem?_eq_none (by rw [z61]; omega), List.getElem?_eq_none (by rw [List.length_map, List.length_range]; omega)]
end G
namespace G
open PySem
theorem z7R (k a A d D : Nat) (ha : a < 2 ^ k) (hd : d < 2 ^ k) : (a + 2 ^ k * A) &&& (d + 2 ^ k * D) = (a &&& d) + 2 ^ k * (A &&& D) := by
  have m1 : (a + 2 ^ k * A) % 2 ^ k = a := by rw [Nat.add_mul_mod_self_left, Nat.mod_eq_of_lt ha]
  have m2 : (d + 2 ^ k * D) % 2 ^ k = d := by rw [Nat.add_mul_mod_self_left, Nat.mod_eq_of_lt hd]
  have p : 0 < 2 ^ k := Nat.pow_pos (by decide)
  have d1 : (a + 2 ^ k * A) / 2 ^ k = A := by rw [Nat.add_mul_div_left _ _ p, Nat.div_eq_of_lt ha, Nat.zero_add]
  have d2 : (d + 2 ^ k * D) / 2 ^ k = D := by rw [Nat.add_mul_div_left _ _ p, Nat.div_eq_of_lt hd, Nat.zero_add]
  have e := Nat.mod_add_div ((a + 2 ^ k * A) &&& (d + 2 ^ k * D)) (2 ^ k)
  rw [Nat.and_mod_two_pow, Nat.and_div_two_pow, m1, m2, d1, d2] at e
  exact e.symm
theorem z3y {a A d D : Int} (a0 : 0 <= a) (a1 : a < 16) (d0 : 0 <= d) (d1 : d < 16) (hA : 0 <= A) (hD : 0 <= D) : Builtin.bitAnd (a + 16 * A) (d + 16 * D) = Builtin.bitAnd a d + 16 * Builtin.bitAnd A D := by
  obtain ⟨a, rfl⟩ := Int.eq_ofNat_of_zero_le a0
  obtain ⟨d, rfl⟩ := Int.eq_ofNat_of_zero_le d0
  obtain ⟨A, rfl⟩ := Int.eq_ofNat_of_zero_le hA
  obtain ⟨D, rfl⟩ := Int.eq_ofNat_of_zero_le hD
  have t1 : ((a : Int) + 16 * (A : Int)).toNat = a + 2 ^ 4 * A := by show _ = a + 16 * A; omega
  have t2 : ((d : Int) + 16 * (D : Int)).toNat = d + 2 ^ 4 * D := by show _ = d + 16 * D; omega
  rw [PyProof.Rows.bitAnd_pp (by omega) (by omega), PyProof.Rows.bitAnd_pp a0 d0, PyProof.Rows.bitAnd_pp hA hD, t1, t2, Int.toNat_natCast, Int.toNat_natCast, Int.toNat_natCast, Int.toNat_natCast, z7R 4 a A d D (by show a < 16; omega) (by show d < 16; omega)]
  show (((a &&& d) + 16 * (A &&& D) : Nat) : Int) = _
  omega
theorem z8s {a A d D : Int} (a0 : 0 <= a) (a1 : a < 2) (d0 : 0 <= d) (d1 : d < 2) (hA : 0 <= A) (hD : 0 <= D) : Builtin.bitAnd (a + 2 * A) (d + 2 * D) = Builtin.bitAnd a d + 2 * Builtin.bitAnd A D := by
  obtain ⟨a, rfl⟩ := Int.eq_ofNat_of_zero_le a0
  obtain ⟨d, rfl⟩ := Int.eq_ofNat_of_zero_le d0
  obtain ⟨A, rfl⟩ := Int.eq_ofNat_of_zero_le hA
  obtain ⟨D, rfl⟩ := Int.eq_ofNat_of_zero_le hD
  have t1 : ((a : Int) + 2 * (A : Int)).toNat = a + 2 ^ 1 * A := by show _ = a + 2 * A; omega
  have t2 : ((d : Int) + 2 * (D : Int)).toNat = d + 2 ^ 1 * D := by show _ = d + 2 * D; omega
  rw [PyProof.Rows.bitAnd_pp (by omega) (by omega), PyProof.Rows.bitAnd_pp a0 d0, PyProof.Rows.bitAnd_pp hA hD, t1, t2, Int.toNat_natCast, Int.toNat_natCast, Int.toNat_natCast, Int.toNat_natCast, z7R 1 a A d D (by show a < 2; omega) (by show d < 2; omega)]
  show (((a &&& d) + 2 * (A &&& D) : Nat) : Int) = _
  omega
theorem z7S {a A d D : Int} (a0 : 0 <= a) (a1 : a < 16) (d0 : 0 <= d) (d1 : d < 16) (hA : 0 <= A) (hD : 0 <= D) : Builtin.bitOr (a + 16 * A) (d + 16 * D) = Builtin.bitOr a d + 16 * Builtin.bitOr A D := by
  rw [PyProof.Rows.bitOr_and, z3y a0 a1 d0 d1 hA hD, PyProof.Rows.bitOr_and a d, PyProof.Rows.bitOr_and A D]
  omega
theorem zA5 {a A d D : Int} (a0 : 0 <= a) (a1 : a < 2) (d0 : 0 <= d) (d1 : d < 2) (hA : 0 <= A) (hD : 0 <= D) : Builtin.bitOr (a + 2 * A) (d + 2 * D) = Builtin.bitOr a d + 2 * Builtin.bitOr A D := by
  rw [PyProof.Rows.bitOr_and, z8s a0 a1 d0 d1 hA hD, PyProof.Rows.bitOr_and a d, PyProof.Rows.bitOr_and A D]
  omega
theorem z8t (a : Int) : Builtin.bitOr a 0 = a := by rw [PyProof.Rows.bitOr_and, PyProof.Rows.bitAnd_zero]; omega
theorem zAj (a : Int) : Builtin.bitOr 0 a = a := by rw [PyProof.Rows.bitOr_comm, z8t]
def layR : List (Option Int) -> List (Option Int) -> List (Option Int)
  | u :: us, c :: cs => c.or u :: layR us cs
  | _, _ => []
theorem z66 : ∀ (us cs : List (Option Int)), us.length = cs.length -> (layR us cs).length = us.length
  | [], [], _ => rfl
  | u :: us, c :: cs, h => by
    show (layR us cs).length + 1 = us.length + 1
    rw [z66 us cs (by simpa using h)]
  | [], _ :: _, h => by cases h
  | _ :: _, [], h => by cases h
theorem z67 : ∀ (us cs : List (Option Int)) (i : Nat), us.length = cs.length -> i < us.length -> (layR us cs)[i]? = some (((cs[i]?).join).or ((us[i]?).join))
  | u :: us, c :: cs, 0, _, _ => rfl
  | u :: us, c :: cs, i + 1, h, hi => by
    show (layR us cs)[i]? = _
    rw [z67 us cs i (by simpa using h) (by simpa using hi)]
    rfl
  | [], _, _, _, hi => by cases hi
  | _ :: _, [], _, h, _ => by cases h
theorem z4W : ∀ (us cs : List (Option Int)), us.length = cs.length -> Builtin.bitOr (z09 us) (z09 cs) = z09 (layR us cs)
  | [], [], _ => by show Builtin.bitOr 0 0 = 0; rw [z8t]
  | [], _ :: _, h => by cases h
  | _ :: _, [], h => by cases h
  | u :: us, c :: cs, h => by
    have ih := z4W us cs (by simpa using h)
    have h1 := z1b us
    have h2 := z1b cs
    show Builtin.bitOr ((if u.isSome = true then 1 else 0) + 2 * z09 us) ((if c.isSome = true then 1 else 0) + 2 * z09 cs) = (if (c.or u).isSome = true then 1 else 0) + 2 * z09 (layR us cs)
    rw [zA5 (by split <;> decide) (by split <;> decide) (by split <;> decide) (by split <;> decide) h1.1 h2.1, ih]
    congr 1
    cases u with
    | none =>
      show Builtin.bitOr 0 (if c.isSome = true then 1 else 0) = _
      rw [zAj]
      cases c <;> rfl
    | some a =>
      cases c with
      | none =>
        show Builtin.bitOr 1 0 = 1
        rw [z8t]
      | some b =>
        show Builtin.bitOr 1 1 = 1
        rw [PyProof.Rows.bitOr_and, PyProof.Rows.bitAnd_self]
        rfl
theorem z3R : ∀ (us cs : List (Option Int)), us.length = cs.length -> Cells us -> Cells cs ->
    Builtin.bitOr (Builtin.bitAnd (z05 us) (Builtin.bitNot (roomI us.length (z09 cs)))) (z05 cs) = z05 (layR us cs)
  | [], [], _, _, _ => by
    show Builtin.bitOr (Builtin.bitAnd 0 (Builtin.bitNot 0)) 0 = 0
    rw [z8t, PyProof.Rows.bitAnd_not, PyProof.Rows.bitAnd_zero]
    rfl
  | [], _ :: _, h, _, _ => by cases h
  | _ :: _, [], h, _, _ => by cases h
  | u :: us, c :: cs, h, hu, hc => by
    have ih := z3R us cs (by simpa using h) hu.tail hc.tail
    have p1 := z1j hu.tail
    have p2 := z1j hc.tail
    have c1 := (hu u List.mem_cons_self).get
    have c2 := (hc c List.mem_cons_self).get
    have m := z1b cs
    have er : roomI (us.length + 1) (z09 (c :: cs)) = (if c.isSome = true then 15 else 0) + 16 * roomI us.length (z09 cs) := by
      show (if ((if c.isSome = true then 1 else 0) + 2 * z09 cs) % 2 = 1 then (15 : Int) else 0) + 16 * roomI us.length (((if c.isSome = true then 1 else 0) + 2 * z09 cs) / 2) = _
      have e2 : ((if c.isSome = true then 1 else 0) + 2 * z09 cs) / 2 = z09 cs := by split <;> omega
      rw [e2]
      congr 1
      cases c with
      | none => rw [if_neg (by simp), if_neg (by simp)]
      | some z => rw [if_pos (by rw [if_pos (show (some z).isSome = true from rfl)]; omega), if_pos (show (some z).isSome = true from rfl)]
    have rr := z2x us.length (z09 cs)
    rw [PyProof.Rows.bitAnd_not] at ih
    have le : Builtin.bitAnd (z05 us) (roomI us.length (z09 cs)) <= z05 us := by
      rw [PyProof.Rows.bitAnd_pp p1.1 rr.1]
      have := Nat.and_le_left (n := (z05 us).toNat) (m := (roomI us.length (z09 cs)).toNat)
      omega
    show Builtin.bitOr (Builtin.bitAnd (u.getD 0 + 16 * z05 us) (Builtin.bitNot (roomI (us.length + 1) (z09 (c :: cs))))) (c.getD 0 + 16 * z05 cs) = (c.or u).getD 0 + 16 * z05 (layR us cs)
    rw [er, PyProof.Rows.bitAnd_not, <- ih]
    cases c with
    | none =>
      rw [if_neg (by simp), z3y c1.1 (by omega) (by decide) (by decide) p1.1 rr.1, PyProof.Rows.bitAnd_zero]
      have e : u.getD 0 + 16 * z05 us - (0 + 16 * Builtin.bitAnd (z05 us) (roomI us.length (z09 cs))) = u.getD 0 + 16 * (z05 us - Builtin.bitAnd (z05 us) (roomI us.length (z09 cs))) := by omega
      rw [e]
      show Builtin.bitOr _ (0 + 16 * z05 cs) = u.getD 0 + _
      rw [z7S c1.1 (by omega) (by decide) (by decide) (by omega) p2.1, z8t]
    | some z =>
      have z0 : (0 : Int) <= z /\ z <= 15 := c2
      rw [if_pos (show (some z).isSome = true from rfl), z3y c1.1 (by omega) (by decide) (by decide) p1.1 rr.1, PyProof.Rows.bitAnd_m4]
      have e : u.getD 0 + 16 * z05 us - (u.getD 0 % 16 + 16 * Builtin.bitAnd (z05 us) (roomI us.length (z09 cs))) = 0 + 16 * (z05 us - Builtin.bitAnd (z05 us) (roomI us.length (z09 cs))) := by omega
      rw [e]
      show Builtin.bitOr _ (z + 16 * z05 cs) = z + _
      rw [z7S (by decide) (by decide) z0.1 (by omega) (by omega) p2.1, zAj]
def loI : List (Option Int) -> Nat
  | [] => 0
  | c :: r => if c.isSome = true then 0 else loI r + 1
def hiI : List (Option Int) -> Nat
  | [] => 0
  | c :: r => if hiI r = 0 then (if c.isSome = true then 1 else 0) else hiI r + 1
def isP (r : List (Option Int)) (i : Nat) : Prop := ((r[i]?).join).isSome = true
end G
namespace G
theorem z8u {r : List (Option Int)} {i : Nat} (h : isP r i) : i < r.length := by
  unfold isP at h
  cases hi : r[i]? with
  | none => rw [hi] at h; cases h
  | some c => exact (List.getElem?_eq_some_iff.mp hi).1
def z68 (w : Nat) (rows : List (List (Option Int))) : List (Option Int) := rows.foldl layR (List.replicate w none)
def anyR (rows : List (List (Option Int))) : List (Option Int) := rows.map fun r => if z09 r = 0 then none else some 0
def zCA (rows : List (List (Option Int))) (n : Nat) : List Nat := (List.range n).filter fun y => decide (zR rows y ≠ 0) where
  zR (rows : List (List (Option Int))) (y : Nat) : Int := z09 ((rows[y]?).getD [])
end G
namespace L2
open G
abbrev Rws := List (List (Option Int))
def z0Z (rows : Rws) (x y : Nat) : Option Int := (((rows[y]?).getD [])[x]?).join
def z1G (w h : Nat) (f : Nat -> Nat -> Option Int) : Rws := (List.range h).map fun y => (List.range w).map fun x => f x y
theorem z2z (w h : Nat) (f : Nat -> Nat -> Option Int) : (z1G w h f).length = h := by unfold z1G; rw [List.length_map, List.length_range]
theorem z6w {w h : Nat} {f : Nat -> Nat -> Option Int} {y : Nat} (hy : y < h) : (z1G w h f)[y]? = some ((List.range w).map fun x => f x y) := by
  unfold z1G
  rw [List.getElem?_map, List.getElem?_range hy]
  rfl
theorem z4m {w h : Nat} {f g : Nat -> Nat -> Option Int} (e : ∀ x y, x < w -> y < h -> f x y = g x y) : z1G w h f = z1G w h g := by
  unfold z1G
  refine List.map_congr_left fun y hy => List.map_congr_left fun x hx => e x y (List.mem_range.mp hx) (List.mem_range.mp hy)
theorem z69 {r : List (Option Int)} {w : Nat} (h : r.length = w) : r = (List.range w).map fun x => (r[x]?).join := by
  refine List.ext_getElem? fun i => ?_
  by_cases hi : i < w
  . have hr : i < r.length := by omega
    rw [List.getElem?_map, List.getElem?_range hi]
    show r[i]? = some (r[i]?).join
    rw [List.getElem?_eq_getElem hr]
    rfl
  . rw [List.getElem?_eq_none (by omega), List.getElem?_eq_none (by rw [List.length_map, List.length_range]; omega)]
theorem Rect.grid {w h : Nat} {rows : Rws} (R : Rect w h rows) : rows = z1G w h (z0Z rows) := by
  have hR := R.len
  refine List.ext_getElem? fun y => ?_
  by_cases hy : y < h
  . rw [z6w hy]
    have hl : y < rows.length := by omega
    rw [List.getElem?_eq_getElem hl]
    congr 1
    have hw := (R.row _ (List.getElem_mem hl)).1
    have e : ∀ x, z0Z rows x y = ((rows[y]'hl)[x]?).join := fun x => by
      unfold z0Z
      rw [List.getElem?_eq_getElem hl]
      rfl
    simp only [e]
    exact z69 hw
  . rw [List.getElem?_eq_none (by omega), List.getElem?_eq_none (by rw [z2z]; omega)]
theorem Rect.cell {w h : Nat} {rows : Rws} (R : Rect w h rows) (x y : Nat) : Cell (z0Z rows x y) := by
  unfold z0Z
  cases hy : rows[y]? with
  | none => exact fun z e => nomatch e
  | some r =>
    show Cell ((r[x]?).join)
    cases hx : r[x]? with
    | none => exact fun z e => nomatch e
    | some c => exact (R.row r (List.mem_of_getElem? hy)).2 c (List.mem_of_getElem? hx)
theorem z2A {w h : Nat} {f : Nat -> Nat -> Option Int} (h1 : 1 <= h) (h2 : h <= 64) (w1 : 1 <= w) (w2 : w <= 64) (hc : ∀ x y, Cell (f x y)) : Rect w h (z1G w h f) :=
  ⟨z2z w h f, h1, h2, w1, w2, fun r hr => by
    unfold z1G at hr
    obtain ⟨y, _, rfl⟩ := List.mem_map.mp hr
    refine ⟨by rw [List.length_map, List.length_range], fun c hc' => ?_⟩
    obtain ⟨x, _, rfl⟩ := List.mem_map.mp hc'
    exact hc x y⟩
def z8v (w h : Nat) (rows : Rws) : Rws := z1G h w fun x y => z0Z rows y (h - 1 - x)
def zBW (w h : Nat) (rows : Rws) : Rws := z1G w h fun x y => z0Z rows (w - 1 - x) y
def zAk (w h : Nat) (rows : Rws) : Rws := z1G w h fun x y => z0Z rows x (h - 1 - y)
theorem Rect.turn {w h : Nat} {rows : Rws} (R : Rect w h rows) : Rect h w (z8v w h rows) := z2A R.w1 R.w2 R.h1 R.h2 fun _ _ => R.cell _ _
theorem Rect.upd {w h : Nat} {rows : Rws} (R : Rect w h rows) : Rect w h (zAk w h rows) := z2A R.h1 R.h2 R.w1 R.w2 fun _ _ => R.cell _ _
theorem z6A (w y : Nat) (f : Nat -> Nat -> Option Int) : z1G w (y + 1) f = z1G w y f ++ [(List.range w).map fun x => f x y] := by
  unfold z1G
  rw [List.range_succ, List.map_append]
  rfl
end L2
namespace L2
open PySem PySem.Spec PyProof.Rows G
def zA6 (i j : Int) : Prop := 0 <= j /\ j <= 1000000 /\ i.natAbs < 2 ^ 1000
theorem zBX {X : Cx} : OpR X (binaryOp .LShift) (rI zA6 fun i j => .int (i * 2 ^ j.toNat)) := opI fun i j _ _ _ _ _ hc q => lshift_int hc.1 (by
  have hb : Builtin.Int.intBits i <= 1000 := z3v hc.2.2
  have h2 := hc.2.1
  omega) q
def rowAt (rows : List (List (Option Int))) (y : Int) : List (Option Int) := if 0 <= y then (rows[y.toNat]?).getD [] else []
def zAt (zs : List Int) (y : Int) : Int := if 0 <= y then (zs[y.toNat]?).getD 0 else 0
theorem z3z (f : List (Option Int) -> Int) (h0 : f [] = 0) (rows : List (List (Option Int))) (y : Int) : zAt (rows.map f) y = f (rowAt rows y) := by
  unfold zAt rowAt
  split
  . rw [List.getElem?_map]
    cases rows[y.toNat]? with
    | none => exact h0.symm
    | some r => rfl
  . exact h0.symm
theorem z1c {w h : Nat} {rows : List (List (Option Int))} (R : Rect w h rows) (y : Int) : Cells (rowAt rows y) := by
  unfold rowAt
  split
  . cases hr : rows[y.toNat]? with
    | none => exact fun _ h => nomatch h
    | some r => exact (R.row r (List.mem_of_getElem? hr)).2
  . exact fun _ h => nomatch h
theorem z1V {w h : Nat} {rows : List (List (Option Int))} (R : Rect w h rows) (x y : Int) : look w h rows x y = atR (rowAt rows y) x := by
  have hR := R.len
  unfold look atR rowAt
  by_cases hy : 0 <= y
  . rw [if_pos hy]
    by_cases hy2 : y < h
    . have hl : y.toNat < rows.length := by omega
      have hw := (R.row0 hl).1
      have eg : rows.getD y.toNat [] = rows[y.toNat]'hl := by rw [List.getD_eq_getElem?_getD, List.getElem?_eq_getElem hl]; rfl
      rw [eg, List.getElem?_eq_getElem hl]
      show (if 0 <= x /\ x < w /\ 0 <= y /\ y < h then (rows[y.toNat]'hl).getD x.toNat none else none) = if 0 <= x then ((rows[y.toNat]'hl)[x.toNat]?).join else none
      by_cases hx : 0 <= x
      . rw [if_pos hx]
        by_cases hx2 : x < w
        . rw [if_pos ⟨hx, hx2, hy, hy2⟩, List.getD_eq_getElem?_getD, List.getElem?_eq_getElem (by omega)]
          rfl
        . rw [if_neg (fun h => hx2 h.2.1), List.getElem?_eq_none (by omega)]
          rfl
      . rw [if_neg hx, if_neg (fun h => hx h.1)]
    . rw [if_neg (fun h => hy2 h.2.2.2), List.getElem?_eq_none (show rows.length <= y.toNat by omega)]
      show none = if 0 <= x then (([] : List (Option Int))[x.toNat]?).join else none
      split <;> rfl
  . rw [if_neg hy, if_neg (fun h => hy h.2.2.1)]
    split <;> rfl
def z3S (rows : List (List (Option Int))) (x y : Int) (w : Nat) : List (Option Int) := (List.range w).map fun (i : Nat) => atR (rowAt rows y) (x + (i : Int))
def cutRows (rows : List (List (Option Int))) (x y : Int) (w h : Nat) : List (List (Option Int)) := (List.range h).map fun (j : Nat) => z3S rows x (y + (j : Int)) w
theorem z1w (rows : List (List (Option Int))) (x y : Int) (w : Nat) : (z3S rows x y w).length = w := by unfold z3S; rw [List.length_map, List.length_range]
theorem z1K (rows : List (List (Option Int))) (x y : Int) (w h : Nat) : (cutRows rows x y w h).length = h := by unfold cutRows; rw [List.length_map, List.length_range]
theorem z4X {r : List (Option Int)} (h : Cells r) (x : Int) : Cell (atR r x) := by
  unfold atR
  split
  . cases hr : r[x.toNat]? with
    | none => exact fun z e => nomatch e
    | some c => exact h c (List.mem_of_getElem? hr)
  . exact fun z e => nomatch e
theorem z4n {w h : Nat} {rows : List (List (Option Int))} (R : Rect w h rows) (x y : Int) (w' : Nat) : Cells (z3S rows x y w') := fun c hc => by
  unfold z3S at hc
  obtain ⟨i, _, rfl⟩ := List.mem_map.mp hc
  exact z4X (z1c R y) _
theorem z6x {w h : Nat} {rows : List (List (Option Int))} (R : Rect w h rows) (x y : Int) {w' h' : Nat} (w1 : 1 <= w') (w2 : w' <= 64) (h1 : 1 <= h') (h2 : h' <= 64) : Rect w' h' (cutRows rows x y w' h') :=
  ⟨z1K _ _ _ _ _, h1, h2, w1, w2, fun r hr => by
    unfold cutRows at hr
    obtain ⟨j, _, rfl⟩ := List.mem_map.mp hr
    exact ⟨z1w _ _ _ _, z4n R _ _ _⟩⟩
theorem z4o {w h : Nat} {rows : List (List (Option Int))} (R : Rect w h rows) (x y : Int) (w' : Nat) : z05 (z3S rows x y w') = z7Q (zAt (rows.map z05) y) (4 * x) (4 * (w' : Int)) := by
  rw [z3z z05 rfl, z63 (z1c R y), z65]
  rfl
theorem z6B (rows : List (List (Option Int))) (x y : Int) (w' : Nat) : z09 (z3S rows x y w') = z7Q (zAt (rows.map z09) y) x (w' : Int) := by
  rw [z3z z09 rfl, z6v, z65]
  rfl
theorem z80 {w h : Nat} {rows : List (List (Option Int))} (R : Rect w h rows) {x : Int} {w' : Nat} (hx : x <= -(w' : Int) \/ (w : Int) <= x) (y : Int) (h' : Nat) : cutRows rows x y w' h' = List.replicate h' (List.replicate w' none) := by
  refine List.eq_replicate_iff.mpr ⟨z1K _ _ _ _ _, fun r hr => ?_⟩
  unfold cutRows at hr
  obtain ⟨j, _, rfl⟩ := List.mem_map.mp hr
  refine List.eq_replicate_iff.mpr ⟨z1w _ _ _ _, fun c hc => ?_⟩
  unfold z3S at hc
  obtain ⟨i, hi, rfl⟩ := List.mem_map.mp hc
  have hi' : i < w' := List.mem_range.mp hi
  rw [<- z1V R]
  unfold look
  rw [if_neg (by omega)]
theorem z3T {w h : Nat} {rows : List (List (Option Int))} (R : Rect w h rows) (f : List (Option Int) -> Int) (h0 : f [] = 0) (hf : ∀ r, Cells r -> r.length = w -> 0 <= f r /\ f r < 2 ^ 256) (y : Int) : 0 <= zAt (rows.map f) y /\ zAt (rows.map f) y < 2 ^ 256 := by
  rw [z3z f h0]
  unfold rowAt
  split
  . cases hr : rows[y.toNat]? with
    | none => show 0 <= f [] /\ f [] < 2 ^ 256; rw [h0]; exact ⟨by decide, by decide⟩
    | some r => exact hf r (R.row r (List.mem_of_getElem? hr)).2 (R.row r (List.mem_of_getElem? hr)).1
  . rw [h0]; exact ⟨by decide, by decide⟩
theorem z3U {n : Nat} (h : n <= 64) : (16 : Int) ^ n <= 2 ^ 256 /\ (2 : Int) ^ n <= 2 ^ 256 := by
  have key : ∀ {a b : Nat}, a <= b -> (2 : Int) ^ a <= 2 ^ b := fun {a b} hab => by
    rw [<- z2Z, <- z2Z]
    exact Int.ofNat_le.mpr (Nat.pow_le_pow_right (by decide) hab)
  exact ⟨by rw [<- z7M]; exact key (by omega), key (by omega)⟩
theorem z3V {w h : Nat} {rows : List (List (Option Int))} (R : Rect w h rows) (y : Int) : 0 <= zAt (rows.map z05) y /\ zAt (rows.map z05) y < 2 ^ 256 :=
  z3T R z05 rfl (fun r hc hl => by
    have h1 := z1j hc
    have h2 := (z3U (n := r.length) (by have := R.w2; omega)).1
    omega) y
theorem z40 {w h : Nat} {rows : List (List (Option Int))} (R : Rect w h rows) (y : Int) : 0 <= zAt (rows.map z09) y /\ zAt (rows.map z09) y < 2 ^ 256 :=
  z3T R z09 rfl (fun r hc hl => by
    have h1 := z1b r
    have h2 := (z3U (n := r.length) (by have := R.w2; omega)).2
    omega) y
theorem z6C {b : Int} {m : Nat} (h : 0 <= b) : Builtin.bitAnd b (1 * 2 ^ m - 1) = b % 2 ^ m := by
  obtain ⟨n, rfl⟩ := Int.eq_ofNat_of_zero_le h
  have p := z1i m
  have e : (1 : Int) * 2 ^ m - 1 = ((2 ^ m - 1 : Nat) : Int) := by
    have := Nat.pow_pos (n := m) (show 0 < 2 by decide)
    rw [Int.ofNat_sub (by omega), z2Z]
    omega
  rw [e, PyProof.Rows.bitAnd_pp (Int.natCast_nonneg _) (Int.natCast_nonneg _), Int.toNat_natCast, Int.toNat_natCast, Nat.and_two_pow_sub_one_eq_mod, Int.natCast_emod, z2Z]
def z3W : Sp := fun vs H Q _ => ∃ (t : Addr) (zs : List Int) (y : Int), vs = [.ref t, .int y] /\ H t = some (.tup (zs.map V.int)) /\ Q (.int (zAt zs y)) H
def z3X : Sp := fun vs H Q _ => ∃ b a m : Int, vs = [.int b, .int a, .int m] /\ 0 <= b /\ b < 2 ^ 256 /\ -1000 <= a /\ a <= 1000 /\ 0 <= m /\ m <= 1000 /\ Q (.int (z7Q b a m)) H
def z81 : Sp := fun vs H Q _ => ∃ p x y w h rows w' h', vs = [.ref p, .int x, .int y, .int w', .int h'] /\ PicAt H p w rows /\ Rect w h rows /\ 1 <= w' /\ w' <= 64 /\ 1 <= h' /\ h' <= 64 /\
  ∀ q H', Same H H' -> PicAt H' q w'.toNat (cutRows rows x y w'.toNat h'.toNat) -> Q (.ref q) H'
end L2
namespace L2
open PySem PySem.Spec PyProof.Rows G
structure Made (H H2 : Hp) (f : Nat -> List (Option Int)) (i : Nat) (qs : List Addr) : Prop where
  same : Same H H2
  len : qs.length = i
  fr : ∀ q ∈ qs, H q = none
  at' : ∀ (j : Nat) q, qs[j]? = some q -> H2 q = some (.lst ((f j).map z0M))
  nd : qs.Nodup
theorem Made.nil {H : Hp} {f : Nat -> List (Option Int)} : Made H H f 0 [] := ⟨Same.refl _, rfl, (fun _ h => nomatch h), (fun _ _ h => nomatch h), List.nodup_nil⟩
theorem Made.push {H H2 H3 : Hp} {f : Nat -> List (Option Int)} {i : Nat} {qs : List Addr} {l : Addr} (M : Made H H2 f i qs) (s : Same H2 H3) (n : H2 l = none) (g : H3 l = some (.lst ((f i).map z0M))) : Made H H3 f (i + 1) (qs ++ [l]) where
  same := M.same.trans s
  len := by rw [List.length_append, M.len]; rfl
  fr := fun q hq => by
    rcases List.mem_append.mp hq with h | h
    . exact M.fr q h
    . rw [List.mem_singleton.mp h]
      exact M.same.free n
  at' := fun j q e => by
    have hl := M.len
    by_cases hj : j < qs.length
    . rw [List.getElem?_append_left hj] at e
      exact s _ _ (M.at' j q e)
    . rw [List.getElem?_append_right (by omega)] at e
      cases hk : j - qs.length with
      | zero =>
        rw [hk] at e
        cases e
        have ej : j = i := by omega
        rw [ej]
        exact g
      | succ n =>
        rw [hk] at e
        cases e
  nd := by
    refine List.nodup_append.mpr ⟨M.nd, by simp, fun q hq r hr e => ?_⟩
    rw [List.mem_singleton.mp hr] at e
    obtain ⟨j, hj, ej⟩ := List.mem_iff_getElem.mp hq
    have := M.at' j q (by rw [List.getElem?_eq_getElem hj, ej])
    rw [e, n] at this
    cases this
theorem Made.rows {H H2 : Hp} {f : Nat -> List (Option Int)} {n : Nat} {qs : List Addr} {l : Addr} (M : Made H H2 f n qs) (nl : H2 l = none) : RowsB H (upd H2 l (.lst (qs.map V.ref))) l qs ((List.range n).map f) where
  same := M.same.trans (Same.new nl)
  fl := M.same.free nl
  fp := fun p hp => ⟨M.fr p hp, fun e => by
    obtain ⟨j, hj, ej⟩ := List.mem_iff_getElem.mp hp
    have := M.at' j p (by rw [List.getElem?_eq_getElem hj, ej])
    rw [e, nl] at this
    cases this⟩
  rat := ⟨upd_same, by rw [M.len, List.length_map, List.length_range], fun i p r e1 e2 => by
    have hi : i < n := by
      have := (List.getElem?_eq_some_iff.mp e1).1
      have := M.len
      omega
    rw [List.getElem?_map, List.getElem?_range hi] at e2
    cases e2
    exact (Same.new nl) _ _ (M.at' i p e1)⟩
theorem z2d {α : Type} (f : Nat -> α) (i : Nat) : (List.range (i + 1)).map f = (List.range i).map f ++ [f i] := by
  rw [List.range_succ, List.map_append]
  rfl
theorem PicAt.of {H : Hp} {p : Addr} {w : Nat} {rows rows' : List (List (Option Int))} (h : PicAt H p w rows) (e : rows = rows') : PicAt H p w rows' := e ▸ h
def zCB : Sp := fun vs H Q _ => ∃ (l : Addr) (ps : List Addr) (rows : List (List (Option Int))) (w h : Nat), vs = [.int (w : Int), .ref l] /\ RowsAt H l ps rows /\ Rect w h rows /\ ∀ p H', Same H H' -> H p = none -> PicAt H' p w rows -> Q (.ref p) H'
def zA7 : Sp := fun vs H Q _ => ∃ (l : Addr) (x : Nat) (ps : List Addr) (rows : List (List (Option Int))) (w h : Nat), vs = [.ref l, .int (x : Int)] /\ RowsAt H l ps rows /\ Rect w h rows /\ x < w /\ ∀ l' H', Same H H' -> H l' = none -> H' l' = some (.lst (((List.range h).map fun i => z0Z rows x (h - 1 - i)).map z0M)) -> Q (.ref l') H'
def z9O : Sp := fun vs H Q _ => ∃ p w h rows, vs = [.ref p] /\ PicAt H p w rows /\ Rect w h rows /\ ∀ q H', Same H H' -> PicAt H' q h (z8v w h rows) -> Q (.ref q) H'
def z8J : Sp := fun vs H Q _ => ∃ p w h rows, vs = [.ref p] /\ PicAt H p w rows /\ Rect w h rows /\ ∀ q H', Same H H' -> PicAt H' q w (zBW w h rows) -> Q (.ref q) H'
def z8w : Sp := fun vs H Q _ => ∃ p w h rows, vs = [.ref p] /\ PicAt H p w rows /\ Rect w h rows /\ ∀ q H', Same H H' -> PicAt H' q w (zAk w h rows) -> Q (.ref q) H'
theorem RowsAt.cell {H : Hp} {l : Addr} {ps : List Addr} {rows : List (List (Option Int))} {w h : Nat} (a : RowsAt H l ps rows) (R : Rect w h rows) {x y : Nat} (hx : x < w) (hy : y < h) :
    ∃ p xs, ps[y]? = some p /\ L2.atI (ps.map V.ref) (y : Int) = some (.ref p) /\ H p = some (.lst xs) /\ L2.atI xs (x : Int) = some (z0M (z0Z rows x y)) := by
  have hR := R.len
  have hl : y < rows.length := by omega
  obtain ⟨p, e0, g⟩ := a.at hl
  have e1 : L2.atI (ps.map V.ref) (y : Int) = some (.ref p) := z0y (by rw [List.getElem?_map, e0]; rfl)
  have hw := (R.row0 hl).1
  refine ⟨p, _, e0, e1, g, z0y ?_⟩
  have e : z0Z rows x y = (rows[y]'hl)[x]'(by omega) := by
    unfold z0Z
    rw [List.getElem?_eq_getElem hl]
    show ((rows[y]'hl)[x]?).join = _
    rw [List.getElem?_eq_getElem (by omega)]
    rfl
  rw [List.getElem?_map, List.getElem?_eq_getElem (by omega), e]
  rfl
abbrev z1R (h : Heap) (T : Addr) (x y v : Value) : Prop := h.get? T = some { cls := .type "tuple", data := .seq #[x, y, v] }
structure Ap3 (z TI TO i1 i2 i3 l1 l2 l3 : Addr) : Prop where
  TIz : TI ≠ z
  TOz : TO ≠ z
  i1z : i1 ≠ z
  i2z : i2 ≠ z
  i3z : i3 ≠ z
  TITO : TI ≠ TO
  TIi1 : TI ≠ i1
  TIi2 : TI ≠ i2
  TIi3 : TI ≠ i3
  TOi1 : TO ≠ i1
  TOi2 : TO ≠ i2
  TOi3 : TO ≠ i3
  i12 : i1 ≠ i2
  i13 : i1 ≠ i3
  i23 : i2 ≠ i3
  l1z : l1 ≠ z
  l2z : l2 ≠ z
  l3z : l3 ≠ z
  l2i1 : l2 ≠ i1
  l2TO : l2 ≠ TO
  l3i1 : l3 ≠ i1
  l3i2 : l3 ≠ i2
  l3TO : l3 ≠ TO
theorem z82 {n l1 l2 l3 : Nat} (h1 : l1 < n) (h2 : l2 < n) (h3 : l3 < n) : Ap3 (n + 5) (n + 3) (n + 4) n (n + 1) (n + 2) l1 l2 l3 := by
  constructor <;> (show (_ : Nat) ≠ (_ : Nat); omega)
section
variable {prog : Program} {w : World} {A : Around} {E : Value -> Shared -> Prop} {s : Shared}
theorem z2B {T : Addr} {a b c x : Value} {k : Nat} {Q : Unit -> Shared -> Prop} (hT : z1R s.heap T a b c)
    (h : ∀ h', h'.get? T = some { cls := .type "tuple", data := .seq ((#[a, b, c] : Array Value).setIfInBounds k x) } -> Heap.SameBut T s.heap h' -> Q () { s with heap := h' }) :
    wpAny (model prog w) A (updateSeq T (·.setIfInBounds k x)) Q E s := by
  refine wpAny_updateSeq hT rfl (h _ ?_ (Heap.SameBut.update ..))
  rw [Heap.get?_update_self _ hT rfl]
  simp [Obj.mapSeq]
theorem z6D {z TI TO i1 i2 i3 l1 l2 l3 : Addr} {k : Nat} {xs ys vs : Array Value} {x y v a b c : Value} {Q : Value -> Shared -> Prop} (D : Ap3 z TI TO i1 i2 i3 l1 l2 l3)
    (gz : IsZip s.heap z TI TO .none) (gI : z1R s.heap TI (.ref i1) (.ref i2) (.ref i3)) (gO : z1R s.heap TO a b c)
    (j1 : s.heap.IsTupleIter i1 l1 k) (j2 : s.heap.IsTupleIter i2 l2 k) (j3 : s.heap.IsTupleIter i3 l3 k) (t1 : s.heap.IsTuple l1 xs) (t2 : s.heap.IsTuple l2 ys) (t3 : s.heap.IsTuple l3 vs) (hx : xs[k]? = some x) (hy : ys[k]? = some y) (hv : vs[k]? = some v)
    (kk : ∀ h', IsZip h' z TI TO (rawInt s.heap.objs.size) -> z1R h' TO x y v -> h'.IsTupleIter i1 l1 (k + 1) -> h'.IsTupleIter i2 l2 (k + 1) -> h'.IsTupleIter i3 l3 (k + 1) -> z1R h' s.heap.objs.size x y v -> h'.objs.size = s.heap.objs.size + 1 ->
      (∀ c o, c ≠ z -> c ≠ TO -> c ≠ i1 -> c ≠ i2 -> c ≠ i3 -> s.heap.get? c = some o -> h'.get? c = some o) -> Q (.ref s.heap.objs.size) { s with heap := h' }) :
    wpAny (model prog w) A (Builtin.«zip.__next__» ⟨[.ref z], []⟩) (fun fin s' => ∃ v, fin = .done (.ret v) /\ Q v s') E s := by
  show wpAny _ _ (field (.ref z) 2 >>= _) _ _ _
  refine wpAny_bind (wpAny_field gz rfl (x := .bool false) rfl ?_)
  show wpAny _ _ (field (.ref z) 3 >>= _) _ _ _
  refine wpAny_bind (wpAny_field gz rfl (x := .ref TI) rfl ?_)
  refine wpAny_bind (wpAny_seqItems gI rfl ?_)
  show wpAny _ _ (Builtin.SmallTypes.ownedTupleIsFree (.ref z) >>= _) _ _ _
  refine wpAny_bind ?_
  unfold Builtin.SmallTypes.ownedTupleIsFree
  refine wpAny_bind (wpAny_field gz rfl (x := .none) rfl (wpAny_pure ?_))
  simp only [if_true]
  refine wpAny_bind (wpAny_rule ?_)
  refine wpAny_bind (wpAny_field gz rfl (x := .ref TO) rfl ?_)
  refine wpAny_bind (wpAny_setField_rec gz (by simp) fun q1 gz1 b1 => ?_)
  replace gz1 : IsZip q1 z TI TO .ellipsis := gz1
  refine wpAny_bind ?_
  simp only [List.zipIdx_cons, List.zipIdx_nil, List.forIn_cons, List.forIn_nil]
  refine wpAny_bind (wpAny_bind (wpAny_onRaise ?_))
  show wpAny _ _ (Builtin.SmallTypes.nextOf (.ref i1) >>= _) _ _ _
  refine wpAny_bind (z0x (j1.extBut b1.extBut D.i1z) (t1.extBut b1.extBut D.l1z) hx fun q2 j12 b2 => wpAny_pure ?_)
  have gO2 : z1R q2 TO a b c := b2.extBut _ _ D.TOi1 (b1.extBut _ _ D.TOz gO)
  refine wpAny_bind (wpAny_seqItems gO2 rfl ?_)
  refine wpAny_bind (z2B gO2 fun q3 gO3 b3 => ?_)
  replace gO3 : z1R q3 TO x b c := gO3
  refine wpAny_bind (wpAny_letGo (wpAny_pure ?_))
  refine wpAny_bind (wpAny_bind (wpAny_onRaise ?_))
  show wpAny _ _ (Builtin.SmallTypes.nextOf (.ref i2) >>= _) _ _ _
  refine wpAny_bind (z0x (((j2.extBut b1.extBut D.i2z).extBut b2.extBut D.i12.symm).extBut b3.extBut D.TOi2.symm) (((t2.extBut b1.extBut D.l2z).extBut b2.extBut D.l2i1).extBut b3.extBut D.l2TO) hy fun q4 j24 b4 => wpAny_pure ?_)
  have gO4 : z1R q4 TO x b c := b4.extBut _ _ D.TOi2 gO3
  refine wpAny_bind (wpAny_seqItems gO4 rfl ?_)
  refine wpAny_bind (z2B gO4 fun q5 gO5 b5 => ?_)
  replace gO5 : z1R q5 TO x y c := gO5
  refine wpAny_bind (wpAny_letGo (wpAny_pure ?_))
  refine wpAny_bind (wpAny_bind (wpAny_onRaise ?_))
  show wpAny _ _ (Builtin.SmallTypes.nextOf (.ref i3) >>= _) _ _ _
  refine wpAny_bind (z0x (((((j3.extBut b1.extBut D.i3z).extBut b2.extBut D.i13.symm).extBut b3.extBut D.TOi3.symm).extBut b4.extBut D.i23.symm).extBut b5.extBut D.TOi3.symm) (((((t3.extBut b1.extBut D.l3z).extBut b2.extBut D.l3i1).extBut b3.extBut D.l3TO).extBut b4.extBut D.l3i2).extBut b5.extBut D.l3TO) hv fun q6 j36 b6 => wpAny_pure ?_)
  have gO6 : z1R q6 TO x y c := b6.extBut _ _ D.TOi3 gO5
  refine wpAny_bind (wpAny_seqItems gO6 rfl ?_)
  refine wpAny_bind (z2B gO6 fun q7 gO7 b7 => ?_)
  replace gO7 : z1R q7 TO x y v := gO7
  refine wpAny_bind (wpAny_letGo (wpAny_pure (wpAny_pure ?_)))
  refine wpAny_bind (wpAny_seqItems gO7 rfl ?_)
  refine wpAny_bind (wpAny_newTuple ?_)
  have sz : q7.objs.size = s.heap.objs.size := by rw [b7.1, b6.1, b5.1, b4.1, b3.1, b2.1, b1.1]
  have gz7 : IsZip q7 z TI TO .ellipsis := b7.extBut _ _ D.TOz.symm (b6.extBut _ _ D.i3z.symm (b5.extBut _ _ D.TOz.symm (b4.extBut _ _ D.i2z.symm (b3.extBut _ _ D.TOz.symm (b2.extBut _ _ D.i1z.symm gz1)))))
  have kk7 : ∀ c o, c ≠ z -> c ≠ TO -> c ≠ i1 -> c ≠ i2 -> c ≠ i3 -> s.heap.get? c = some o -> q7.get? c = some o := fun c o c1 c2 c3 c4 c5 e => b7.extBut _ _ c2 (b6.extBut _ _ c5 (b5.extBut _ _ c2 (b4.extBut _ _ c4 (b3.extBut _ _ c2 (b2.extBut _ _ c3 (b1.extBut _ _ c1 e))))))
  have j17 : q7.IsTupleIter i1 l1 (k + 1) := ((((j12.extBut b3.extBut D.TOi1.symm).extBut b4.extBut D.i12).extBut b5.extBut D.TOi1.symm).extBut b6.extBut D.i13).extBut b7.extBut D.TOi1.symm
  have j27 : q7.IsTupleIter i2 l2 (k + 1) := ((j24.extBut b5.extBut D.TOi2.symm).extBut b6.extBut D.i23).extBut b7.extBut D.TOi2.symm
  have j37 : q7.IsTupleIter i3 l3 (k + 1) := j36.extBut b7.extBut D.TOi3.symm
  have zlt : z < q7.objs.size := Heap.lt_size gz7
  show wpAny _ _ (Builtin.SmallTypes.ownedTupleHandOut (.ref z) (.ref q7.objs.size) >>= _) _ _ _
  refine wpAny_bind ?_
  unfold Builtin.SmallTypes.ownedTupleHandOut
  have gz8 : IsZip (q7.push { cls := .type "tuple", data := .seq #[x, y, v] }) z TI TO .ellipsis := Heap.get?_push_of_some _ gz7
  refine wpAny_bind (wpAny_setField_rec gz8 (by simp) fun q9 gz9 b9 => ?_)
  replace gz9 : IsZip q9 z TI TO (rawInt q7.objs.size) := gz9
  refine wpAny_setField_rec gz9 (by simp) fun q10 gz10 b10 => ?_
  replace gz10 : IsZip q10 z TI TO (rawInt q7.objs.size) := gz10
  have up : ∀ c o, c ≠ z -> q7.get? c = some o -> q10.get? c = some o := fun c o c1 e => b10.extBut _ _ c1 (b9.extBut _ _ c1 (Heap.get?_push_of_some _ e))
  have gT : z1R q10 q7.objs.size x y v := b10.extBut _ _ (Nat.ne_of_gt zlt) (b9.extBut _ _ (Nat.ne_of_gt zlt) (Heap.get?_push_size _ rfl))
  have sz10 : q10.objs.size = q7.objs.size + 1 := by rw [b10.1, b9.1, Heap.size_push]
  rw [sz] at gz10 gT sz10
  refine wpAny_pure ⟨_, rfl, ?_⟩
  show Q (.ref q7.objs.size) _
  rw [sz]
  exact kk q10 gz10 (up _ _ D.TOz gO7) (j17.at fun o e => up _ o D.i1z e) (j27.at fun o e => up _ o D.i2z e) (j37.at fun o e => up _ o D.i3z e) gT sz10 fun c o c1 c2 c3 c4 c5 e => up c o c1 (kk7 c o c1 c2 c3 c4 c5 e)
theorem z6y {z TI TO i1 i2 i3 l1 : Addr} {k : Nat} {xs : Array Value} {Q : PySem.Fin -> Shared -> Prop} (hh : A.handled = none) (i1z : i1 ≠ z) (l1z : l1 ≠ z)
    (gz : IsZip s.heap z TI TO .none) (gI : z1R s.heap TI (.ref i1) (.ref i2) (.ref i3))
    (j1 : s.heap.IsTupleIter i1 l1 k) (t1 : s.heap.IsTuple l1 xs) (hx : xs[k]? = none)
    (kE : ∀ h' e, (∀ c o, c ≠ z -> c ≠ i1 -> s.heap.get? c = some o -> h'.get? c = some o) -> (∃ o, h'.get? e = some o /\ o.cls = .type "StopIteration") -> E (.ref e) { s with heap := h' }) :
    wpAny (model prog w) A (Builtin.«zip.__next__» ⟨[.ref z], []⟩) Q E s := by
  show wpAny _ _ (field (.ref z) 2 >>= _) _ _ _
  refine wpAny_bind (wpAny_field gz rfl (x := .bool false) rfl ?_)
  show wpAny _ _ (field (.ref z) 3 >>= _) _ _ _
  refine wpAny_bind (wpAny_field gz rfl (x := .ref TI) rfl ?_)
  refine wpAny_bind (wpAny_seqItems gI rfl ?_)
  show wpAny _ _ (Builtin.SmallTypes.ownedTupleIsFree (.ref z) >>= _) _ _ _
  refine wpAny_bind ?_
  unfold Builtin.SmallTypes.ownedTupleIsFree
  refine wpAny_bind (wpAny_field gz rfl (x := .none) rfl (wpAny_pure ?_))
  simp only [if_true]
  refine wpAny_bind (wpAny_rule ?_)
  refine wpAny_bind (wpAny_field gz rfl (x := .ref TO) rfl ?_)
  refine wpAny_bind (wpAny_setField_rec gz (by simp) fun q1 gz1 b1 => ?_)
  replace gz1 : IsZip q1 z TI TO .ellipsis := gz1
  refine wpAny_bind ?_
  simp only [List.zipIdx_cons, List.zipIdx_nil, List.forIn_cons, List.forIn_nil]
  refine wpAny_bind (wpAny_bind (wpAny_onRaise ?_))
  show wpAny _ _ (Builtin.SmallTypes.nextOf (.ref i1) >>= _) _ _ _
  refine wpAny_bind (z27 hh (j1.extBut b1.extBut i1z) (t1.extBut b1.extBut l1z) hx fun q2 e b2 he => ?_)
  obtain ⟨oe, ge, ce⟩ := he
  have gz2 : IsZip q2 z TI TO .ellipsis := b2 _ _ i1z.symm gz1
  have ez : e ≠ z := fun p => by subst p; rw [gz2] at ge; cases ge; simp at ce
  exact wpAny_setField_rec gz2 (by simp) fun q3 _ b3 => kE q3 e (fun c o c1 c3 p => b3.extBut _ _ c1 (b2 _ _ c3 (b1.extBut _ _ c1 p))) ⟨oe, b3.extBut _ _ ez ge, ce⟩
theorem z2S (a b c : Value) : checkTypeCall "zip" ⟨[a, b, c], []⟩ = pure () := by kernel_rfl
theorem z30 (a b c : Value) : checkBuiltinCall "zip.__new__" ⟨[.type "zip", a, b, c], []⟩ = pure () := by kernel_rfl
theorem z41 (a b c d : Value) : argsOk "object.__init__" ⟨[a, b, c, d], []⟩ := by
  unfold argsOk; rw [signature?_of (id := "object.__init__") (n := ['_', '_', 't', 'i', 'n', 'i', '_', '_']) (o := ['t', 'c', 'e', 'j', 'b', 'o']) (by kernel_rfl) F.owner_object]; kernel_rfl
abbrev zw1 (h : Heap) (l1 : Addr) : Heap := h.push { cls := .type "tuple_iterator", data := .fields #[.ref l1, .int 0 0] }
abbrev zw2 (h : Heap) (l1 l2 : Addr) : Heap := (zw1 h l1).push { cls := .type "tuple_iterator", data := .fields #[.ref l2, .int 0 0] }
abbrev zw3 (h : Heap) (l1 l2 l3 : Addr) : Heap := (zw2 h l1 l2).push { cls := .type "tuple_iterator", data := .fields #[.ref l3, .int 0 0] }
abbrev zw4 (h : Heap) (l1 l2 l3 : Addr) : Heap := (zw3 h l1 l2 l3).push { cls := .type "tuple", data := .seq #[.ref h.objs.size, .ref (zw1 h l1).objs.size, .ref (zw2 h l1 l2).objs.size] }
abbrev zw5 (h : Heap) (l1 l2 l3 : Addr) : Heap := (zw4 h l1 l2 l3).push { cls := .type "tuple", data := .seq #[.none, .none, .none] }
abbrev zw6 (h : Heap) (l1 l2 l3 : Addr) : Heap := (zw5 h l1 l2 l3).push { cls := .type "zip", data := .fields #[.none, .bool false, .bool false, .ref (zw3 h l1 l2 l3).objs.size, .ref (zw4 h l1 l2 l3).objs.size] }
theorem z4p (l1 l2 l3 : Addr) (xs ys vs : Array Value) :
    Meets (Builtin.«zip.__new__» ⟨[.type "zip", .ref l1, .ref l2, .ref l3], []⟩) (fun _ R s => s.heap.IsTuple l1 xs /\ s.heap.IsTuple l2 ys /\ s.heap.IsTuple l3 vs /\ R (.ok (.ret (.ref (zw5 s.heap l1 l2 l3).objs.size))) { s with heap := zw6 s.heap l1 l2 l3 }) :=
  .of_wp fun prog w A R s h => by
    obtain ⟨hp, g, d, tk, os⟩ := s
    obtain ⟨t1, t2, t3, h⟩ := h
    have hsub := sub_zip
    have hL1 : Heap.IsTuple (Shared.heap ⟨hp, g, d, tk, os⟩) l1 xs := t1
    have hL2 : Heap.IsTuple (Shared.heap ⟨hp.push { cls := .type "tuple_iterator", data := .fields #[.ref l1, .int 0 0] }, g, d, tk, os⟩) l2 ys := t2.at fun o e => Heap.get?_push_of_some _ e
    have hL3 : Heap.IsTuple (Shared.heap ⟨(hp.push { cls := .type "tuple_iterator", data := .fields #[.ref l1, .int 0 0] }).push { cls := .type "tuple_iterator", data := .fields #[.ref l2, .int 0 0] }, g, d, tk, os⟩) l3 vs := (t3.at fun o e => Heap.get?_push_of_some _ e).at fun o e => Heap.get?_push_of_some _ e
    wp_walk using wpAny_pyIter_tuple hL1, wpAny_pyIter_tuple hL2, wpAny_pyIter_tuple hL3
    exact ⟨_, rfl, h⟩
theorem z6E {l1 l2 l3 : Addr} {xs ys vs : Array Value} {Q : Value -> Shared -> Prop} (t1 : s.heap.IsTuple l1 xs) (t2 : s.heap.IsTuple l2 ys) (t3 : s.heap.IsTuple l3 vs)
    (h : ∀ h', IsZip h' (s.heap.objs.size + 5) (s.heap.objs.size + 3) (s.heap.objs.size + 4) .none -> z1R h' (s.heap.objs.size + 3) (.ref s.heap.objs.size) (.ref (s.heap.objs.size + 1)) (.ref (s.heap.objs.size + 2)) ->
      z1R h' (s.heap.objs.size + 4) .none .none .none -> h'.IsTupleIter s.heap.objs.size l1 0 -> h'.IsTupleIter (s.heap.objs.size + 1) l2 0 -> h'.IsTupleIter (s.heap.objs.size + 2) l3 0 ->
      (∀ c o, s.heap.get? c = some o -> h'.get? c = some o) -> Q (.ref (s.heap.objs.size + 5)) { s with heap := h' }) :
    wpAny (model prog w) A (call (.type "zip") [.ref l1, .ref l2, .ref l3]) Q E s := by
  refine callType_new F.called_zip (by decide) (z2S _ _ _) (z30 _ _ _) (fun obj => z41 obj _ _ _) F.entry_zip_new (z4p l1 l2 l3 xs ys vs) ⟨t1, t2, t3, ?_⟩
  have z1 : (zw1 s.heap l1).objs.size = s.heap.objs.size + 1 := Heap.size_push ..
  have z2 : (zw2 s.heap l1 l2).objs.size = s.heap.objs.size + 2 := by rw [Heap.size_push, z1]
  have z3 : (zw3 s.heap l1 l2 l3).objs.size = s.heap.objs.size + 3 := by rw [Heap.size_push, z2]
  have z4 : (zw4 s.heap l1 l2 l3).objs.size = s.heap.objs.size + 4 := by rw [Heap.size_push, z3]
  have z5 : (zw5 s.heap l1 l2 l3).objs.size = s.heap.objs.size + 5 := by rw [Heap.size_push, z4]
  have g6 : (zw6 s.heap l1 l2 l3).get? (zw5 s.heap l1 l2 l3).objs.size = some _ := Heap.get?_push_size _ rfl
  have g5 : (zw6 s.heap l1 l2 l3).get? (zw4 s.heap l1 l2 l3).objs.size = some _ := Heap.get?_push_of_some _ (Heap.get?_push_size _ rfl)
  have g4 : (zw6 s.heap l1 l2 l3).get? (zw3 s.heap l1 l2 l3).objs.size = some _ := Heap.get?_push_of_some _ (Heap.get?_push_of_some _ (Heap.get?_push_size _ rfl))
  have g3 : (zw6 s.heap l1 l2 l3).get? (zw2 s.heap l1 l2).objs.size = some _ := Heap.get?_push_of_some _ (Heap.get?_push_of_some _ (Heap.get?_push_of_some _ (Heap.get?_push_size _ rfl)))
  have g2 : (zw6 s.heap l1 l2 l3).get? (zw1 s.heap l1).objs.size = some _ := Heap.get?_push_of_some _ (Heap.get?_push_of_some _ (Heap.get?_push_of_some _ (Heap.get?_push_of_some _ (Heap.get?_push_size _ rfl))))
  have g1 : (zw6 s.heap l1 l2 l3).get? s.heap.objs.size = some _ := Heap.get?_push_of_some _ (Heap.get?_push_of_some _ (Heap.get?_push_of_some _ (Heap.get?_push_of_some _ (Heap.get?_push_of_some _ (Heap.get?_push_size _ rfl)))))
  show _ /\ _
  rw [z3, z4, z5] at g6
  rw [z1, z2, z3] at g4
  rw [z4] at g5
  rw [z2] at g3
  rw [z1] at g2
  rw [z5]
  exact ⟨⟨_, g6, rfl⟩, h _ g6 g4 g5 ⟨_, g1, rfl, rfl⟩ ⟨_, g2, rfl, rfl⟩ ⟨_, g3, rfl, rfl⟩ fun c o p => Heap.get?_push_of_some _ (Heap.get?_push_of_some _ (Heap.get?_push_of_some _ (Heap.get?_push_of_some _ (Heap.get?_push_of_some _ (Heap.get?_push_of_some _ p)))))⟩
end
def Itw (K : PySem.W.Frag) (a b c : Addr) (xs ys zs : List V) : It :=
  ⟨fun i H => SqT K H a xs /\ SqT K H b ys /\ SqT K H c zs /\ i < xs.length /\ i < ys.length /\ i < zs.length, fun i H x H' => ∃ T u v r, H T = none /\ x = .ref T /\ H' = upd H T (.tup [u, v, r]) /\ xs[i]? = some u /\ ys[i]? = some v /\ zs[i]? = some r,
    fun i H => SqT K H a xs /\ xs.length <= i⟩
theorem z6F {P : Program} {w : World} {K : PySem.W.Frag} {es : List Expr} {k : Nat} {pos : Pos} (z TI TO i1 i2 i3 a b c : Addr) (xs ys zs : List V) (D : Ap3 z TI TO i1 i2 i3 a b c) :
    Turn P w K (.Tuple es k pos) (Itw K a b c xs ys zs) [z, TI, TO, i1, i2, i3] z (fun i h => IsZip h z TI TO .none /\ z1R h TI (.ref i1) (.ref i2) (.ref i3) /\ (∃ u v r, z1R h TO u v r) /\ h.IsTupleIter i1 a i /\ h.IsTupleIter i2 b i /\ h.IsTupleIter i3 c i) where
  mem := List.mem_cons_self
  obj := fun i h st d hc => by
    obtain ⟨gz, gI, ⟨u, v, r, gO⟩, ⟨o1, e1, c1, d1⟩, ⟨o2, e2, c2, d2⟩, ⟨o3, e3, c3, d3⟩⟩ := st
    simp only [List.mem_cons, List.mem_nil_iff, or_false] at hc
    rcases hc with rfl | rfl | rfl | rfl | rfl | rfl
    . exact ⟨_, gz, fun v q => by cases q⟩
    . exact ⟨_, gI, fun v q => by cases q⟩
    . exact ⟨_, gO, fun v q => by cases q⟩
    . exact ⟨o1, e1, fun v q => by rw [d1] at q; cases q⟩
    . exact ⟨o2, e2, fun v q => by rw [d2] at q; cases q⟩
    . exact ⟨o3, e3, fun v q => by rw [d3] at q; cases q⟩
  keep := fun i h h' st kk => by
    obtain ⟨gz, gI, ⟨u, v, r, gO⟩, j1, j2, j3⟩ := st
    exact ⟨kk z (by simp) _ gz, kk TI (by simp) _ gI, ⟨u, v, r, kk TO (by simp) _ gO⟩, j1.at fun o e => kk i1 (by simp) o e, j2.at fun o e => kk i2 (by simp) o e, j3.at fun o e => kk i3 (by simp) o e⟩
  item := by
    intro X hP hw hK hc i pins s σ H E I hf st hg
    subst hP hw hK
    obtain ⟨ha, hb, hc', hi, hj, hk⟩ := hg
    obtain ⟨gz, gI, ⟨p, q, r', gO⟩, j1, j2, j3⟩ := st
    obtain ⟨its1, rv1, t1, _⟩ := I.tuple ha
    obtain ⟨its2, rv2, t2, _⟩ := I.tuple hb
    obtain ⟨its3, rv3, t3, _⟩ := I.tuple hc'
    have hx : xs[i]? = some xs[i] := List.getElem?_eq_getElem hi
    have hy : ys[i]? = some ys[i] := List.getElem?_eq_getElem hj
    have hz : zs[i]? = some zs[i] := List.getElem?_eq_getElem hk
    obtain ⟨u, hu, ru⟩ := rv1.get hx
    obtain ⟨v, hv, rv⟩ := rv2.get hy
    obtain ⟨r, hr, rr⟩ := rv3.get hz
    have nT : H s.heap.objs.size = none := I.hok.fresh (Nat.le_refl _)
    have F0 : ∀ d ∈ [z, TI, TO, i1, i2, i3], H d = none := fun d hd => (hf d hd).1
    have ty : s.TypeIs (.ref z) "zip" := ⟨_, gz, rfl⟩
    unfold pyNext
    refine wpAny_bind (wpAny_attempt (wpAny_callSpecial?_slot (name := Str.ofString "__next__") ty F.slot_zip_next (wpAny_call_entry F.slot_zip_next ty F.entry_zip_next
      (z6D D gz gI gO j1 j2 j3 (show s.heap.IsTuple a its1.toArray from t1) (show s.heap.IsTuple b its2.toArray from t2) (show s.heap.IsTuple c its3.toArray from t3) (x := u) (y := v) (v := r) (by simpa using hu) (by simpa using hv) (by simpa using hr) fun h' a1 a2 a3 a4 a4' a5 a6 a7 => wpAny_pure ?_) (F.args_zip_next_1 _))))
    refine ⟨.ref s.heap.objs.size, rfl, wpAny_letOwnedTupleGo_zip a1 fun h'' gz'' sb => ?_⟩
    have lt : ∀ {c o}, s.heap.get? c = some o -> c ≠ s.heap.objs.size := fun e => Nat.ne_of_lt (Heap.lt_size e)
    have kk : ∀ d o, d ∉ [z, TO, i1, i2, i3] -> s.heap.get? d = some o -> h''.get? d = some o := fun d o hd e => by
      simp only [List.mem_cons, List.mem_nil_iff, or_false, not_or] at hd
      exact (sb.2 d hd.1).trans (a7 d o hd.1 hd.2.1 hd.2.2.1 hd.2.2.2.1 hd.2.2.2.2 e)
    have gT : z1R h'' s.heap.objs.size u v r := (sb.2 _ (Ne.symm (lt gz))).trans a5
    have sub : ∀ d, d ∈ [z, TO, i1, i2, i3] -> d ∈ [z, TI, TO, i1, i2, i3] := fun d hd => by
      simp only [List.mem_cons, List.mem_nil_iff, or_false] at hd ⊢
      rcases hd with h | h | h | h | h <;> simp [h]
    have nb : ∀ d y, H d = some y -> d ∉ [z, TO, i1, i2, i3] := fun d y e hd => by
      rw [F0 d (sub d hd)] at e
      cases e
    have I1 : Inv X pins σ (upd H s.heap.objs.size (.tup [xs[i], ys[i], zs[i]])) { s with heap := h'', toks := s.toks } := by
      refine I.step (g' := s.gens) (d' := s.drawn) (ch := [z, TO, i1, i2, i3]) (fun d hd => ?_) (fun d o _ _ hd e _ => kk d o hd e) (fun d o _ _ hd e _ => ⟨o.slots, kk d o hd e⟩) (fun d o _ e n => ?_)
        (fun d o hd e => ⟨o, kk d o hd e⟩) (fun d zs e => ?_) (fun d ob y e => ?_) (fun d ps e => ⟨#[], ?_⟩) (fun m hm => ?_) (fun d y e => ?_) I.bare
      . obtain ⟨_, f1, _, f3, f4, f5⟩ := hf d (sub d hd)
        exact ⟨f3, f1, f4, f5⟩
      . rw [z06 (lt e)]
        exact n
      . rw [z06 (z08 e nT)]
        exact e
      . rw [z06 (z08 e nT)]
        exact e
      . rw [z06 (z08 e nT), e]
        simp
      . obtain ⟨o, es', ep, ho', r⟩ := hm
        refine ⟨o, es', ep, kk _ o (fun hd => ?_) ho', r⟩
        exact (hf _ (sub _ hd)).2.1 rfl
      . by_cases hb' : d = s.heap.objs.size
        . subst hb'
          rw [upd_same] at e
          cases e
          exact ⟨by show 3 <= sizeLine; decide, [u, v, r], .cons ru (.cons rv (.cons rr .nil)), _, gT, rfl, _, rfl⟩
        . rw [z06 hb'] at e
          refine (I.hok d y e).stay (fun d' o hd e' => ?_) (fun d' e' => by rw [z06 (z08 e' nT)]; exact e') fun d' zs e' => by rw [z06 (z08 e' nT)]; exact e'
          rcases hd with h | h
          . subst h
            exact kk d' o (nb d' y e) e'
          . exact kk d' o (nb d' _ h) e'
    refine ⟨.ref s.heap.objs.size, _, I1, rfl, ⟨_, xs[i], ys[i], zs[i], nT, rfl, rfl, hx, hy, hz⟩, ⟨gz'', (sb.2 _ D.TIz).trans (a7 _ _ D.TIz D.TITO D.TIi1 D.TIi2 D.TIi3 gI), ⟨_, _, _, (sb.2 _ D.TOz).trans a2⟩, a3.at fun o e => (sb.2 _ D.i1z).trans e, a4.at fun o e => (sb.2 _ D.i2z).trans e, a4'.at fun o e => (sb.2 _ D.i3z).trans e⟩, fun d hd => ?_⟩
    rw [z06]
    . exact F0 d hd
    . simp only [List.mem_cons, List.mem_nil_iff, or_false] at hd
      rcases hd with rfl | rfl | rfl | rfl | rfl | rfl
      . exact lt gz
      . exact lt gI
      . exact lt gO
      . obtain ⟨_, e, _⟩ := j1; exact lt e
      . obtain ⟨_, e, _⟩ := j2; exact lt e
      . obtain ⟨_, e, _⟩ := j3; exact lt e
  done := by
    intro X hP hw hK hc i pins s σ H E I hf st hg
    subst hP hw hK
    obtain ⟨ha, hend⟩ := hg
    obtain ⟨gz, gI, ⟨p, q, r', gO⟩, j1, j2, j3⟩ := st
    obtain ⟨its1, rv1, t1, _⟩ := I.tuple ha
    have l1 := rv1.length
    have hx : its1.toArray[i]? = none := by rw [List.getElem?_toArray]; exact List.getElem?_eq_none (by omega)
    have sub : ∀ d, d ∈ [z, i1] -> d ∈ [z, TI, TO, i1, i2, i3] := fun d hd => by
      simp only [List.mem_cons, List.mem_nil_iff, or_false] at hd ⊢
      rcases hd with h | h <;> simp [h]
    have nb : ∀ d y, H d = some y -> d ∉ [z, i1] := fun d y e hd => by
      rw [(hf d (sub d hd)).1] at e
      cases e
    have ty : s.TypeIs (.ref z) "zip" := ⟨_, gz, rfl⟩
    unfold pyNext
    refine wpAny_bind (wpAny_attempt (wpAny_callSpecial?_slot (name := Str.ofString "__next__") ty F.slot_zip_next (wpAny_call_entry F.slot_zip_next ty F.entry_zip_next
      (z6y (I.ok.hd hc) D.i1z D.l1z gz gI j1 (show s.heap.IsTuple a its1.toArray from t1) hx fun h' e a7 he => ?_) (F.args_zip_next_1 _))))
    obtain ⟨oe, hoe, hce⟩ := he
    refine wpAny_bind (wpAny_isInstance (T := "StopIteration") (b := true) ⟨oe, hoe, hce⟩ isSubtype_stop ?_)
    refine wpAny_pure ⟨rfl, ?_⟩
    have kk : ∀ d o, d ∉ [z, i1] -> s.heap.get? d = some o -> h'.get? d = some o := fun d o hd e => by
      simp only [List.mem_cons, List.mem_nil_iff, or_false, not_or] at hd
      exact a7 d o hd.1 hd.2 e
    refine I.step (t' := s.toks) (g' := s.gens) (d' := s.drawn) (ch := [z, i1]) (fun d hd => ?_) (fun d o _ _ hd e _ => kk d o hd e) (fun d o _ _ hd e _ => ⟨o.slots, kk d o hd e⟩) (fun d o _ e n => n)
      (fun d o hd e => ⟨o, kk d o hd e⟩) (fun d zs e => e) (fun d ob y e => e) (fun d ps e => ⟨#[], by rw [e]; simp⟩) (fun m hm => ?_) (fun d y e => ?_) I.bare
    . obtain ⟨_, f1, _, f3, f4, f5⟩ := hf d (sub d hd)
      exact ⟨f3, f1, f4, f5⟩
    . obtain ⟨o, es', ep, ho', r⟩ := hm
      exact ⟨o, es', ep, kk _ o (fun hd => (hf _ (sub _ hd)).2.1 rfl) ho', r⟩
    . refine (I.hok d y e).stay (fun d' o hd e' => ?_) (fun d' e' => e') fun d' zs e' => e'
      rcases hd with h | h
      . subst h
        exact kk d' o (nb d' y e) e'
      . exact kk d' o (nb d' _ h) e'
  self := fun _ _ _ _ _ st h => wpAny_pyIter_zip st.1 h
section
variable {X : Cx}
theorem vals3 {x y z : V} {us : List Value} (h : Vals [x, y, z] us) : ∃ a b c, us = [a, b, c] /\ RelV x a /\ RelV y b /\ RelV z c := by
  cases h with
  | cons h1 t => cases t with
    | cons h2 t => cases t with
      | cons h3 t => cases t; exact ⟨_, _, _, rfl, h1, h2, h3⟩
def zA8 (K : PySem.W.Frag) (ta : TA) : TI := fun σ H R => ta σ H fun vs H1 => ∃ a b c xs ys zs, vs = [.ref a, .ref b, .ref c] /\ SqT K H1 a xs /\ SqT K H1 b ys /\ SqT K H1 c zs /\ R (Itw K a b c xs ys zs) H1
theorem z83 {e1 e2 e3 : Expr} {ta : TA} {p pos : Pos} {es : List Expr} {k : Nat} {tp : Pos} (hg : Gl X "zip") (hm : X.mg "zip" = none) (ha : PA X [e1, e2, e3] ta) (hs : starEach [e1, e2, e3] X.env = (false, eval e1 X.env) :: starEach [e2, e3] X.env := by rfl) (hp : (backTo pos (starEach [e2, e3] X.env)).any (·.1) = false := by rfl) :
    PI X (.Tuple es k tp) (.Call (.Name "zip" p) [e1, e2, e3] [] pos) (zA8 X.K ta) := by
  intro pins s σ H R I h
  refine Call_ (z1X I hg hm boot_zip (PyProof.Rows.callWith_type1 (thn (ha pos pins s σ H _ I h) fun us s1 ⟨vs, H1, I1, r1, q1⟩ => ?_) hs hp))
  obtain ⟨a, b, c, xs, ys, zs, e, ta', tb', tc', q⟩ := q1
  subst e
  obtain ⟨u, v, r, rfl, ru, rv, rr⟩ := vals3 r1
  cases (show u = Value.ref a from ru)
  cases (show v = Value.ref b from rv)
  cases (show r = Value.ref c from rr)
  obtain ⟨its1, rv1, t1, _⟩ := I1.tuple ta'
  obtain ⟨its2, rv2, t2, _⟩ := I1.tuple tb'
  obtain ⟨its3, rv3, t3, _⟩ := I1.tuple tc'
  have la : a < s1.heap.objs.size := by obtain ⟨_, e, _⟩ := t1; exact Heap.lt_size e
  have lb : b < s1.heap.objs.size := by obtain ⟨_, e, _⟩ := t2; exact Heap.lt_size e
  have lc : c < s1.heap.objs.size := by obtain ⟨_, e, _⟩ := t3; exact Heap.lt_size e
  refine z6E (show s1.heap.IsTuple a its1.toArray from t1) (show s1.heap.IsTuple b its2.toArray from t2) (show s1.heap.IsTuple c its3.toArray from t3) fun h' a1 a2 a3 a4 a5 a6 a7 => ?_
  refine wpAny_pyIter_zip (s := { s1 with heap := h' }) a1 ?_
  refine ⟨s1.heap.objs.size + 5, [s1.heap.objs.size + 5, s1.heap.objs.size + 3, s1.heap.objs.size + 4, s1.heap.objs.size, s1.heap.objs.size + 1, s1.heap.objs.size + 2], _, _, H1, rfl, I1.kept (t' := s1.toks) a7,
    z6F _ _ _ _ _ _ a b c xs ys zs (z82 la lb lc), ⟨a1, a2, ⟨_, _, _, a3⟩, a4, a5, a6⟩, fun d hd => ?_, q⟩
  have ge : s1.heap.objs.size <= d := by
    simp only [List.mem_cons, List.mem_nil_iff, or_false] at hd
    rcases hd with e | e | e | e | e | e <;> rw [e]
    . exact Nat.le_add_right _ _
    . exact Nat.le_add_right _ _
    . exact Nat.le_add_right _ _
    . exact Nat.le_refl _
    . exact Nat.le_add_right _ _
    . exact Nat.le_add_right _ _
  exact I1.fpOk ge (I1.hok.fresh ge)
end
section
variable {X : Cx}
def zCC (K : PySem.W.Frag) : R2 := fun x y H Q => ∃ (a b : Addr) (xs : List V), x = .ref a /\ y = .ref b /\ SqL K H a xs /\ SqL K H b [] /\ Q (.bl (decide (xs.length = 0))) H
end
structure Df2 (K : PySem.W.Frag) (mg : Str -> Option Value) (x : Str) (st : Stmt) (ps : List Str) (f : Addr) (fd : FuncData) (T : Addr) (d e : Int) : Prop where
  F : FunD K x x st f fd T
  b : Binds K fd ps []
  b1 : ∃ t, Binds K fd ps [.int e t]
  b2 : ∃ t u, Binds K fd ps [.int d t, .int e u]
  m : mg x = some (.ref f)
section
variable {P : Program} {w : World} {K : PySem.W.Frag} {mg : Str -> Option Value} {base : Heap} {x : Str} {st : Stmt} {ps : List Str} {f T : Addr} {fd : FuncData} {k : Nat} {sp : Sp} {d e : Int}
theorem Df2.ow (D : Df2 K mg x st ps f fd T d e) (F : FnOk P w K mg base CX0 k f fd ps sp) : Ow P w K mg base x ps k sp := ⟨f, fd, D.m, D.F.kp, D.b, F⟩
theorem Df2.owd1 (D : Df2 K mg x st ps f fd T d e) (F : FnOk P w K mg base CX0 k f fd ps sp) : Owd P w K mg base x ps [.int e] k sp := by
  obtain ⟨t, b⟩ := D.b1
  exact ⟨f, fd, [.int e t], D.m, D.F.kp, b, .cons ⟨_, rfl⟩ .nil, F⟩
theorem Df2.owd2 (D : Df2 K mg x st ps f fd T d e) (F : FnOk P w K mg base CX0 k f fd ps sp) : Owd P w K mg base x ps [.int d, .int e] k sp := by
  obtain ⟨t, u, b⟩ := D.b2
  exact ⟨f, fd, [.int d t, .int e u], D.m, D.F.kp, b, .cons ⟨_, rfl⟩ (.cons ⟨_, rfl⟩ .nil), F⟩
end
end L2
namespace L2
open PySem PySem.Spec PyProof.Rows G
def z2C : Sp := fun vs H Q _ => ∃ w lo up m : Int, vs = [.int w, .int lo, .int up, .int m] /\ 0 <= w /\ w <= 64 /\ 0 <= m /\ Q (.int (Builtin.bitOr (Builtin.bitAnd lo (Builtin.bitNot (roomI w.toNat m))) up)) H
def z0U (us cs : Rws) : Rws := List.zipWith layR us cs
theorem z2D {us cs : Rws} {j : Nat} {u c : List (Option Int)} (hu : us[j]? = some u) (hc : cs[j]? = some c) : (z0U us cs)[j]? = some (layR u c) := by
  unfold z0U
  rw [List.getElem?_zipWith, hu, hc]
theorem z2E {us cs : Rws} (h : us.length = cs.length) : (z0U us cs).length = us.length := by
  unfold z0U
  rw [List.length_zipWith, h, Nat.min_self]
def llR (w w2 h2 : Nat) (rows rows2 : Rws) (x y : Int) (j : Nat) : List (Option Int) := (List.range w).map fun (i : Nat) => (look w2 h2 rows2 ((i : Int) - x) ((j : Int) - y)).or (z0Z rows i j)
theorem z84 {w h w2 h2 : Nat} {rows rows2 : Rws} (R : Rect w h rows) (R2 : Rect w2 h2 rows2) (x y : Int) : (List.range h).map (llR w w2 h2 rows rows2 x y) = z0U rows (cutRows rows2 (-x) (-y) w h) := by
  have hR := R.len
  refine List.ext_getElem? fun j => ?_
  by_cases hj : j < h
  . have hl : j < rows.length := by omega
    have hu : rows[j]? = some (rows[j]'hl) := List.getElem?_eq_getElem hl
    have hc : (cutRows rows2 (-x) (-y) w h)[j]? = some (z3S rows2 (-x) (-y + (j : Int)) w) := by
      unfold cutRows
      rw [List.getElem?_map, List.getElem?_range hj]
      rfl
    have hw := (R.row0 hl).1
    rw [z2D hu hc, List.getElem?_map, List.getElem?_range hj]
    show some (llR w w2 h2 rows rows2 x y j) = _
    congr 1
    refine List.ext_getElem? fun i => ?_
    by_cases hi : i < w
    . rw [z67 _ _ i (by rw [z1w]; omega) (by omega)]
      unfold llR z3S
      rw [List.getElem?_map, List.getElem?_range hi, List.getElem?_map, List.getElem?_range hi]
      show some ((look w2 h2 rows2 ((i : Int) - x) ((j : Int) - y)).or (z0Z rows i j)) = some ((Option.some (atR (rowAt rows2 (-y + (j : Int))) (-x + (i : Int)))).join.or _)
      have e1 : (i : Int) - x = -x + (i : Int) := by omega
      have e2 : (j : Int) - y = -y + (j : Int) := by omega
      rw [z1V R2, e1, e2]
      have e3 : z0Z rows i j = ((rows[j]'hl)[i]?).join := by
        unfold z0Z
        rw [hu]
        rfl
      rw [e3]
      rfl
    . rw [List.getElem?_eq_none (by unfold llR; rw [List.length_map, List.length_range]; omega), List.getElem?_eq_none (by rw [z66 _ _ (by rw [z1w]; omega)]; omega)]
  . rw [List.getElem?_eq_none (by rw [List.length_map, List.length_range]; omega), List.getElem?_eq_none (by rw [z2E (by rw [z1K]; omega)]; omega)]
def z7T : Sp := fun vs H Q _ => ∃ (p o : Addr) (x y : Int) (w h w2 h2 : Nat) (rows rows2 : Rws), vs = [.ref p, .ref o, .int x, .int y] /\ PicAt H p w rows /\ Rect w h rows /\ PicAt H o w2 rows2 /\ Rect w2 h2 rows2 /\
  ∀ q H', Same H H' -> PicAt H' q w (z0U rows (cutRows rows2 (-x) (-y) w h)) -> Q (.ref q) H'
def zA9 : Sp := fun vs H Q _ => ∃ (l m : Addr) (x y : Int) (w h w2 h2 : Nat) (ps ps2 : List Addr) (rows rows2 : Rws), vs = [.ref l, .ref m, .int x, .int y] /\ RowsAt H l ps rows /\ Rect w h rows /\ RowsAt H m ps2 rows2 /\ Rect w2 h2 rows2 /\
  ∀ l' ps' H', Same H H' -> RowsAt H' l' ps' (z0U rows (cutRows rows2 (-x) (-y) w h)) -> Q (.ref l') H'
def zAl : Sp := fun vs H Q _ => ∃ (p : Addr) (w h : Nat) (rows : Rws), vs = [.ref p] /\ PicAt H p w rows /\ Rect w h rows /\ Q (.int (z09 (z68 w rows))) H
def zAm (w : Nat) (rows : Rws) : Option (List Int) := if z09 (z68 w rows) = 0 then none else some [(loI (z68 w rows) : Int), (loI (anyR rows) : Int), (hiI (z68 w rows) : Int) - (loI (z68 w rows) : Int), (hiI (anyR rows) : Int) - 1 - (loI (anyR rows) : Int) + 1]
def BoxV (H : Hp) (v : V) : Option (List Int) -> Prop
  | none => v = .non
  | some zs => ∃ t, v = .ref t /\ H t = some (.tup (zs.map V.int))
theorem BoxV.mono {H H' : Hp} {v : V} {b : Option (List Int)} (s : Same H H') (h : BoxV H v b) : BoxV H' v b := by
  cases b with
  | none => exact h
  | some zs => obtain ⟨t, e, g⟩ := h; exact ⟨t, e, s _ _ g⟩
def zBY : Sp := fun vs H Q _ => ∃ (p : Addr) (w h : Nat) (rows : Rws), vs = [.ref p] /\ PicAt H p w rows /\ Rect w h rows /\ ∀ v H', Same H H' -> BoxV H' v (zAm w rows) -> Q v H'
def zAn : Sp := fun vs H Q _ => ∃ (l : Addr) (ps : List Addr) (w h : Nat) (rows : Rws), vs = [.ref l] /\ RowsAt H l ps rows /\ Rect w h rows /\ ∀ v H', Same H H' -> BoxV H' v (zAm w rows) -> Q v H'
def pt (rows : Rws) (x y : Nat) : Prop := (z0Z rows x y).isSome = true
theorem zAA {w h : Nat} {rows : Rws} (R : Rect w h rows) {x y : Nat} (p : pt rows x y) : x < w /\ y < h := by
  have hR := R.len
  unfold pt z0Z at p
  cases hr : rows[y]? with
  | none =>
    rw [hr] at p
    have p' : ((([] : List (Option Int))[x]?).join).isSome = true := p
    cases x <;> cases p'
  | some r =>
    rw [hr] at p
    have hw := (R.row r (List.mem_of_getElem? hr)).1
    have hy := (List.getElem?_eq_some_iff.mp hr).1
    have hx := z8u (r := r) (i := x) p
    omega
structure Gone (w : Nat) (rows : Rws) (y x : Nat) (A D : List Int) : Prop where
  len : A.length = D.length
  small : A.length <= y * w + x
  a : ∀ z, z ∈ A ↔ ∃ x' y' : Nat, (y' < y \/ (y' = y /\ x' < x)) /\ pt rows x' y' /\ z = (x' : Int)
  d : ∀ z, z ∈ D ↔ ∃ x' y' : Nat, (y' < y \/ (y' = y /\ x' < x)) /\ pt rows x' y' /\ z = (y' : Int)
theorem Gone.nil {w : Nat} {rows : Rws} : Gone w rows 0 0 [] [] :=
  ⟨rfl, Nat.zero_le _, fun z => ⟨(fun h => nomatch h), fun ⟨x', y', h, _⟩ => by omega⟩, fun z => ⟨(fun h => nomatch h), fun ⟨x', y', h, _⟩ => by omega⟩⟩
theorem Gone.hole {w : Nat} {rows : Rws} {y x : Nat} {A D : List Int} (g : Gone w rows y x A D) (n : z0Z rows x y = none) : Gone w rows y (x + 1) A D := by
  have np : ¬ pt rows x y := fun p => by unfold pt at p; rw [n] at p; cases p
  have key : ∀ x' y' : Nat, pt rows x' y' -> ((y' < y \/ (y' = y /\ x' < x)) ↔ (y' < y \/ (y' = y /\ x' < x + 1))) := fun x' y' p => by
    constructor
    . rintro (h | ⟨h1, h2⟩)
      . exact .inl h
      . exact .inr ⟨h1, by omega⟩
    . rintro (h | ⟨h1, h2⟩)
      . exact .inl h
      . by_cases e : x' = x
        . rw [e, h1] at p
          exact absurd p np
        . exact .inr ⟨h1, by omega⟩
  refine ⟨g.len, by have := g.small; omega, fun z => (g.a z).trans ⟨?_, ?_⟩, fun z => (g.d z).trans ⟨?_, ?_⟩⟩
  all_goals
    rintro ⟨x', y', h, p, e⟩
    exact ⟨x', y', by first | exact (key x' y' p).mp h | exact (key x' y' p).mpr h, p, e⟩
theorem Gone.put {w : Nat} {rows : Rws} {y x : Nat} {A D : List Int} (g : Gone w rows y x A D) {c : Int} (n : z0Z rows x y = some c) : Gone w rows y (x + 1) (A ++ [(x : Int)]) (D ++ [(y : Int)]) := by
  have p0 : pt rows x y := by unfold pt; rw [n]; rfl
  have l := g.len
  refine ⟨by rw [List.length_append, List.length_append, l]; rfl, by rw [List.length_append]; have := g.small; show _ + 1 <= _; omega, fun z => ?_, fun z => ?_⟩
  . rw [List.mem_append, g.a z, List.mem_singleton]
    constructor
    . rintro (⟨x', y', h, p, e⟩ | e)
      . exact ⟨x', y', by omega, p, e⟩
      . exact ⟨x, y, by omega, p0, e⟩
    . rintro ⟨x', y', h, p, e⟩
      by_cases q : y' < y \/ (y' = y /\ x' < x)
      . exact .inl ⟨x', y', q, p, e⟩
      . have : x' = x := by omega
        rw [this] at e
        exact .inr e
  . rw [List.mem_append, g.d z, List.mem_singleton]
    constructor
    . rintro (⟨x', y', h, p, e⟩ | e)
      . exact ⟨x', y', by omega, p, e⟩
      . exact ⟨x, y, by omega, p0, e⟩
    . rintro ⟨x', y', h, p, e⟩
      by_cases q : y' < y \/ (y' = y /\ x' < x)
      . exact .inl ⟨x', y', q, p, e⟩
      . have : y' = y := by omega
        rw [this] at e
        exact .inr e
theorem Gone.row {w h : Nat} {rows : Rws} (R : Rect w h rows) {y : Nat} {A D : List Int} (g : Gone w rows y w A D) : Gone w rows (y + 1) 0 A D := by
  have key : ∀ x' y' : Nat, pt rows x' y' -> ((y' < y \/ (y' = y /\ x' < w)) ↔ (y' < y + 1 \/ (y' = y + 1 /\ x' < 0))) := fun x' y' p => by
    have := (zAA R p).1
    omega
  refine ⟨g.len, by have := g.small; rw [Nat.add_mul]; omega, fun z => (g.a z).trans ⟨?_, ?_⟩, fun z => (g.d z).trans ⟨?_, ?_⟩⟩
  all_goals
    rintro ⟨x', y', h, p, e⟩
    exact ⟨x', y', by first | exact (key x' y' p).mp h | exact (key x' y' p).mpr h, p, e⟩
end L2
namespace L2
open PySem PySem.Spec PyProof.Rows G
def z31 (K : PySem.W.Frag) : Sp := fun vs H Q _ => ∃ (a : Addr) (ns : List Int) (k p m : Int), vs = [.ref a, .int k, .int p, .int m] /\ SqL K H a (ns.map V.int) /\ 0 <= k /\ k < 1000000 /\ 0 < p /\ 0 < m /\ ∀ r, 0 <= r -> r < m -> Q (.int r) H
def z6G (K : PySem.W.Frag) : Sp := fun vs H Q _ => ∃ (a : Addr) (ns : List Int) (k : Int), vs = [.ref a, .int k] /\ SqL K H a (ns.map V.int) /\ 0 <= k /\ k < 100000 /\ ∀ c, Cell c -> Q (z0M c) H
def z6H : Sp := fun vs H Q _ => ∃ (p d : Addr) (w h : Nat) (rows : Rws), vs = [.ref p, .ref d] /\ PicAt H p w rows /\ PicAt H d w rows /\ Rect w h rows /\ ∀ H', Same H H' -> Q (.bl true) H'
def z8x (w h : Nat) (rows : Rws) (dx dy : Int) : Rws := z1G w h fun i j => look w h rows ((i : Int) + dx) ((j : Int) + dy)
def zAo : Sp := fun vs H Q _ => ∃ (p : Addr) (w h : Nat) (rows : Rws) (dx dy : Int), vs = [.ref p, .int dx, .int dy] /\ PicAt H p w rows /\ Rect w h rows /\ ∀ q H', Same H H' -> PicAt H' q w (z8x w h rows dx dy) -> Q (.ref q) H'
def zAp : Sp := fun vs H Q _ => ∃ (l : Addr) (ps : List Addr) (w h : Nat) (rows : Rws) (dx dy : Int), vs = [.ref l, .int dx, .int dy] /\ RowsAt H l ps rows /\ Rect w h rows /\ ∀ q H', Same H H' -> PicAt H' q w (z8x w h rows dx dy) -> Q (.ref q) H'
abbrev Bx := Int × Int × Int × Int
def bxV (b : Bx) : List V := [.int b.1, .int b.2.1, .int b.2.2.1, .int b.2.2.2]
def zBZ (b : Bx) (i j : Int) : Bool := (decide (b.1 <= i) && decide (i < b.1 + b.2.2.1)) && (decide (b.2.1 <= j) && decide (j < b.2.1 + b.2.2.2))
def zBa (w h : Nat) (dx dy : Int) (i j : Int) : Bool := !(decide (0 <= i + dx) && decide (i + dx < w)) || !(decide (0 <= j + dy) && decide (j + dy < h))
def zAq (w h : Nat) (b : Bx) : Prop := 1 <= b.2.2.1 /\ 1 <= b.2.2.2 /\ 0 <= b.1 /\ 0 <= b.2.1 /\ b.1 + b.2.2.1 <= w /\ b.2.1 + b.2.2.2 <= h
structure FreshOk (w h : Nat) (dx dy : Int) (bs : List Bx) : Prop where
  len : bs.length <= 2
  box : ∀ b ∈ bs, zAq w h b
  cnt : ∀ i j : Nat, i < w -> j < h -> bs.countP (fun b => zBZ b i j) = if zBa w h dx dy i j = true then 1 else 0
structure BxsAt (H : Hp) (l : Addr) (ts : List Addr) (bs : List Bx) : Prop where
  lst : H l = some (.lst (ts.map V.ref))
  len : ts.length = bs.length
  at' : ∀ (i : Nat) t b, ts[i]? = some t -> bs[i]? = some b -> H t = some (.tup (bxV b))
theorem BxsAt.mono {H H' : Hp} {l : Addr} {ts : List Addr} {bs : List Bx} (s : Same H H') (h : BxsAt H l ts bs) : BxsAt H' l ts bs := ⟨s _ _ h.lst, h.len, fun i t b e1 e2 => s _ _ (h.at' i t b e1 e2)⟩
def zAB : Sp := fun vs H Q _ => ∃ (w h : Nat) (dx dy : Int), vs = [.int w, .int h, .int dx, .int dy] /\ 1 <= w /\ w <= 64 /\ 1 <= h /\ h <= 64 /\ ∀ l ts bs H', Same H H' -> H l = none -> BxsAt H' l ts bs -> FreshOk w h dx dy bs -> Q (.ref l) H'
def z9P : Sp := fun vs H Q _ => ∃ (t : Addr) (b : Bx) (w h : Nat), vs = [.ref t, .int w, .int h] /\ H t = some (.tup (bxV b)) /\ zAq w h b /\ ∀ H', Same H H' -> Q (.bl true) H'
def z9Q : Sp := fun vs H Q _ => ∃ (l : Addr) (ts : List Addr) (bs : List Bx) (w h : Nat) (dx dy : Int), vs = [.ref l, .int w, .int h, .int dx, .int dy] /\ w <= 64 /\ h <= 64 /\ BxsAt H l ts bs /\ FreshOk w h dx dy bs /\ ∀ H', Same H H' -> Q (.bl true) H'
def zAr (K : PySem.W.Frag) : Sp := fun vs H Q _ => ∃ (a : Addr) (ns : List Int) (k s : Int), vs = [.ref a, .int k, .int s] /\ SqL K H a (ns.map V.int) /\ 0 <= k /\ k < 1000 /\ 0 <= s /\ s <= 64 /\ ∀ z, Q (.int z) H
end L2
namespace L2
open PySem PySem.Spec PyProof.Rows G
def z8K (z : Int) : Int := if z < 0 then -z else z
def bxA (w h : Nat) (dx : Int) : List Bx := if 0 < z8K dx then [(if 0 < dx then (w : Int) - dx else 0, 0, z8K dx, (h : Int))] else []
def bxB (w h : Nat) (dx dy : Int) : List Bx := if 0 < z8K dy then [(if 0 < dx then 0 else z8K dx, if 0 < dy then (h : Int) - dy else 0, (w : Int) - z8K dx, z8K dy)] else []
def Sc (x : V) : Prop := x = .non \/ (∃ b, x = .bl b) \/ (∃ i, x = .int i) \/ (∃ z, x = .str z) \/ ∃ a, x = .ref a
theorem Sc.int (i : Int) : Sc (.int i) := .inr (.inr (.inl ⟨i, rfl⟩))
theorem Sc.non : Sc .non := .inl rfl
theorem Sc.str (z : Str) : Sc (.str z) := .inr (.inr (.inr (.inl ⟨z, rfl⟩)))
theorem Sc.ref (a : Addr) : Sc (.ref a) := .inr (.inr (.inr (.inr ⟨a, rfl⟩)))
def Eqv : Nat -> Hp -> V -> V -> Prop
  | 0, _, x, y => x = y /\ Sc x
  | n + 1, H, x, y => (x = y /\ Sc x) \/ ∃ a b xs ys, x = .ref a /\ y = .ref b /\ ((H a = some (.lst xs) /\ H b = some (.lst ys)) \/ (H a = some (.tup xs) /\ H b = some (.tup ys))) /\ xs.length = ys.length /\ ∀ (i : Nat) u v, xs[i]? = some u -> ys[i]? = some v -> Eqv n H u v
theorem Eqv.same {n : Nat} {H : Hp} {x : V} (h : Sc x) : Eqv n H x x := by
  cases n with
  | zero => exact ⟨rfl, h⟩
  | succ n => exact .inl ⟨rfl, h⟩
theorem Eqv.mono {H H' : Hp} (s : Same H H') : ∀ {n : Nat} {x y : V}, Eqv n H x y -> Eqv n H' x y
  | 0, _, _, h => h
  | n + 1, _, _, h => by
    rcases h with h | ⟨a, b, xs, ys, e1, e2, e3, e5, e6⟩
    . exact .inl h
    . refine .inr ⟨a, b, xs, ys, e1, e2, ?_, e5, fun i u v h1 h2 => (e6 i u v h1 h2).mono s⟩
      rcases e3 with ⟨p, q⟩ | ⟨p, q⟩
      . exact .inl ⟨s _ _ p, s _ _ q⟩
      . exact .inr ⟨s _ _ p, s _ _ q⟩
theorem z3Y : ∀ {xs : List V} {its : List Value} {j : Nat} {v : Value}, Vals xs its -> its[j]? = some v -> ∃ x, xs[j]? = some x /\ RelV x v
  | _, _, _, _, .nil, e => by simp at e
  | _, _, 0, _, .cons r _, e => by
    simp at e
    exact ⟨_, rfl, e ▸ r⟩
  | _, _, j + 1, _, .cons _ rs, e => z3Y (j := j) rs (by simpa using e)
theorem z8y {A : Around} {k : Nat} (hr : Room k A) : A.units + 9 < cLine := by
  have := hr.un
  omega
section
variable {X : Cx} {pins : List (Addr × Obj)} {σ : St} {H : Hp} {s : Shared} {A : Around}
theorem z4Y {a b : Addr} {xs ys : List V} (hu : A.units < cLine) (I : Inv X pins σ H s) (ha : H a = some (.lst xs)) (hb : H b = some (.lst ys)) (hl : xs.length = ys.length)
    (he : ∀ (j : Nat) x y vx vy, xs[j]? = some x -> ys[j]? = some y -> RelV x vx -> RelV y vy -> SeqAt.EqAt A.in1 s vx vy true) : SeqAt.RcAt A s (.ref a) (.ref b) true /\ SeqAt.RcNeAt A s (.ref a) (.ref b) false := by
  obtain ⟨its, r1, p1, _⟩ := I.list (SqL.of ha)
  obtain ⟨its2, r2, p2, _⟩ := I.list (SqL.of hb)
  have l1 := r1.length
  have l2 := r2.length
  have hsz : its.toArray.size = its2.toArray.size := by rw [List.size_toArray, List.size_toArray]; omega
  have hx : ∀ (j : Nat) (h1 : j < its.toArray.size) (h2 : j < its2.toArray.size), SeqAt.EqAt A.in1 s its.toArray[j] its2.toArray[j] ((fun _ => true) j) := fun j h1 h2 => by
    have i1 : j < its.length := by simpa using h1
    have i2 : j < its2.length := by simpa using h2
    obtain ⟨x, ex, rx⟩ := z3Y r1 (List.getElem?_eq_getElem i1)
    obtain ⟨y, ey, ry⟩ := z3Y r2 (List.getElem?_eq_getElem i2)
    have := he j x y _ _ ex ey rx ry
    simpa using this
  have e : ((List.range its.toArray.size).all fun _ => true) = true := by simp
  have q1 := SeqAt.RcAt.lists (A := A) (s := s) (e := fun _ => true) p1.isList p2.isList hsz hu hx
  have q2 := SeqAt.RcNeAt.lists (A := A) (s := s) (e := fun _ => true) p1.isList p2.isList hsz hu hx
  rw [e] at q1 q2
  exact ⟨q1, q2⟩
theorem z6I {a b : Addr} {xs ys : List V} (hu : A.units < cLine) (I : Inv X pins σ H s) (ha : H a = some (.tup xs)) (hb : H b = some (.tup ys)) (hl : xs.length = ys.length)
    (he : ∀ (j : Nat) x y vx vy, xs[j]? = some x -> ys[j]? = some y -> RelV x vx -> RelV y vy -> SeqAt.EqAt A.in1 s vx vy true) : SeqAt.RcAt A s (.ref a) (.ref b) true /\ SeqAt.RcNeAt A s (.ref a) (.ref b) false := by
  obtain ⟨its, r1, p1, _⟩ := I.tuple (SqT.of ha)
  obtain ⟨its2, r2, p2, _⟩ := I.tuple (SqT.of hb)
  have l1 := r1.length
  have l2 := r2.length
  have hx : ∀ (j : Nat) (h1 : j < its.toArray.size) (h2 : j < its2.toArray.size), SeqAt.EqAt A.in1 s its.toArray[j] its2.toArray[j] ((fun _ => true) j) := fun j h1 h2 => by
    have i1 : j < its.length := by simpa using h1
    have i2 : j < its2.length := by simpa using h2
    obtain ⟨x, ex, rx⟩ := z3Y r1 (List.getElem?_eq_getElem i1)
    obtain ⟨y, ey, ry⟩ := z3Y r2 (List.getElem?_eq_getElem i2)
    have := he j x y _ _ ex ey rx ry
    simpa using this
  have e1 : ((List.range (min its.toArray.size its2.toArray.size)).all (fun _ => true) && its.toArray.size == its2.toArray.size) = true := by
    rw [List.size_toArray, List.size_toArray, <- l1, <- l2, hl]
    simp
  have q1 := SeqAt.RcAt.tuples (A := A) (s := s) (e := fun _ => true) p1 p2 hu hx
  have q2 := SeqAt.RcNeAt.tuples (A := A) (s := s) (e := fun _ => true) p1 p2 hu hx
  rw [e1] at q1 q2
  exact ⟨q1, q2⟩
theorem z8z {n : Nat} : ∀ {A : Around} {x y : V} {vx vy : Value}, A.units + n < cLine -> Inv X pins σ H s -> Eqv n H x y -> RelV x vx -> RelV y vy -> SeqAt.EqAt A s vx vy true := by
  have z8a : ∀ {A : Around} {x : V} {vx vy : Value}, Sc x -> RelV x vx -> RelV x vy -> SeqAt.EqAt A s vx vy true := fun {A x vx vy} h rx ry => by
    rcases h with rfl | ⟨b, rfl⟩ | ⟨i, rfl⟩ | ⟨z, rfl⟩ | ⟨a, rfl⟩
    . cases (show vx = Value.none from rx)
      cases (show vy = Value.none from ry)
      exact SeqAt.EqAt.same _
    . cases (show vx = Value.bool b from rx)
      cases (show vy = Value.bool b from ry)
      exact SeqAt.EqAt.same _
    . obtain ⟨t1, rfl⟩ := rx
      obtain ⟨t2, rfl⟩ := ry
      have := SeqAt.EqAt.int_int (A := A) (s := s) i t1 i t2
      rw [beq_self_eq_true] at this
      exact this
    . obtain ⟨t1, rfl⟩ := rx
      obtain ⟨t2, rfl⟩ := ry
      have := SeqAt.EqAt.str_str (A := A) (s := s) z t1 z t2
      rw [beq_self_eq_true] at this
      exact this
    . cases (show vx = Value.ref a from rx)
      cases (show vy = Value.ref a from ry)
      exact SeqAt.EqAt.same _
  induction n with
  | zero =>
    intro A x y vx vy hu I h rx ry
    obtain ⟨rfl, hs⟩ := h
    exact z8a hs rx ry
  | succ n ih =>
    intro A x y vx vy hu I h rx ry
    rcases h with ⟨rfl, hs⟩ | ⟨a, b, xs, ys, rfl, rfl, e3, e5, e6⟩
    . exact z8a hs rx ry
    . cases (show vx = Value.ref a from rx)
      cases (show vy = Value.ref b from ry)
      by_cases e : a = b
      . subst e
        exact SeqAt.EqAt.same _
      . refine SeqAt.EqAt.of_refs e ?_
        have hx : ∀ (j : Nat) x y vx vy, xs[j]? = some x -> ys[j]? = some y -> RelV x vx -> RelV y vy -> SeqAt.EqAt A.in1 s vx vy true := fun j x y vx vy h1 h2 r1 r2 => ih (A := A.in1) (show A.units + 1 + n < cLine by omega) I (e6 j x y h1 h2) r1 r2
        rcases e3 with ⟨p, q⟩ | ⟨p, q⟩
        . exact (z4Y (by omega) I p q e5 hx).1
        . exact (z6I (by omega) I p q e5 hx).1
end
def EqT (n : Nat) (H : Hp) (x y : V) : Prop := ∃ a b xs ys, x = .ref a /\ y = .ref b /\ ((H a = some (.lst xs) /\ H b = some (.lst ys)) \/ (H a = some (.tup xs) /\ H b = some (.tup ys))) /\ xs.length = ys.length /\ ∀ (i : Nat) u v, xs[i]? = some u -> ys[i]? = some v -> Eqv n H u v
theorem EqT.mono {n : Nat} {H H' : Hp} {x y : V} (s : Same H H') (h : EqT n H x y) : EqT n H' x y := by
  obtain ⟨a, b, xs, ys, e1, e2, e3, e5, e6⟩ := h
  refine ⟨a, b, xs, ys, e1, e2, ?_, e5, fun i u v h1 h2 => (e6 i u v h1 h2).mono s⟩
  rcases e3 with ⟨p, q⟩ | ⟨p, q⟩
  . exact .inl ⟨s _ _ p, s _ _ q⟩
  . exact .inr ⟨s _ _ p, s _ _ q⟩
theorem EqT.copy {n : Nat} {H : Hp} {a b : Addr} {xs : List V} (ha : H a = some (.lst xs)) (hb : H b = some (.lst xs)) (h : ∀ x ∈ xs, Sc x) : EqT n H (.ref a) (.ref b) := ⟨a, b, _, _, rfl, rfl, .inl ⟨ha, hb⟩, rfl, fun i u v h1 h2 => by
  rw [h1] at h2
  cases h2
  exact Eqv.same (h u (List.mem_of_getElem? h1))⟩
def zCD (n : Nat) : R2 := fun x y H Q => EqT n H x y /\ Q (.bl true) H
def zBb (n : Nat) : R2 := fun x y H Q => EqT n H x y /\ Q (.bl false) H
section
variable {X : Cx} {n : Nat}
theorem z90 (hu : X.A.units + 9 < cLine) (hn : n <= 8 := by decide) : OpR X (compareOp .NotEq) (zBb n) := by
  intro pins s σ H x y v u Q I rx ry h0
  obtain ⟨⟨a, b, xs, ys, rfl, rfl, e3, e5, e6⟩, q⟩ := h0
  cases rx
  cases ry
  have hx : ∀ (j : Nat) x y vx vy, xs[j]? = some x -> ys[j]? = some y -> RelV x vx -> RelV y vy -> SeqAt.EqAt X.A.in1 s vx vy true := fun j x y vx vy h1 h2 r1 r2 => z8z (A := X.A.in1) (show X.A.units + 1 + n < cLine by omega) I (e6 j x y h1 h2) r1 r2
  rcases e3 with ⟨p, p2⟩ | ⟨p, p2⟩
  . exact (z4Y (by omega) I p p2 e5 hx).2 X.prog X.w X.xe _ ⟨.bl _, H, I, rfl, q⟩
  . exact (z6I (by omega) I p p2 e5 hx).2 X.prog X.w X.xe _ ⟨.bl _, H, I, rfl, q⟩
end
end L2
namespace L2
open G
def z91 (w h : Nat) (b : Nat -> Nat -> Bool) : Option (Nat × Nat) :=
  match (List.range h).find? (fun j => (List.range w).any fun i => b i j) with
  | none => none
  | some j => ((List.range w).find? fun i => b i j).map fun i => (i, j)
structure Plc where
  w : Nat
  h : Nat
  rows : List (List (Option Int))
  x : Int
  y : Int
def zAC (A B : Plc) (i j : Nat) : Bool := (z0Z A.rows i j).isSome && (look B.w B.h B.rows (A.x + i - B.x) (A.y + j - B.y)).isSome
def zBc (A B : Plc) : Option (Int × Int) := (z91 A.w A.h (zAC A B)).map fun p => (A.x + (p.1 : Int), A.y + (p.2 : Int))
theorem z6z {w h : Nat} {rows : List (List (Option Int))} {x y : Int} (x0 : 0 <= x) (x1 : x < w) (y0 : 0 <= y) (y1 : y < h) : look w h rows x y = z0Z rows x.toNat y.toNat := by
  unfold look z0Z
  rw [if_pos ⟨x0, x1, y0, y1⟩, List.getD_eq_getElem?_getD, List.getD_eq_getElem?_getD]
  cases (rows[y.toNat]?.getD [])[x.toNat]? <;> rfl
theorem z6J {w h : Nat} {rows : List (List (Option Int))} {x y : Int} (e : (look w h rows x y).isSome = true) : 0 <= x /\ x < w /\ 0 <= y /\ y < h := by
  unfold look at e
  split at e
  . assumption
  . cases e
def zBd (us cs : List (Option Int)) : List (Option Int) := List.zipWith (fun a c => if a.isSome && c.isSome then some 0 else none) us cs
end L2
namespace L2
open PySem PySem.Spec PyProof.Rows G
def zBe : Sp := fun vs H Q _ => ∃ r : List (Option Int), vs = [.int (z09 r)] /\ z09 r ≠ 0 /\ Q (.int (loI r)) H
def PlAt (H : Hp) (t : Addr) (A : Plc) : Prop := ∃ p, H t = some (.tup [.ref p, .int A.x, .int A.y]) /\ PicAt H p A.w A.rows
theorem PlAt.mono {H H' : Hp} {t : Addr} {A : Plc} (s : Same H H') (h : PlAt H t A) : PlAt H' t A := by
  obtain ⟨p, h1, h2⟩ := h
  exact ⟨p, s _ _ h1, h2.mono s⟩
def LPlAt (H : Hp) (t : Addr) (A : Plc) : Prop := ∃ l ps, H t = some (.tup [.ref l, .int A.x, .int A.y]) /\ RowsAt H l ps A.rows
theorem LPlAt.mono {H H' : Hp} {t : Addr} {A : Plc} (s : Same H H') (h : LPlAt H t A) : LPlAt H' t A := by
  obtain ⟨l, ps, h1, h2⟩ := h
  exact ⟨l, ps, s _ _ h1, h2.mono s⟩
def z9R (A B : Plc) : Option (List Int) := (zBc A B).map fun p => [p.1, p.2]
abbrev z5C (A : Plc) : Prop := Rect A.w A.h A.rows
def zAD : Sp := fun vs H Q _ => ∃ (s t : Addr) (A B : Plc), vs = [.ref s, .ref t] /\ PlAt H s A /\ PlAt H t B /\ z5C A /\ z5C B /\ ∀ v H', Same H H' -> BoxV H' v (z9R A B) -> Q v H'
def z92 : Sp := fun vs H Q _ => ∃ (l s m t : Addr) (ps qs : List Addr) (A B : Plc), vs = [.ref l, .ref s, .ref m, .ref t] /\ RowsAt H l ps A.rows /\ H s = some (.tup [.int A.x, .int A.y]) /\ RowsAt H m qs B.rows /\ H t = some (.tup [.int B.x, .int B.y]) /\ z5C A /\ z5C B /\ ∀ v H', Same H H' -> BoxV H' v (z9R A B) -> Q v H'
def z9S : Sp := fun vs H Q _ => ∃ (s t : Addr) (A B : Plc), vs = [.ref s, .ref t] /\ LPlAt H s A /\ LPlAt H t B /\ z5C A /\ z5C B /\ ∀ v H', Same H H' -> BoxV H' v (z9R A B) -> Q v H'
def zAE (n : Nat) : Sp := fun vs H Q _ => ∃ (u v : V) (o : Option (List Int)), vs = [u, v] /\ BoxV H u o /\ BoxV H v o /\ (∀ zs, o = some zs -> zs.length = n) /\ ∀ H', Same H H' -> Q (.bl true) H'
def z9T (K : PySem.W.Frag) : Sp := fun vs H Q _ => ∃ (a : Addr) (ns : List Int) (k s : Int), vs = [.ref a, .int k, .int s] /\ SqL K H a (ns.map V.int) /\ 0 <= k /\ k < 1000 /\ 0 <= s /\ s < 1000 /\ ∀ l ps rows w h H', Same H H' -> RowsAt H' l ps rows -> Rect w h rows -> Q (.ref l) H'
def zAs (K : PySem.W.Frag) : Sp := fun vs H Q _ => ∃ (a : Addr) (ns : List Int) (k : Int), vs = [.ref a, .int k] /\ SqL K H a (ns.map V.int) /\ 0 <= k /\ k < 1000 /\ ∀ z, Q (.int z) H
def z9U (K : PySem.W.Frag) : Sp := fun vs H Q _ => ∃ (a : Addr) (ns : List Int), vs = [.ref a] /\ SqL K H a (ns.map V.int) /\ ∀ (u s t : Addr) (x y x2 y2 : Int) H', Same H H' -> H' u = some (.tup [.ref s, .ref t]) -> H' s = some (.tup [.int x, .int y]) -> H' t = some (.tup [.int x2, .int y2]) -> Q (.ref u) H'
end L2
namespace L2
open PySem PySem.Spec PyProof.Rows G
structure ListP (R : Hp -> Addr -> Plc -> Prop) (H : Hp) (l : Addr) (ts : List Addr) (As : List Plc) : Prop where
  lst : H l = some (.lst (ts.map V.ref))
  len : ts.length = As.length
  at' : ∀ (i : Nat) t A, ts[i]? = some t -> As[i]? = some A -> R H t A
theorem ListP.get {R : Hp -> Addr -> Plc -> Prop} {H : Hp} {l : Addr} {ts : List Addr} {As : List Plc} (h : ListP R H l ts As) {i : Nat} (hi : i < As.length) : ∃ t, ts[i]? = some t /\ R H t (As[i]'hi) /\ atI (ts.map V.ref) ((i : Nat) : Int) = some (.ref t) := by
  have h1 : i < ts.length := by rw [h.len]; exact hi
  have e := List.getElem?_eq_getElem h1
  exact ⟨_, e, h.at' i _ _ e (List.getElem?_eq_getElem hi), z0y (by rw [List.getElem?_map, e]; rfl)⟩
abbrev PlsAt := ListP PlAt
abbrev LPlsAt := ListP LPlAt
theorem PlsAt.mono {H H' : Hp} {l : Addr} {ts : List Addr} {As : List Plc} (s : Same H H') (h : PlsAt H l ts As) : PlsAt H' l ts As := ⟨s _ _ h.lst, h.len, fun i t L a b => (h.at' i t L a b).mono s⟩
theorem LPlsAt.mono {H H' : Hp} {l : Addr} {ts : List Addr} {As : List Plc} (s : Same H H') (h : LPlsAt H l ts As) : LPlsAt H' l ts As := ⟨s _ _ h.lst, h.len, fun i t L a b => (h.at' i t L a b).mono s⟩
def tz2 (As : List Plc) (i j : Nat) : List (List Int) := match As[i]?, As[j]? with
  | some A, some B => (match z9R A B with | none => [] | some zs => [(i : Int) :: (j : Int) :: zs])
  | _, _ => []
def z93 (As : List Plc) (i : Nat) : Nat -> List (List Int)
  | 0 => []
  | k + 1 => z93 As i k ++ tz2 As i (i + 1 + k)
def z85 (As : List Plc) : Nat -> List (List Int)
  | 0 => []
  | i + 1 => z85 As i ++ z93 As i (As.length - (i + 1))
structure TusB (H0 H : Hp) (l : Addr) (ts : List Addr) (zss : List (List Int)) : Prop where
  same : Same H0 H
  fl : H0 l = none
  lst : H l = some (.lst (ts.map V.ref))
  len : ts.length = zss.length
  at' : ∀ (i : Nat) t zs, ts[i]? = some t -> zss[i]? = some zs -> H t = some (.tup (zs.map V.int))
theorem TusB.mono {H0 H H' : Hp} {l : Addr} {ts : List Addr} {zss : List (List Int)} (B : TusB H0 H l ts zss) (s : Same H H') : TusB H0 H' l ts zss := ⟨B.same.trans s, B.fl, s _ _ B.lst, B.len, fun i t zs e1 e2 => s _ _ (B.at' i t zs e1 e2)⟩
theorem TusB.push {H0 H : Hp} {l t : Addr} {ts : List Addr} {zss : List (List Int)} {zs : List Int} (B : TusB H0 H l ts zss) (h : H t = some (.tup (zs.map V.int))) : TusB H0 (upd H l (.lst (ts.map V.ref ++ [.ref t]))) l (ts ++ [t]) (zss ++ [zs]) := by
  have ot : ∀ {b : Addr} {xs : List V}, H b = some (.tup xs) -> (upd H l (.lst (ts.map V.ref ++ [.ref t]))) b = some (.tup xs) := fun {b xs} e => (z06 (z4f e B.lst fun z => nomatch z)).trans e
  refine ⟨B.same.put B.fl, B.fl, by rw [upd_same, List.map_append]; rfl, by rw [List.length_append, List.length_append, B.len]; rfl, fun i u ws e1 e2 => ?_⟩
  have hl := B.len
  by_cases hi : i < ts.length
  . rw [List.getElem?_append_left hi] at e1
    rw [List.getElem?_append_left (by omega)] at e2
    exact ot (B.at' i u ws e1 e2)
  . rw [List.getElem?_append_right (by omega)] at e1
    rw [List.getElem?_append_right (by omega), <- hl] at e2
    cases hk : i - ts.length with
    | zero =>
      rw [hk] at e1 e2
      cases e1
      cases e2
      exact ot h
    | succ n =>
      rw [hk] at e1
      cases e1
structure TusAt (H : Hp) (l : Addr) (ts : List Addr) (zss : List (List Int)) : Prop where
  lst : H l = some (.lst (ts.map V.ref))
  len : ts.length = zss.length
  at' : ∀ (i : Nat) t zs, ts[i]? = some t -> zss[i]? = some zs -> H t = some (.tup (zs.map V.int))
theorem TusB.at {H0 H : Hp} {l : Addr} {ts : List Addr} {zss : List (List Int)} (B : TusB H0 H l ts zss) : TusAt H l ts zss := ⟨B.lst, B.len, B.at'⟩
theorem TusAt.mono {H H' : Hp} {l : Addr} {ts : List Addr} {zss : List (List Int)} (B : TusAt H l ts zss) (s : Same H H') : TusAt H' l ts zss := ⟨s _ _ B.lst, B.len, fun i t zs e1 e2 => s _ _ (B.at' i t zs e1 e2)⟩
def z94 : Sp := fun vs H Q _ => ∃ (l : Addr) (ts : List Addr) (As : List Plc), vs = [.ref l] /\ PlsAt H l ts As /\ (∀ A ∈ As, z5C A) /\ As.length <= 60 /\ ∀ m us H', TusB H H' m us (z85 As As.length) -> Q (.ref m) H'
def z8L : Sp := fun vs H Q _ => ∃ (l : Addr) (ts : List Addr) (As : List Plc), vs = [.ref l] /\ LPlsAt H l ts As /\ (∀ A ∈ As, z5C A) /\ As.length <= 60 /\ ∀ m us H', TusB H H' m us (z85 As As.length) -> Q (.ref m) H'
def z95 (n : Nat) : Sp := fun vs H Q _ => ∃ (l m : Addr) (ts us : List Addr) (zss : List (List Int)), vs = [.ref l, .ref m] /\ TusAt H l ts zss /\ TusAt H m us zss /\ (∀ zs ∈ zss, zs.length = n) /\ zss.length <= 10000 /\ ∀ H', Same H H' -> Q (.bl true) H'
def zAu (K : PySem.W.Frag) : Sp := fun vs H Q _ => ∃ (a : Addr) (ns : List Int), vs = [.ref a] /\ SqL K H a (ns.map V.int) /\ ∀ l ts As H', Same H H' -> H l = none -> LPlsAt H' l ts As -> (∀ A ∈ As, z5C A) -> As.length <= 60 -> Q (.ref l) H'
end L2
namespace L2
open PySem PySem.Spec PyProof.Rows G
theorem RowsAt.past {H : Hp} {l m : Addr} {ps ts : List Addr} {rows : List (List (Option Int))} {w h : Nat} {o : HO} (a : RowsAt H l ps rows) (R : Rect w h rows) (hm : H m = some (.lst (ts.map V.ref))) (ht : ∀ t ∈ ts, ∃ xs, H t = some (.tup xs)) : RowsAt (upd H m o) l ps rows := by
  have hlen := a.len
  have hR := R.len
  have h1 := R.h1
  have w1 := R.w1
  have nl : l ≠ m := fun e => by
    have g := a.lst
    rw [e, hm] at g
    have g1 : ts.map V.ref = ps.map V.ref := HO.lst.inj (Option.some.inj g)
    have g2 : ts = ps := (List.map_inj_right (fun _ _ h => by injection h)).mp g1
    have hp : ps[0]? = some (ps[0]'(by omega)) := List.getElem?_eq_getElem (by omega)
    have r0 := a.row 0 _ _ hp (List.getElem?_eq_getElem (by omega))
    obtain ⟨xs, e2⟩ := ht (ps[0]'(by omega)) (by rw [g2]; exact List.getElem_mem _)
    rw [r0] at e2
    cases e2
  refine ⟨by rw [z06 nl]; exact a.lst, a.len, fun i p r e1 e2 => ?_⟩
  have g := a.row i p r e1 e2
  have np : p ≠ m := fun e => by
    rw [e, hm] at g
    have g1 : ts.map V.ref = r.map z0M := HO.lst.inj (Option.some.inj g)
    have hw := (R.row r (List.mem_of_getElem? e2)).1
    have g2 : (ts.map V.ref)[0]? = (r.map z0M)[0]? := by rw [g1]
    rw [List.getElem?_map, List.getElem?_map, List.getElem?_eq_getElem (show 0 < r.length by omega)] at g2
    cases hq : ts[0]? with
    | none => rw [hq] at g2; cases g2
    | some q =>
      rw [hq] at g2
      have e3 := Option.some.inj g2
      cases hcc : r[0]'(show 0 < r.length by omega) with
      | none => rw [hcc] at e3; cases e3
      | some z => rw [hcc] at e3; cases e3
  rw [z06 np]
  exact g
theorem LPlsAt.push {H : Hp} {m t : Addr} {ts : List Addr} {As : List Plc} {A : Plc} (h : LPlsAt H m ts As) (ok : ∀ A ∈ As, z5C A) (hA : z5C A) (ht : LPlAt H t A) : LPlsAt (upd H m (.lst (ts.map V.ref ++ [.ref t]))) m (ts ++ [t]) (As ++ [A]) := by
  have hl := h.len
  have tu : ∀ u ∈ ts, ∃ xs, H u = some (.tup xs) := fun u hu => by
    obtain ⟨i, hi, e⟩ := List.mem_iff_getElem.mp hu
    obtain ⟨_, _, g, _⟩ := h.at' i u (As[i]'(by omega)) (by rw [List.getElem?_eq_getElem hi, e]) (List.getElem?_eq_getElem _)
    exact ⟨_, g⟩
  have keep : ∀ {u : Addr} {B : Plc}, z5C B -> LPlAt H u B -> LPlAt (upd H m (.lst (ts.map V.ref ++ [.ref t]))) u B := fun {u B} hB hu => by
    obtain ⟨l, ps, g1, g2⟩ := hu
    exact ⟨l, ps, (z06 (z4f g1 h.lst fun z => nomatch z)).trans g1, g2.past hB h.lst tu⟩
  refine ⟨by rw [upd_same, List.map_append]; rfl, by rw [List.length_append, List.length_append, hl]; rfl, fun i u B e1 e2 => ?_⟩
  by_cases hi : i < ts.length
  . rw [List.getElem?_append_left hi] at e1
    rw [List.getElem?_append_left (by omega)] at e2
    exact keep (ok _ (List.mem_of_getElem? e2)) (h.at' i u B e1 e2)
  . rw [List.getElem?_append_right (by omega)] at e1
    rw [List.getElem?_append_right (by omega), <- hl] at e2
    cases hk : i - ts.length with
    | zero =>
      rw [hk] at e1 e2
      cases e1
      cases e2
      exact keep hA ht
    | succ n =>
      rw [hk] at e1
      cases e1
theorem z1d : ∀ (names : List (Str × NameKind)) (h : Heap) (n : Nat) (acc : List (Str × Addr)), h.objs.size = n -> ∀ x c, (cellsFrom n names acc).lookup x = some c -> (n <= c /\ (pushCells h names).IsCell c none) \/ acc.lookup x = some c
  | [], _, _, _, _, _, _, e => .inr e
  | (y, k) :: r, h, n, acc, hn, x, c, e => by
    unfold cellsFrom at e
    unfold pushCells
    by_cases hk : (k == NameKind.cell) = true
    . rw [if_pos hk] at e ⊢
      have z : (h.push { cls := .type "cell", data := .cell none }).objs.size = n + 1 := by rw [Heap.size_push, hn]
      rcases z1d r _ (n + 1) ((y, n) :: acc) z x c e with ⟨q1, q2⟩ | q
      . exact .inl ⟨by omega, q2⟩
      . rw [List.lookup_cons] at q
        cases hx : x == y with
        | true =>
          rw [hx] at q
          cases q
          refine .inl ⟨Nat.le_refl _, ?_⟩
          have g : (h.push { cls := .type "cell", data := .cell none }).get? n = some { cls := .type "cell", data := .cell none } := by rw [<- hn]; exact Heap.get?_push_size _ rfl
          exact ⟨_, pushCells_keeps r _ _ _ g, rfl⟩
        | false =>
          rw [hx] at q
          exact .inr q
    . rw [if_neg hk] at e ⊢
      exact z1d r h n acc hn x c e
theorem z1x : ∀ (names : List (Str × NameKind)) (n : Nat) (acc : List (Str × Addr)) (x : Str) (c : Addr), (cellsFrom n names acc).lookup x = some c -> n <= c \/ acc.lookup x = some c
  | [], _, _, _, _, e => .inr e
  | (y, k) :: r, n, acc, x, c, e => by
    unfold cellsFrom at e
    by_cases hk : (k == NameKind.cell) = true
    . rw [if_pos hk] at e
      rcases z1x r (n + 1) ((y, n) :: acc) x c e with q | q
      . exact .inl (by omega)
      . rw [List.lookup_cons] at q
        cases hx : x == y with
        | true => rw [hx] at q; cases q; exact .inl (Nat.le_refl _)
        | false => rw [hx] at q; exact .inr q
    . rw [if_neg hk] at e
      exact z1x r n acc x c e
theorem z2F : ∀ (names : List (Str × NameKind)) (n : Nat) (acc : List (Str × Addr)), (∀ x c, acc.lookup x = some c -> c < n) -> (∀ x y c, acc.lookup x = some c -> acc.lookup y = some c -> x = y) ->
    ∀ x y c, (cellsFrom n names acc).lookup x = some c -> (cellsFrom n names acc).lookup y = some c -> x = y
  | [], _, _, _, hi, x, y, c, e1, e2 => hi x y c e1 e2
  | (a, k) :: r, n, acc, hb, hi, x, y, c, e1, e2 => by
    unfold cellsFrom at e1 e2
    by_cases hk : (k == NameKind.cell) = true
    . rw [if_pos hk] at e1 e2
      refine z2F r (n + 1) ((a, n) :: acc) (fun x c e => ?_) (fun x y c e1 e2 => ?_) x y c e1 e2
      . rw [List.lookup_cons] at e
        cases hx : x == a with
        | true => rw [hx] at e; cases e; exact Nat.lt_succ_self _
        | false => rw [hx] at e; exact Nat.lt_succ_of_lt (hb x c e)
      . rw [List.lookup_cons] at e1 e2
        cases hx : x == a with
        | true =>
          rw [hx] at e1
          cases e1
          cases hy : y == a with
          | true => rw [beq_iff_eq.mp hx, beq_iff_eq.mp hy]
          | false =>
            rw [hy] at e2
            exact absurd (hb y _ e2) (Nat.lt_irrefl _)
        | false =>
          rw [hx] at e1
          cases hy : y == a with
          | true =>
            rw [hy] at e2
            cases e2
            exact absurd (hb x _ e1) (Nat.lt_irrefl _)
          | false =>
            rw [hy] at e2
            exact hi x y c e1 e2
    . rw [if_neg hk] at e1 e2
      exact z2F r n acc hb hi x y c e1 e2
theorem z32 {x : Str} {m : Nat} : ∀ (names : List (Str × NameKind)) (n : Nat) (acc : List (Str × Addr)), m <= n -> (∀ c, acc.lookup x = some c -> m <= c) -> ∀ c, (cellsFrom n names acc).lookup x = some c -> m <= c
  | [], _, _, _, h, c, e => h c e
  | (a, k) :: r, n, acc, hm, h, c, e => by
    unfold cellsFrom at e
    by_cases hk : (k == NameKind.cell) = true
    . rw [if_pos hk] at e
      refine z32 r (n + 1) ((a, n) :: acc) (by omega) (fun c e => ?_) c e
      rw [List.lookup_cons] at e
      cases hx : x == a with
      | true => rw [hx] at e; cases e; exact hm
      | false => rw [hx] at e; exact h c e
    . rw [if_neg hk] at e
      exact z32 r n acc hm h c e
theorem z2G {x : Str} : ∀ (names : List (Str × NameKind)) (n : Nat) (acc : List (Str × Addr)), (x, NameKind.cell) ∈ names -> ∀ c, (cellsFrom n names acc).lookup x = some c -> n <= c
  | [], _, _, hm, _, _ => nomatch hm
  | (a, k) :: r, n, acc, hm, c, e => by
    unfold cellsFrom at e
    by_cases hk : (k == NameKind.cell) = true
    . rw [if_pos hk] at e
      rcases List.mem_cons.mp hm with q | q
      . have qa : x = a := congrArg Prod.fst q
        refine z32 r (n + 1) ((a, n) :: acc) (by omega) (fun c e => ?_) c e
        rw [List.lookup_cons, qa, beq_self_eq_true] at e
        cases e
        exact Nat.le_refl _
      . have := z2G r (n + 1) ((a, n) :: acc) q c e
        omega
    . rw [if_neg hk] at e
      rcases List.mem_cons.mp hm with q | q
      . have e2 : NameKind.cell = k := congrArg Prod.snd q
        exact absurd (by rw [<- e2]; rfl) hk
      . exact z2G r n acc q c e
theorem z2H {x : Str} : ∀ (names : List (Str × NameKind)) (n : Nat) (acc : List (Str × Addr)), (∀ y ∈ names, y.2 = .cell -> y.1 ≠ x) -> (cellsFrom n names acc).lookup x = acc.lookup x
  | [], _, _, _ => rfl
  | (a, k) :: r, n, acc, h => by
    unfold cellsFrom
    by_cases hk : (k == NameKind.cell) = true
    . rw [if_pos hk, z2H r (n + 1) ((a, n) :: acc) fun y hy => h y (List.mem_cons_of_mem _ hy), List.lookup_cons]
      have ne : a ≠ x := h (a, k) List.mem_cons_self (by simpa using hk)
      rw [beq_eq_false_iff_ne.mpr (Ne.symm ne)]
    . rw [if_neg hk]
      exact z2H r n acc fun y hy => h y (List.mem_cons_of_mem _ hy)
theorem z0z {env : Env} : ∀ {names : List (Str × NameKind)} {x : Str}, names.lookup x = some .cell ->
    (names.map fun (n, k) => if (k == NameKind.free && env.scope.kind == .function && env.kindOf n == some .cell) then (n, NameKind.cell) else (n, k)).lookup x = some .cell
  | [], _, h => by cases h
  | (n, k) :: r, x, h => by
    have ih := @z0z env r x
    rw [List.map_cons]
    cases hx : x == n with
    | true =>
      rw [List.lookup_cons, hx] at h
      cases h
      show List.lookup x ((if (NameKind.cell == NameKind.free && env.scope.kind == .function && env.kindOf n == some .cell) = true then (n, NameKind.cell) else (n, NameKind.cell)) :: _) = _
      rw [ite_self, List.lookup_cons, hx]
    | false =>
      rw [List.lookup_cons, hx] at h
      have z : ∀ (y : Str × NameKind) (t : List (Str × NameKind)), y.1 = n -> List.lookup x (y :: t) = List.lookup x t := fun y t e => by
        obtain ⟨y1, y2⟩ := y
        cases (show y1 = n from e)
        rw [List.lookup_cons, hx]
      rw [z _ _ (by
        show (if (k == NameKind.free && env.scope.kind == .function && env.kindOf n == some .cell) = true then (n, NameKind.cell) else (n, k)).1 = n
        split <;> rfl)]
      exact ih h
theorem z1a {env : Env} : ∀ {names : List (Str × NameKind)} {x : Str},
    (((names.map fun (n, k) => if (k == NameKind.free && env.scope.kind == .function && env.kindOf n == some .cell) then (n, NameKind.cell) else (n, k)).lookup x = some .cell) \/
    ((names.map fun (n, k) => if (k == NameKind.free && env.scope.kind == .function && env.kindOf n == some .cell) then (n, NameKind.cell) else (n, k)).lookup x = some .free)) -> (∃ y ∈ names, y.1 = x /\ y.2 = .free) \/ (∃ y ∈ names, y.1 = x /\ y.2 = .cell)
  | [], _, h => by rcases h with h | h <;> cases h
  | (n, k) :: r, x, h => by
    have ih := @z1a env r x
    rw [List.map_cons] at h
    cases hx : x == n with
    | true =>
      have e : x = n := beq_iff_eq.mp hx
      by_cases hk : k = .free
      . exact .inl ⟨(n, k), List.mem_cons_self, e.symm, hk⟩
      . have q : (if (k == NameKind.free && env.scope.kind == .function && env.kindOf n == some .cell) = true then (n, NameKind.cell) else (n, k)) = (n, k) := by
          rw [if_neg]
          intro z
          rw [Bool.and_eq_true, Bool.and_eq_true] at z
          exact hk (by simpa using z.1.1)
        have h' : List.lookup x ((n, k) :: (r.map fun (n, k) => if (k == NameKind.free && env.scope.kind == .function && env.kindOf n == some .cell) then (n, NameKind.cell) else (n, k))) = some .cell \/
            List.lookup x ((n, k) :: (r.map fun (n, k) => if (k == NameKind.free && env.scope.kind == .function && env.kindOf n == some .cell) then (n, NameKind.cell) else (n, k))) = some .free := by
          rw [<- q]
          exact h
        rw [List.lookup_cons, hx] at h'
        rcases h' with z | z
        . exact .inr ⟨(n, k), List.mem_cons_self, e.symm, Option.some.inj z⟩
        . exact absurd (Option.some.inj z) hk
    | false =>
      have z : ∀ (y : Str × NameKind) (t : List (Str × NameKind)), y.1 = n -> List.lookup x (y :: t) = List.lookup x t := fun y t e => by
        obtain ⟨y1, y2⟩ := y
        cases (show y1 = n from e)
        rw [List.lookup_cons, hx]
      rw [z _ _ (by
        show (if (k == NameKind.free && env.scope.kind == .function && env.kindOf n == some .cell) = true then (n, NameKind.cell) else (n, k)).1 = n
        split <;> rfl)] at h
      rcases ih h with ⟨y, hy, e⟩ | ⟨y, hy, e⟩
      . exact .inl ⟨y, List.mem_cons_of_mem _ hy, e⟩
      . exact .inr ⟨y, List.mem_cons_of_mem _ hy, e⟩
abbrev cxD (X : Cx) (sc : Scope) (cl : List (Str × Addr)) (C : Addr) (N : List Str) (fp : List Addr) (s2 : Shared) (H2 : Hp) (pn : List (Addr × Obj)) : Cx :=
  { X with N := N, s₀ := s2, H₀ := H2, env := compEnvC sc cl C X.env, outer := X.stack, ex := fp, fn := fun x => sc.names.lookup x == some .cell, pn := pn, xe := fun _ _ => False }
structure BlkScD (X : Cx) (sc : Scope) (locs : List Str) (ix : List Nat) : Prop where
  kind : sc.kind = .function
  own : ∀ y ∈ sc.names, y.2 = .cell -> sc.names.lookup y.1 = some .cell
  free : ∀ y ∈ sc.names, y.2 = .free -> X.env.kindOf y.1 = some .cell \/ X.env.kindOf y.1 = some .free
  names : ∀ y ∈ sc.names, y.2 = .local -> sc.names.lookup y.1 = some .local
  fr : ∀ i ∈ ix, ∃ x, X.N[i]? = some x /\ sc.names.lookup x = some .free
section
variable {X : Cx} {pins : List (Addr × Obj)} {σ : St} {H2 : Hp} {s2 : Shared} {sc : Scope} {cl : List (Str × Addr)} {locs : List Str} {ix : List Nat} {fp : List Addr}
theorem z3Z (I : Inv X pins σ H2 s2) (hcl : ∀ x c, cl.lookup x = some c -> X.env.cells.lookup x = some c) {x : Str} {c : Addr} (e : cl.lookup x = some c) : c < s2.heap.objs.size := by
  obtain ⟨v, o, ho, _⟩ := I.cell x c (hcl x c e)
  exact Heap.lt_size ho
theorem z86 (I : Inv X pins σ H2 s2) (B : BlkScD X sc locs ix) (hcl : ∀ x c, cl.lookup x = some c -> X.env.cells.lookup x = some c) (hcl' : ∀ y ∈ sc.names, y.2 = .free -> ∃ c, cl.lookup y.1 = some c)
    (hf : ∀ b ∈ fp, z1v X pins H2 b) (hfl : ∀ b ∈ fp, b < s2.heap.objs.size) {C : Addr} (hC : s2.heap.objs.size <= C) {N : List Str} {pn : List (Addr × Obj)} : (cxD X sc (cellsFrom (C + 1) sc.names cl) C N fp s2 H2 pn).Ok where
  mod := I.ok.mod
  kind := B.kind
  glob := I.ok.glob
  blt := I.ok.blt
  above := hC
  inj := z2F sc.names (C + 1) cl (fun x c e => Nat.lt_of_lt_of_le (z3Z I hcl e) (Nat.le_succ_of_le hC)) (fun x y c h1 h2 => I.ok.inj x y c (hcl x c h1) (hcl y c h2))
  has := fun x h => by
    refine Option.isSome_iff_exists.mp (PySem.W.cellsFrom_some _ _ _ ?_)
    rcases z1a (env := X.env) h with ⟨y, hy, e, hk⟩ | ⟨y, hy, e, hk⟩
    . subst e
      obtain ⟨c, hc⟩ := hcl' y hy hk
      exact .inr (by rw [hc]; rfl)
    . subst e
      exact .inl (B.own y hy hk)
  cab := fun x c h e => by
    have := z2G sc.names (C + 1) cl (z0f (by simpa using h)) c e
    exact Nat.le_trans hC (Nat.le_of_succ_le this)
  hd := I.ok.hd
  frames := I.ok.frames
  stk := .inl rfl
  exf := fun b hb => ⟨Nat.ne_of_lt (Nat.lt_of_lt_of_le (hfl b hb) hC), fun x c e => by
    rcases z1x sc.names (C + 1) cl x c e with q | q
    . exact Nat.ne_of_gt (Nat.lt_of_lt_of_le (hfl b hb) (Nat.le_trans hC (Nat.le_of_succ_le q)))
    . exact (hf b hb).2.2.2.2.1 x c (hcl x c q)⟩
  bs := fun b o e => I.bs b o e
  bsz := Nat.le_trans I.ok.bsz I.sz
  noex := fun b o e hb => by
    obtain ⟨_, _, _, h4, _⟩ := hf b hb
    rcases h4 with h | h
    . exact I.ok.noex b o e h
    . exact absurd (Nat.lt_of_lt_of_le (Nat.lt_of_lt_of_le (Heap.lt_size e) I.ok.bsz) h) (Nat.lt_irrefl _)
  exfs := fun b hb z => by
    obtain ⟨_, h2, h3, _⟩ := hf b hb
    rcases List.mem_cons.mp (I.stkSub b z) with e | e
    . exact h2 e
    . exact h3 e
  funs := I.stack
  frf := I.stkFree
theorem z4q (I : Inv X pins σ H2 s2) (B : BlkScD X sc locs ix) (hcl : ∀ x c, cl.lookup x = some c -> X.env.cells.lookup x = some c) (hcl' : ∀ y ∈ sc.names, y.2 = .free -> ∃ c, cl.lookup y.1 = some c)
    (hf : ∀ b ∈ fp, z1v X pins H2 b) (hfl : ∀ b ∈ fp, b < s2.heap.objs.size) {h1 G1 : Heap} {tk : Nat} {m0 : Str -> Option Value} {D C : Addr} {oD : Obj} (hD : s2.heap.objs.size <= D) (hC : s2.heap.objs.size <= C) (hDC : D ≠ C) (hG : G1.objs.size = C + 1) (e1 : h1 = pushCells G1 sc.names)
    (old : ∀ b o, s2.heap.get? b = some o -> h1.get? b = some o) (ns : h1.Ns C m0) (gD : h1.get? D = some oD) (dD : ∀ v, oD.data ≠ .cell v) :
    Inv (cxD X sc (cellsFrom (C + 1) sc.names cl) C (z1H X locs ix) fp s2 H2 (X.pn ++ pins)) [(D, oD)] (z4R locs.length ix σ) H2 { s2 with heap := h1, toks := tk } := by
  have low : ∀ b o, s2.heap.get? b = some o -> b < s2.heap.objs.size := fun b o e => Heap.lt_size e
  have nst : ∀ b, s2.heap.objs.size <= b -> b ∉ frs X.stack := fun b hb z => by
    obtain ⟨_, o, ho, _⟩ := I.stack.mem z
    exact absurd (Nat.lt_of_lt_of_le (low b o ho) hb) (Nat.lt_irrefl _)
  have spl : ∀ x c, (cellsFrom (C + 1) sc.names cl).lookup x = some c -> (C + 1 <= c /\ h1.IsCell c none) \/ cl.lookup x = some c := fun x c e => by
    rw [e1]
    exact z1d sc.names G1 (C + 1) cl hG x c e
  refine ⟨z86 I B hcl hcl' hf hfl hC, rfl, I.bare, Un.kept old, ⟨m0, ns, fun i x v e1 e2 e3 => ?_⟩, fun x c e => ?_, I.hok.fresh hC, fun x c e => ?_, fun p hp => ?_, I.hok.kept old, ?_⟩
  . have e2' : (z4R locs.length ix σ)[i]? = some (some v) := e2
    have e1' : (z1H X locs ix)[i]? = some x := e1
    unfold z4R at e2'
    unfold z1H at e1'
    by_cases hi : i < locs.length
    . rw [List.getElem?_append_left (by rw [List.length_replicate]; exact hi), List.getElem?_replicate, if_pos hi] at e2'
      cases e2'
    . rw [List.getElem?_append_right (by rw [List.length_replicate]; omega), List.length_replicate, List.getElem?_map] at e2'
      rw [List.getElem?_append_right (by omega), List.getElem?_map] at e1'
      cases hj : ix[i - locs.length]? with
      | none =>
        rw [hj] at e2'
        cases e2'
      | some j =>
        rw [hj] at e2' e1'
        have e4 : (σ[j]?).join = some v := Option.some.inj e2'
        have e5 : X.N.getD j Str.empty = x := Option.some.inj e1'
        obtain ⟨x', hx', hfree⟩ := B.fr j (List.mem_of_getElem? hj)
        have e6 : x' = x := by
          rw [<- e5, List.getD_eq_getElem?_getD, hx']
          rfl
        subst e6
        have e7 : σ[j]? = some (some v) := by
          cases hs : σ[j]? with
          | none => rw [hs] at e4; cases e4
          | some o =>
            rw [hs] at e4
            cases o with
            | none => cases e4
            | some w => cases e4; rfl
        have hk := B.free (x', .free) (z0f hfree) rfl
        obtain ⟨m, _, hl⟩ := I.loc
        obtain ⟨u, r, l⟩ := hl j x' v hx' e7 (hk.elim (fun z => .inr (.inl z)) fun z => .inr (.inr z))
        refine ⟨u, r, .inr ⟨z0W (env := X.env) hfree, ?_⟩⟩
        obtain ⟨c, hc⟩ := hcl' (x', .free) (z0f hfree) rfl
        have hcD : (cellsFrom (C + 1) sc.names cl).lookup x' = some c := by
          rw [z2H sc.names (C + 1) cl fun y hy hy2 e => ?_]
          . exact hc
          . have q := B.own y hy hy2
            rw [e, hfree] at q
            cases q
        rcases l with ⟨k, _⟩ | ⟨_, c', hc', z⟩
        . rcases hk with hk | hk
          . rw [hk] at k; cases k
          . rw [hk] at k; cases k
        . have q := hcl x' c hc
          rw [hc'] at q
          cases q
          obtain ⟨o, ho, hd⟩ := z
          exact ⟨_, hcD, o, old _ _ ho, hd⟩
  . rcases spl x c e with ⟨_, q⟩ | q
    . exact ⟨_, q⟩
    . obtain ⟨v, o, ho, hd⟩ := I.cell x c (hcl x c q)
      exact ⟨v, o, old _ _ ho, hd⟩
  . rcases spl x c e with ⟨q, _⟩ | q
    . exact I.hok.fresh (Nat.le_trans hC (Nat.le_of_succ_le q))
    . exact I.freeC x c (hcl x c q)
  . rcases List.mem_append.mp hp with hp | hp
    . obtain ⟨e, n, ne, nf, d⟩ := I.pin p hp
      refine ⟨old _ _ e, n, Nat.ne_of_lt (Nat.lt_of_lt_of_le (low _ _ e) hC), fun z => ?_, d⟩
      rcases List.mem_cons.mp (I.stkSub p.1 z) with q | q
      . exact ne q
      . exact nf q
    . have e : p = (D, oD) := by simpa using hp
      subst e
      exact ⟨gD, I.hok.fresh hD, hDC, nst D hD, dD⟩
  . show (z4R locs.length ix σ).length = (z1H X locs ix).length
    unfold z4R z1H
    rw [List.length_append, List.length_append, List.length_replicate, List.length_map, List.length_map]
theorem z6K {N : List Str} {pn : List (Addr × Obj)} {C D : Addr} {s' : Shared} {σ' : St} {H' : Hp} {ys : List V} {its : List Value} {n : Nat} (I : Inv X pins σ H2 s2) (hf : ∀ b ∈ fp, z1v X pins H2 b) (hD : s2.heap.objs.size <= D)
    (I' : Inv (cxD X sc cl C N fp s2 H2 pn) [(D, { cls := .type "list", data := .seq its.toArray n })] σ' H' s') (hv : Vals ys its) (hz : ys.length <= sizeLine) : H' D = none /\ Inv X pins σ (upd H' D (.lst ys)) s' := by
  obtain ⟨gD, nD, _⟩ := I'.pin (D, { cls := .type "list", data := .seq its.toArray n }) (List.mem_append_right _ List.mem_cons_self)
  have low : ∀ b o, s2.heap.get? b = some o -> b ≠ D := fun b o e => Nat.ne_of_lt (Nat.lt_of_lt_of_le (Heap.lt_size e) hD)
  have lowH : ∀ b o, H2 b = some o -> b ≠ D := fun b o e => Nat.ne_of_lt (Nat.lt_of_lt_of_le (I.hok.lt e) hD)
  have U : Un (frs X.stack) fp H2 H' s2.heap s'.heap := I'.base
  refine ⟨nD, I.call' (ch := fp) I'.os ⟨U.keep, U.slot, fun b o e hn hx => ?_, U.there, fun b xs e => ?_, fun b o u e => ?_, fun b ps e => ?_⟩ (fun b u e => ?_) I'.bare fun b hb => ?_⟩
  . rw [z06 (low b o e)]
    exact U.free b o e hn hx
  . rw [z06 (lowH b _ e)]
    exact U.tups b xs e
  . rw [z06 (lowH b _ e)]
    exact U.frzs b o u e
  . rw [z06 (lowH b _ e)]
    exact U.tbls b ps e
  . by_cases hb : b = D
    . subst hb
      rw [upd_same] at e
      cases e
      exact ⟨hz, its, n, hv, gD⟩
    . rw [z06 hb] at e
      exact (I'.hok b u e).stay (fun _ _ _ q => q) (fun c q => by rw [z06 (z08 q nD)]; exact q) fun c xs q => by rw [z06 (z08 q nD)]; exact q
  . obtain ⟨_, f1, _, f3, f4, f5⟩ := hf b hb
    exact ⟨f3, f1, f4, f5⟩
end
theorem z3a {M : Model} {A : Around} {E : Value -> Shared -> Prop} {s : Shared} {scope : Scope} {globals : Addr} {cl : List (Str × Addr)} {qual : Str} {outer : Env} {Q : Env -> Shared -> Prop}
    (hQ : Q { scope := scope, locals := s.heap.objs.size, globals := globals, cells := cellsFrom (s.heap.objs.size + 1) scope.names cl, qual := qual, func := none, code := outer.code, frame := outer.frame, builtins := outer.builtins }
      { s with heap := pushCells (s.heap.push { cls := .type "dict", data := .dict #[] }) scope.names }) :
    wpAny M A (newFunctionEnv scope globals cl [] qual none .none (some outer)) Q E s := by
  simp only [newFunctionEnv, Option.isSome_some, if_true]
  refine wpAny_bind (wpAny_alloc ?_)
  refine wpAny_bind (wpAny_layCells _ (fun name kind cells => by cases hkc : kind == NameKind.cell <;> simp [hkc]) _ _ _ _ ?_)
  rw [show ({ s with heap := s.heap.push { cls := .type "dict", data := .dict #[] } } : Shared).heap.objs.size = s.heap.objs.size + 1 from Heap.size_push ..]
  rw [List.forIn_nil]
  exact wpAny_bind (wpAny_pure (wpAny_pure hQ))
section
variable {X : Cx} {elt tgt iter : Expr} {tests : List Expr} {sc : Scope} {pos : Pos} {locs : List Str} {ix : List Nat} {wi : TI} {g : TG} {tt : TT} {te : TE}
theorem z42 {pins : List (Addr × Obj)} {σ : St} {H2 : Hp} {s2 : Shared} {cl : List (Str × Addr)} {fp : List Addr} {it : Addr} {tn : Nat -> Heap -> Prop} {J : It} {W : Nat -> Nat -> St -> List V -> Hp -> Prop} {Fin : List V -> Hp -> Prop} {RR : Value -> Addr -> Result -> Shared -> Prop} {m0 : Nat} {E : Value -> Shared -> Prop}
    (hc : X.calm = true) (B : BlkScD X sc locs ix)
    (hg : ∀ cl C fp s2 H2 pn, PG (cxD X sc cl C (z1H X locs ix) fp s2 H2 pn) tgt g) (ht : ∀ cl C fp s2 H2 pn, PTs (cxD X sc cl C (z1H X locs ix) fp s2 H2 pn) tests tt) (he : ∀ cl C fp s2 H2 pn, PE (cxD X sc cl C (z1H X locs ix) fp s2 H2 pn) elt te)
    (I : Inv X pins σ H2 s2) (T : Turn X.prog X.w X.K tgt J fp it tn) (st2 : tn 0 s2.heap) (hf : ∀ b ∈ fp, z1v X pins H2 b)
    (hcl : ∀ x c, cl.lookup x = some c -> X.env.cells.lookup x = some c) (hcl' : ∀ y ∈ sc.names, y.2 = .free -> ∃ c, cl.lookup y.1 = some c)
    (w0 : W 0 m0 (z4R locs.length ix σ) [] H2) (turn : z4k J g tt te Fin W)
    (hR : ∀ D C s' H' ys m, H' D = none -> s2.heap.objs.size <= C -> H' C = none -> C ≠ D -> Inv X pins σ (upd H' D (.lst ys)) s' -> Fin ys H' -> s'.heap.Ns C m -> RR (.ref D) C (.ok .next) s') :
    wpAny (model X.prog X.w) X.A (newList []) (fun acc s₃ => wpAny (model X.prog X.w) X.A (newFunctionEnv sc X.env.globals cl [] X.env.qual none .none (some X.env)) (fun cenv s₄ =>
      codeAny (model X.prog X.w) X.A (.compStart (.ListComp elt [⟨tgt, iter, tests, 0⟩] sc pos) 0 (.ref it) acc { cenv with scope := relabel sc X.env }) (RR acc cenv.locals) s₄) E s₃) E s2 := by
  refine wpAny_newObj_type (z3a ?_)
  dsimp only
  generalize eH : s2.heap.push { cls := .type "list", dict := none, data := .seq ([] : List Value).toArray } = G
  have zG : G.objs.size = s2.heap.objs.size + 1 := by rw [<- eH, Heap.size_push]
  have hDC : s2.heap.objs.size ≠ G.objs.size := by omega
  have zG1 : (G.push { cls := .type "dict", data := .dict #[] }).objs.size = G.objs.size + 1 := Heap.size_push ..
  have old0 : ∀ b o, G.get? b = some o -> (pushCells (G.push { cls := .type "dict", data := .dict #[] }) sc.names).get? b = some o := fun b o e => pushCells_keeps _ _ _ _ (Heap.get?_push_of_some _ e)
  have old : ∀ b o, s2.heap.get? b = some o -> (pushCells (G.push { cls := .type "dict", data := .dict #[] }) sc.names).get? b = some o := fun b o e => old0 b o (eH ▸ Heap.get?_push_of_some _ e)
  have ns1 : (pushCells (G.push { cls := .type "dict", data := .dict #[] }) sc.names).Ns G.objs.size (fun _ => none) := (Heap.Ns.new G (.type "dict")).keeps (pushCells_keeps _ _)
  have gD : (pushCells (G.push { cls := .type "dict", data := .dict #[] }) sc.names).get? s2.heap.objs.size = some { cls := .type "list", data := .seq ([] : List Value).toArray 0 } := old0 _ _ (eH ▸ Heap.get?_push_size _ rfl)
  generalize eh1 : pushCells (G.push { cls := .type "dict", data := .dict #[] }) sc.names = h1 at old0 old ns1 gD
  have hfl : ∀ b ∈ fp, b < s2.heap.objs.size := fun b hb => by
    obtain ⟨o, e, _⟩ := T.obj 0 s2.heap st2 b hb
    exact Heap.lt_size e
  have Y := fun tk => z4q (tk := tk) (locs := locs) I B hcl hcl' hf hfl (Nat.le_refl _) (by omega : s2.heap.objs.size <= G.objs.size) hDC zG1 eh1.symm old ns1 gD (fun v z => by cases z)
  have st1 : tn 0 h1 := T.keep 0 _ _ st2 fun b _ o e => old b o e
  have cne : ∀ x c, (cellsFrom (G.objs.size + 1) sc.names cl).lookup x = some c -> c ≠ s2.heap.objs.size /\ ∀ b ∈ fp, c ≠ b := fun x c e => by
    rcases z1x sc.names (G.objs.size + 1) cl x c e with q | q
    . exact ⟨Nat.ne_of_gt (Nat.lt_of_lt_of_le (by omega : s2.heap.objs.size < G.objs.size + 1) q), fun b hb => Nat.ne_of_gt (Nat.lt_of_lt_of_le (Nat.lt_trans (hfl b hb) (by omega : s2.heap.objs.size < G.objs.size + 1)) q)⟩
    . exact ⟨Nat.ne_of_lt (z3Z I hcl q), fun b hb => (hf b hb).2.2.2.2.1 x c (hcl x c q)⟩
  have stat : ∀ {oD : Obj} {H' : Hp}, (∀ b ∈ fp, H' b = none) -> ∀ b ∈ fp, z1v (cxD X sc (cellsFrom (G.objs.size + 1) sc.names cl) G.objs.size (z1H X locs ix) fp s2 H2 (X.pn ++ pins)) [(s2.heap.objs.size, oD)] H' b := fun {oD H'} hn b hb => by
    obtain ⟨_, f1, f2, _, f4, f5⟩ := hf b hb
    refine ⟨hn b hb, Nat.ne_of_lt (Nat.lt_of_lt_of_le (hfl b hb) (by show s2.heap.objs.size <= G.objs.size; omega)), fun z => ?_, .inl hb, fun x c e => (cne x c e).2 b hb, fun p hp => ?_⟩
    . rcases List.mem_cons.mp (I.stkSub b z) with q | q
      . exact f1 q
      . exact f2 q
    . rcases List.mem_append.mp hp with hp | hp
      . exact f5 p hp
      . have e : p = (s2.heap.objs.size, oD) := by simpa using hp
        rw [e]
        exact Nat.ne_of_gt (hfl b hb)
  have loop : ∀ tk, codeAny (model X.prog X.w) X.A (.compLoop (.ListComp elt [⟨tgt, iter, tests, 0⟩] sc pos) 0 (.ref it) (.ref s2.heap.objs.size) (compEnvC sc (cellsFrom (G.objs.size + 1) sc.names cl) G.objs.size X.env)) (RR (.ref s2.heap.objs.size) G.objs.size) { s2 with heap := h1, toks := tk } := by
    intro tk
    refine z3I (fun n s => ∃ i σ' ys its nn H', Inv (cxD X sc (cellsFrom (G.objs.size + 1) sc.names cl) G.objs.size (z1H X locs ix) fp s2 H2 (X.pn ++ pins)) [(s2.heap.objs.size, { cls := .type "list", data := .seq (List.toArray its) nn })] σ' H' s /\ tn i s.heap /\ (∀ b ∈ fp, H' b = none) /\ Vals ys its /\ W i n σ' ys H') ?_ m0
      ⟨0, _, [], [], 0, H2, Y tk, st1, fun b hb => (hf b hb).1, .nil, w0⟩
    rintro n s ⟨i, σ', ys, its, nn, H', I1, st, fr, hv, hw⟩
    rcases turn i n σ' ys H' hw with ⟨stop, hz, fin⟩ | ⟨go, hz, step⟩
    . refine thn (T.done (cxD X sc (cellsFrom (G.objs.size + 1) sc.names cl) G.objs.size (z1H X locs ix) fp s2 H2 (X.pn ++ pins)) rfl rfl rfl hc i _ s σ' H' (fun _ _ => False) I1 (stat fr) st stop) fun r s1 ⟨er, I2⟩ => ?_
      subst er
      obtain ⟨nD, I3⟩ := z6K I hf (Nat.le_refl _) I2 hv hz
      obtain ⟨m, ns, _⟩ := I2.loc
      exact hR _ _ s1 H' ys m nD (by omega) I2.free (Ne.symm hDC) I3 fin ns
    . refine thn (T.item (cxD X sc (cellsFrom (G.objs.size + 1) sc.names cl) G.objs.size (z1H X locs ix) fp s2 H2 (X.pn ++ pins)) rfl rfl rfl hc i _ s σ' H' (fun _ _ => False) I1 (stat fr) st go) fun r s3 ⟨u, er, h3⟩ => ?_
      subst er
      refine thn h3 fun _ s5 ⟨x, H5, I5, r5, y5, st5, fr5⟩ => ?_
      have I5' := I5.pinned (stat fr5) (T.obj _ _ st5)
      refine thn (hg (cellsFrom (G.objs.size + 1) sc.names cl) G.objs.size fp s2 H2 (X.pn ++ pins) _ s5 σ' H5 x u _ I5' r5 (step x H5 y5)) fun _ s6 ⟨σ6, H6, I6, q6⟩ => ?_
      refine thn (ht (cellsFrom (G.objs.size + 1) sc.names cl) G.objs.size fp s2 H2 (X.pn ++ pins) _ s6 σ6 H6 _ I6 q6) fun b s7 ⟨H7, I7, q7⟩ => ?_
      have tn7 : ∀ {s' : Shared} {σ'' : St} {H'' : Hp}, Inv (cxD X sc (cellsFrom (G.objs.size + 1) sc.names cl) G.objs.size (z1H X locs ix) fp s2 H2 (X.pn ++ pins)) ([(s2.heap.objs.size, { cls := .type "list", data := .seq (List.toArray its) nn })] ++ z2V fp s5.heap) σ'' H'' s' -> tn (i + 1) s'.heap /\ ∀ b ∈ fp, H'' b = none := fun J => by
        refine ⟨T.keep _ _ _ st5 fun b hb o e => (J.pin (b, o) (List.mem_append_right _ (List.mem_append_right _ (z0w hb e)))).1, fun b hb => ?_⟩
        obtain ⟨o, e, d⟩ := T.obj _ _ st5 b hb
        exact (J.pin (b, o) (List.mem_append_right _ (List.mem_append_right _ (z0w hb e)))).2.1
      cases b with
      | false =>
        obtain ⟨m', hm, w'⟩ := q7
        exact ⟨m', hm, i + 1, σ6, ys, its, nn, H7, I7.unpinned, (tn7 I7).1, (tn7 I7).2, hv, w'⟩
      | true =>
        refine thn (he (cellsFrom (G.objs.size + 1) sc.names cl) G.objs.size fp s2 H2 (X.pn ++ pins) _ s7 σ6 H7 _ I7 q7) fun y s8 ⟨yv, H8, I8, r8, q8⟩ => ?_
        obtain ⟨m', hm, w'⟩ := q8
        obtain ⟨gD8, nD8, _⟩ := I8.pin (s2.heap.objs.size, { cls := .type "list", data := .seq (List.toArray its) nn }) (List.mem_append_right _ (List.mem_append_left _ List.mem_cons_self))
        have hl := hv.length
        refine append_at (hsz := by rw [List.size_toArray]; omega) gD8 fun h9 sb9 gD9 => ?_
        have Iu : Inv (cxD X sc (cellsFrom (G.objs.size + 1) sc.names cl) G.objs.size (z1H X locs ix) fp s2 H2 (X.pn ++ pins)) [] σ6 H8 s8 := I8.pins_of fun p hp => nomatch hp
        have It : Inv (cxD X sc (cellsFrom (G.objs.size + 1) sc.names cl) G.objs.size (z1H X locs ix) fp s2 H2 (X.pn ++ pins)) [] σ6 H8 { s8 with heap := h9, toks := s8.toks } := Iu.turned (fun b o hb e => (sb9.2 b hb).trans e) nD8 hDC (.inr (Nat.le_refl _))
          (fun x c e => (cne x c e).1)
          (fun p hp => by
            rcases List.mem_append.mp hp with hp | hp
            . exact Nat.ne_of_lt (Heap.lt_size (I.pin p hp).1)
            . cases hp)
        have gD9' : h9.get? s2.heap.objs.size = some { cls := .type "list", data := .seq (its ++ [y]).toArray (nn + 1) } := by
          rw [gD9, List.push_toArray]
        have In : Inv (cxD X sc (cellsFrom (G.objs.size + 1) sc.names cl) G.objs.size (z1H X locs ix) fp s2 H2 (X.pn ++ pins)) [(s2.heap.objs.size, { cls := .type "list", data := .seq (its ++ [y]).toArray (nn + 1) })] σ6 H8 { s8 with heap := h9, toks := s8.toks } := It.pins_of fun p hp => by
          have e : p = (s2.heap.objs.size, { cls := .type "list", data := .seq (its ++ [y]).toArray (nn + 1) }) := by simpa using hp
          subst e
          refine ⟨gD9', nD8, hDC, fun z => ?_, fun v z => by cases z⟩
          obtain ⟨_, o, ho, _⟩ := I.stack.mem z
          exact absurd (Heap.lt_size ho) (Nat.lt_irrefl _)
        refine ⟨m', hm, i + 1, σ6, ys ++ [yv], its ++ [y], nn + 1, H8, In, ?_, (tn7 I8).2, Vals.append hv (.cons r8 .nil), w'⟩
        exact T.keep _ _ _ (tn7 I8).1 fun b hb o e => (sb9.2 b (Nat.ne_of_lt (hfl b hb))).trans e
  exact codeAny_compStart_list (loop _) (T.self X.A 0 _ _ _ st1 (loop _))
theorem z70 (hc : X.calm = true) (B : BlkScD X sc locs ix) (hi : PI X tgt iter wi)
    (hg : ∀ cl C fp s2 H2 pn, PG (cxD X sc cl C (z1H X locs ix) fp s2 H2 pn) tgt g) (ht : ∀ cl C fp s2 H2 pn, PTs (cxD X sc cl C (z1H X locs ix) fp s2 H2 pn) tests tt) (he : ∀ cl C fp s2 H2 pn, PE (cxD X sc cl C (z1H X locs ix) fp s2 H2 pn) elt te)
    (hs : ∀ x, foldedSetIterable iter X.env x = pure x := by intro _; rfl) : PE X (.ListComp elt [⟨tgt, iter, tests, 0⟩] sc pos) (z8m wi locs.length ix g tt te) := by
  intro pins s σ H Q I h
  obtain ⟨cl, ecl, hcl, hcl'⟩ := z3p (sc := sc) (env := X.env) fun y hy hk => I.ok.has y.1 (B.free y hy hk)
  rw [eval_ListComp]
  refine wpAny_comprehension_free (use := none) rfl hs ecl B.kind B.names ?_
  refine thn (hi pins s σ H _ I h) fun v s1 h1 => thn h1 fun itv s2 h2 => ?_
  obtain ⟨it, fp, tn, J, H2, e, I2, T, st2, f2, W, ⟨m0, w0⟩, turn⟩ := h2
  subst e
  refine z42 (iter := iter) (pos := pos) (RR := fun acc C => compPost (model X.prog X.w) X.A X.xe none (EP X pins σ Q) acc C) hc B hg ht he I2 T st2 f2 hcl hcl' w0 turn ?_
  intro D C s' H' ys m nD hC nC hCD I3 fin ns
  refine ⟨m, ns, fun h' hs' => ⟨.ref D, _, I3.turned (t' := s'.toks) (fun b o hb e => (hs'.2 b hb).trans e) (by rw [z06 hCD]; exact nC) (Nat.ne_of_gt (Nat.lt_of_lt_of_le I2.lt hC)) (.inr (Nat.le_trans I2.sz hC)) (fun x c e => ?_) (fun p hp => Nat.ne_of_lt (Nat.lt_of_lt_of_le (Heap.lt_size (I2.pin p hp).1) hC)), rfl, fin D nD⟩⟩
  obtain ⟨v, o, ho, _⟩ := I2.cell x c e
  exact Nat.ne_of_lt (Nat.lt_of_lt_of_le (Heap.lt_size ho) hC)
end
def z7U (sc dsc : Scope) (N : List Str) (ix : List Nat) : Bool :=
  sc.kind == .function && sc.names.all (fun y => y.2 != .cell || sc.names.lookup y.1 == some .cell) && sc.names.all (fun y => y.2 != .free || dsc.names.lookup y.1 == some .cell || dsc.names.lookup y.1 == some .free) &&
    sc.names.all (fun y => y.2 != .local || sc.names.lookup y.1 == some .local) && ix.all (fun i => match N[i]? with | some x => sc.names.lookup x == some .free | none => false)
theorem BlkScD.look {X : Cx} {sc dsc : Scope} {locs N : List Str} {ix : List Nat} (hs : X.env.scope = dsc) (hN : X.N = N) (c : z7U sc dsc N ix = true) : BlkScD X sc locs ix := by
  unfold z7U at c
  rw [Bool.and_eq_true, Bool.and_eq_true, Bool.and_eq_true, Bool.and_eq_true] at c
  obtain ⟨⟨⟨⟨c1, c2⟩, c3⟩, c4⟩, c5⟩ := c
  refine ⟨by simpa using c1, fun y hy hk => ?_, fun y hy hk => ?_, fun y hy hk => ?_, fun i hi => ?_⟩
  . have q := List.all_eq_true.mp c2 y hy
    rw [hk] at q
    simpa using q
  . have q := List.all_eq_true.mp c3 y hy
    have z : X.env.kindOf y.1 = dsc.names.lookup y.1 := by rw [<- hs]; rfl
    rw [z]
    rw [hk] at q
    simpa using q
  . have q := List.all_eq_true.mp c4 y hy
    rw [hk] at q
    simpa using q
  . have q := List.all_eq_true.mp c5 i hi
    rw [hN]
    cases hx : N[i]? with
    | none => rw [hx] at q; cases q
    | some x =>
      rw [hx] at q
      exact ⟨x, rfl, by simpa using q⟩
theorem BlkSc.lookD {X : Cx} {sc sc' : Scope} {cl : List (Str × Addr)} {C : Addr} {N0 N : List Str} {fp : List Addr} {s2 : Shared} {H2 : Hp} {pn : List (Addr × Obj)} {locs : List Str} {ix : List Nat} (hN : N0 = N) (c : z6u sc' sc N ix = true) :
    BlkSc (cxD X sc cl C N0 fp s2 H2 pn) sc' locs ix := by
  unfold z6u at c
  rw [Bool.and_eq_true, Bool.and_eq_true, Bool.and_eq_true, Bool.and_eq_true] at c
  obtain ⟨⟨⟨⟨c1, c2⟩, c3⟩, c4⟩, c5⟩ := c
  refine ⟨by simpa using c1, fun y hy => ?_, fun y hy hk => ?_, fun y hy hk => ?_, fun i hi => ?_⟩
  . simpa using List.all_eq_true.mp c2 y hy
  . have q := List.all_eq_true.mp c3 y hy
    rw [hk] at q
    have q' : sc.names.lookup y.1 = some .cell \/ sc.names.lookup y.1 = some .free := by simpa using q
    rcases q' with z | z
    . exact .inl (z0z (env := X.env) z)
    . exact z0W (env := X.env) z
  . have q := List.all_eq_true.mp c4 y hy
    rw [hk] at q
    simpa using q
  . have q := List.all_eq_true.mp c5 i hi
    show ∃ x, N0[i]? = some x /\ _
    rw [hN]
    cases hx : N[i]? with
    | none => rw [hx] at q; cases q
    | some x =>
      rw [hx] at q
      exact ⟨x, rfl, by simpa using q⟩
section
variable {X : Cx} {sc sc' : Scope} {cl cl' : List (Str × Addr)} {C C' : Addr} {N N' : List Str} {fp fp' : List Addr} {s2 s3 : Shared} {H2 H3 : Hp} {pn pn' : List (Addr × Obj)} {tg l : Expr} {tl : TE}
theorem z4r : CallR (cxD X sc cl C N fp s2 H2 pn) (.builtin "len") (fun xs H Q => ∃ p ys, xs = [.ref p] /\ (SqL X.K H p ys \/ SqT X.K H p ys) /\ Q (.int ys.length) H) := z0E
theorem z71 (hl : PE (cxD X sc cl C N fp s2 H2 pn) l tl) : PI (cxD X sc cl C N fp s2 H2 pn) tg l (z8X X.K tl) := z1I hl
end
def J (xs : Array Keyed) (i : Nat) : Int := match xs[i]? with
  | some p => numOf p.2
  | none => 0
theorem z2I {xs ys : Array Keyed} {i j : Nat} (h : xs[i]? = ys[j]?) : J xs i = J ys j := by unfold J; rw [h]
theorem z1y {xs : Array Keyed} {src d : Nat} (hs : src < xs.size) (hd : d <= src) (k : Nat) :
    J (bubble xs src d) k = if k = src - d then J xs src else if src - d < k /\ k <= src then J xs (k - 1) else J xs k := by
  have e := getElem?_bubble hs d hd k
  by_cases h1 : k = src - d
  . rw [if_pos h1] at e ⊢; exact z2I e
  . rw [if_neg h1] at e ⊢
    by_cases h2 : src - d < k /\ k <= src
    . rw [if_pos h2] at e ⊢; exact z2I e
    . rw [if_neg h2] at e ⊢; exact z2I e
theorem z1D {xs : Array Keyed} {i j : Nat} (hj : j <= xs.size) (k : Nat) :
    J (mirror xs i j ((j - i) / 2)) k = if i <= k /\ k < j then J xs (i + j - 1 - k) else J xs k := by
  have e := getElem?_mirror_all (i := i) hj k
  by_cases h1 : i <= k /\ k < j
  . rw [if_pos h1] at e ⊢; exact z2I e
  . rw [if_neg h1] at e ⊢; exact z2I e
def StabTo (xs : Array Keyed) (k : Nat) : Prop := ∀ i j, i < j -> j < k -> K xs i < K xs j \/ (K xs i = K xs j /\ J xs i < J xs j)
def Down (xs : Array Keyed) (k : Nat) : Prop := ∀ i j, i < j -> j < k -> K xs j < K xs i \/ (K xs j = K xs i /\ J xs j < J xs i)
structure Low (n : Nat) (xs : Array Keyed) (k : Nat) : Prop where
  lo : ∀ i, i < k -> i < n -> J xs i < k
  hi : ∀ i, k <= i -> i < n -> J xs i = i
theorem StabTo.le {xs : Array Keyed} {k : Nat} (h : StabTo xs k) : ∀ i j, i <= j -> j < k -> K xs i <= K xs j := fun i j hij hj => by
  rcases Nat.lt_or_eq_of_le hij with z | rfl
  . rcases h i j z hj with a | a
    . omega
    . omega
  . exact Int.le_refl _
theorem Low.next {n : Nat} {xs : Array Keyed} {k : Nat} (h : Low n xs k) : Low n xs (k + 1) :=
  ⟨fun i hi hn => by
    by_cases e : i = k
    . have := h.hi i (by omega) hn; omega
    . have := h.lo i (by omega) hn; omega, fun i hi hn => h.hi i (by omega) hn⟩
theorem Low.up {n : Nat} {xs : Array Keyed} {k : Nat} (h : Low n xs k) : ∀ m, k <= m -> Low n xs m := by
  intro m hm
  induction m with
  | zero => have : k = 0 := by omega
            subst this; exact h
  | succ m ih =>
    by_cases e : k = m + 1
    . subst e; exact h
    . exact (ih (by omega)).next
theorem Low.mirror {n : Nat} {xs : Array Keyed} {k i j : Nat} (h : Low n xs k) (hj : j <= k) (hk : k <= n) (hx : j <= xs.size) : Low n (mirror xs i j ((j - i) / 2)) k :=
  ⟨fun a ha hn => by
    rw [z1D hx]
    split
    . exact h.lo _ (by omega) (by omega)
    . exact h.lo a ha hn, fun a ha hn => by
    rw [z1D hx, if_neg (by omega)]
    exact h.hi a ha hn⟩
theorem Down.mirror {xs : Array Keyed} {n : Nat} (h : Down xs n) (hx : n <= xs.size) : StabTo (mirror xs 0 n ((n - 0) / 2)) n := fun i j hij hj => by
  rw [K_mirror hx, K_mirror hx, z1D hx, z1D hx, if_pos (by omega), if_pos (by omega), if_pos (by omega), if_pos (by omega)]
  exact h _ _ (by omega) (by omega)
section
variable {prog : Program} {w : World} {A : Around} {E : Value -> Shared -> Prop} {s : Shared} {a₀ : Array Keyed}
structure SB (a₀ : Array Keyed) (k : Nat) (st : SortSt) : Prop where
  b : SBase a₀ st
  low : Low a₀.size (arrOf st) k
theorem z2e {st : SortSt} {a nrem : Nat} {Q : AscSt -> SortSt -> Prop} (h0 : IntKeys a₀) (hn : nrem <= a₀.size) (ha : 1 <= a) (han : a <= nrem) (hB : SB a₀ a st) (hs : StabTo (arrOf st) a)
    (h : ∀ n, a <= n -> n <= nrem -> SB a₀ n st -> StabTo (arrOf st) n -> (n = nrem \/ K (arrOf st) n < K (arrOf st) (n - 1)) -> Q (none, n) st) :
    wpS (model prog w) A E s (ascLoop a nrem) Q st := by
  unfold ascLoop
  refine wpS_forRange (I := fun x c st' => st' = st /\ c = (none, x) /\ SB a₀ x st /\ StabTo (arrOf st) x) ?step ?fin ⟨rfl, rfl, hB, hs⟩
  case fin =>
    rintro c st' ⟨rfl, rfl, hB', hs'⟩
    rw [show max a nrem = nrem by omega] at hs' hB' ⊢
    exact h nrem han (Nat.le_refl _) hB' hs' (.inl rfl)
  case step =>
    rintro x c st' hax hxn ⟨rfl, rfl, hB', hs'⟩
    dsimp only
    refine wpS_bind (wpS_ltK hB.b h0 (by omega) (by omega) ?_)
    by_cases hless : K (arrOf st') x < K (arrOf st') (x - 1)
    . simp only [hless, decide_true, if_true]
      exact wpS_pure (h x hax (by omega) hB' hs' (.inr hless))
    . simp only [hless, decide_false, Bool.false_eq_true, if_false]
      refine wpS_pure ⟨rfl, rfl, ⟨hB'.b, hB'.low.next⟩, fun i j hij hj => ?_⟩
      by_cases hjx : j < x
      . exact hs' i j hij hjx
      . have hj' : j = x := by omega
        subst hj'
        have h1 := hs'.le i (j - 1) (by omega) (by omega)
        have h2 := hB'.low.lo i hij (by omega)
        have h3 := hB'.low.hi j (Nat.le_refl _) (by omega)
        omega
theorem z4Z {st : SortSt} {n nrem : Nat} {Q : Option Nat -> SortSt -> Prop} (h0 : IntKeys a₀) (hn : nrem <= a₀.size) (h1 : 1 <= n) (hnn : n <= nrem) (hB : SB a₀ n st)
    (hs : Down (arrOf st) n) (h : ∀ m st', SB a₀ m st' -> 1 <= m -> m <= nrem -> StabTo (arrOf st') m -> Q (some m) st') :
    wpS (model prog w) A E s (tail3 n nrem) Q st := by
  unfold tail3
  have hsz : n <= (arrOf st).size := by rw [hB.b.size]; omega
  refine wpS_bind (wpS_reverse ?_)
  have hB' : SB a₀ n (setArr st (mirror (arrOf st) 0 n ((n - 0) / 2))) := ⟨hB.b.setArr (mirror_perm _ _ _ _), hB.low.mirror (Nat.le_refl _) (by omega) hsz⟩
  exact wpS_bind (z2e h0 hn h1 hnn hB' (hs.mirror hsz) fun m hm1 hm2 hBm hsm _ => wpS_pure (h m _ hBm (by omega) hm2 hsm))
structure Desc (xs : Array Keyed) (x neq : Nat) : Prop where
  le : neq + 1 <= x
  old : ∀ i j, i < j -> j < x -> i < x - (neq + 1) -> K xs j < K xs i \/ (K xs j = K xs i /\ J xs j < J xs i)
  cut : ∀ i j, i < x - (neq + 1) -> x - (neq + 1) <= j -> j < x -> K xs j < K xs i
  new : ∀ i j, i < j -> j < x -> x - (neq + 1) <= i -> K xs j = K xs i /\ J xs i < J xs j
theorem Desc.one {xs : Array Keyed} {x : Nat} (h : Desc xs x 0) : Down xs x := fun i j hij hj => h.old i j hij hj (by omega)
theorem Down.desc {xs : Array Keyed} {x : Nat} (h : Down xs x) (h1 : 1 <= x) (hc : ∀ i, i + 1 < x -> K xs (x - 1) < K xs i) : Desc xs x 0 :=
  ⟨by omega, fun i j a b c => h i j a b, fun i j a b c => by
    have : j = x - 1 := by omega
    subst this; exact hc i (by omega), fun i j a b c => by omega⟩
theorem Desc.flip {xs : Array Keyed} {x neq : Nat} (h : Desc xs x neq) (hx : x <= xs.size) : Down (mirror xs (x - (neq + 1)) x ((x - (x - (neq + 1))) / 2)) x := fun i j hij hj => by
  have hle := h.le
  rw [K_mirror hx, K_mirror hx, z1D hx, z1D hx]
  by_cases ci : x - (neq + 1) <= i
  . rw [if_pos (by omega), if_pos (by omega), if_pos (by omega), if_pos (by omega)]
    have q := h.new (x - (neq + 1) + x - 1 - j) (x - (neq + 1) + x - 1 - i) (by omega) (by omega) (by omega)
    exact .inr ⟨q.1.symm, q.2⟩
  . by_cases cj : x - (neq + 1) <= j
    . rw [if_pos (by omega), if_neg (by omega), if_pos (by omega), if_neg (by omega)]
      exact .inl (h.cut _ _ (by omega) (by omega) (by omega))
    . rw [if_neg (by omega), if_neg (by omega), if_neg (by omega), if_neg (by omega)]
      exact h.old i j hij hj (by omega)
theorem Down.more {xs : Array Keyed} {x : Nat} (h : Down xs x) (h1 : 1 <= x) (hl : K xs x < K xs (x - 1)) : Desc xs (x + 1) 0 := by
  have hc : ∀ i, i < x -> K xs x < K xs i := fun i hi => by
    by_cases e : i = x - 1
    . subst e; exact hl
    . rcases h i (x - 1) (by omega) (by omega) with z | z <;> omega
  refine Down.desc (fun i j a b => ?_) (by omega) fun i hi => ?_
  . by_cases e : j < x
    . exact h i j a e
    . have : j = x := by omega
      subst this; exact .inl (hc i a)
  . exact hc i (by omega)
theorem z7V {xs : Array Keyed} {x neq : Nat} (h : Desc xs x neq) (hx : x <= xs.size) (i : Nat) : K (mirror xs (x - (neq + 1)) x ((x - (x - (neq + 1))) / 2)) i = K xs i :=
  K_mirror_equal hx (fun k a b => by
    by_cases e : k = x - 1
    . rw [e]
    . exact (h.new k (x - 1) (by omega) (by have := h.le; omega) a).1.symm) i
theorem z43 {st : SortSt} {n nrem : Nat} {Q : DescSt -> SortSt -> Prop} (h0 : IntKeys a₀) (hn : nrem <= a₀.size) (h1 : 1 <= n) (hnn : n <= nrem) (hB : SB a₀ n st)
    (hs : Desc (arrOf st) n 0)
    (h : ∀ m neq st', SB a₀ m st' -> n <= m -> m <= nrem -> Desc (arrOf st') m neq -> Q (none, m, neq) st') :
    wpS (model prog w) A E s (descLoop n nrem) Q st := by
  unfold descLoop
  refine wpS_forRange (I := fun x c st' => ∃ neq, c = (none, x, neq) /\ SB a₀ x st' /\ Desc (arrOf st') x neq) ?step ?fin ⟨0, rfl, hB, hs⟩
  case fin =>
    rintro c st' ⟨neq, rfl, hB', hs'⟩
    rw [show max n nrem = nrem by omega] at hs' hB' ⊢
    exact h nrem neq st' hB' hnn (Nat.le_refl _) hs'
  case step =>
    rintro x c st' hax hxn ⟨neq, rfl, hB', hs'⟩
    dsimp only
    have hsz : x <= (arrOf st').size := by rw [hB'.b.size]; omega
    refine wpS_bind (wpS_ltK hB'.b h0 (by omega) (by omega) ?_)
    by_cases hless : K (arrOf st') x < K (arrOf st') (x - 1)
    . simp only [hless, decide_true, if_true]
      by_cases hneq : neq > 0
      . rw [if_pos hneq]
        refine wpS_bind (wpS_reverse (wpS_pure ⟨0, rfl, ⟨hB'.b.setArr (mirror_perm _ _ _ _), (hB'.low.mirror (Nat.le_refl _) (by omega) hsz).next⟩, ?_⟩))
        refine Down.more (hs'.flip hsz) (by omega) ?_
        show K (mirror (arrOf st') (x - (neq + 1)) x ((x - (x - (neq + 1))) / 2)) x < K (mirror (arrOf st') (x - (neq + 1)) x ((x - (x - (neq + 1))) / 2)) (x - 1)
        rw [z7V hs' hsz, z7V hs' hsz]
        exact hless
      . rw [if_neg hneq]
        have e0 : neq = 0 := by omega
        subst e0
        exact wpS_pure ⟨0, rfl, ⟨hB'.b, hB'.low.next⟩, Down.more hs'.one (by omega) hless⟩
    . simp only [hless, decide_false, Bool.false_eq_true, if_false]
      refine wpS_bind (wpS_ltK hB'.b h0 (by omega) (by omega) ?_)
      by_cases hlarger : K (arrOf st') (x - 1) < K (arrOf st') x
      . simp only [hlarger, decide_true, if_true]
        exact wpS_pure (h x neq st' hB' hax (by omega) hs')
      . simp only [hlarger, decide_false, Bool.false_eq_true, if_false]
        have heqx : K (arrOf st') x = K (arrOf st') (x - 1) := by omega
        have hle := hs'.le
        have e1 : x + 1 - (neq + 1 + 1) = x - (neq + 1) := by omega
        refine wpS_pure ⟨neq + 1, rfl, ⟨hB'.b, hB'.low.next⟩, ⟨by omega, fun i j a b c => ?_, fun i j a b c => ?_, fun i j a b c => ?_⟩⟩
        . rw [e1] at c
          by_cases e : j < x
          . exact hs'.old i j a e c
          . have : j = x := by omega
            subst this
            rw [heqx]
            exact .inl (hs'.cut i (j - 1) c (by omega) (by omega))
        . rw [e1] at a b
          by_cases e : j < x
          . exact hs'.cut i j a b e
          . have : j = x := by omega
            subst this
            rw [heqx]
            exact hs'.cut i (j - 1) a (by omega) (by omega)
        . rw [e1] at c
          by_cases e : j < x
          . exact hs'.new i j a e c
          . have : j = x := by omega
            subst this
            have q1 := hB'.low.lo i a (by omega)
            have q2 := hB'.low.hi j (Nat.le_refl _) (by omega)
            refine ⟨?_, by omega⟩
            rw [heqx]
            by_cases e2 : i = j - 1
            . rw [e2]
            . exact (hs'.new i (j - 1) (by omega) (by omega) c).1
theorem z2J {st : SortSt} {n nrem : Nat} {Q : Option Nat -> SortSt -> Prop} (h0 : IntKeys a₀) (hn : nrem <= a₀.size) (hnn : n + 1 <= nrem) (hB : SB a₀ (n + 1) st)
    (hs : Desc (arrOf st) (n + 1) 0) (h : ∀ m st', SB a₀ m st' -> 1 <= m -> m <= nrem -> StabTo (arrOf st') m -> Q (some m) st') :
    wpS (model prog w) A E s (descPart n nrem) Q st := by
  unfold descPart
  refine wpS_bind (wpS_lift (wpAny_rule ⟨rfl, ?_⟩))
  refine wpS_bind (z43 h0 hn (by omega) hnn hB hs fun m neq st' hB' hm1 hm2 hs' => ?_)
  dsimp only
  have hsz : m <= (arrOf st').size := by rw [hB'.b.size]; omega
  by_cases hneq : neq > 0
  . rw [if_pos hneq]
    exact wpS_bind (wpS_reverse (z4Z h0 hn (by omega) hm2 ⟨hB'.b.setArr (mirror_perm _ _ _ _), hB'.low.mirror (Nat.le_refl _) (by omega) hsz⟩ (hs'.flip hsz) h))
  . rw [if_neg hneq]
    have e0 : neq = 0 := by omega
    subst e0
    exact z4Z h0 hn (by omega) hm2 hB' hs'.one h
theorem z44 {st : SortSt} {nrem : Nat} {Q : Option Nat -> SortSt -> Prop} (h0 : IntKeys a₀) (hn : nrem <= a₀.size) (h1 : 1 <= nrem) (hB : SB a₀ 1 st)
    (h : ∀ m st', SB a₀ m st' -> 1 <= m -> m <= nrem -> StabTo (arrOf st') m -> Q (some m) st') :
    wpS (model prog w) A E s (countRun' 0 nrem) Q st := by
  rw [countRun0_eq]
  refine wpS_bind (z2e h0 hn (Nat.le_refl 1) h1 hB (fun i j hij hj => by omega) fun n hn1 hn2 hBn hsn hor => ?_)
  dsimp only
  by_cases hnn : n = nrem
  . rw [if_pos (by simpa using hnn)]
    exact wpS_pure (h n st hBn hn1 hn2 hsn)
  . rw [if_neg (by simpa using hnn)]
    have hlt : K (arrOf st) n < K (arrOf st) (n - 1) := hor.resolve_left hnn
    by_cases hgt : n > 1
    . rw [if_pos hgt]
      refine wpS_bind (wpS_ltK hB.b h0 (by omega) (by omega) ?_)
      by_cases hrose : K (arrOf st) 0 < K (arrOf st) (n - 1)
      . simp only [hrose, decide_true, if_true]
        exact wpS_pure (h n st hBn hn1 hn2 hsn)
      . simp only [hrose, decide_false, Bool.false_eq_true, if_false]
        have hsz : n <= (arrOf st).size := by rw [hB.b.size]; omega
        have hall : ∀ k, 0 <= k -> k < n -> K (arrOf st) k = K (arrOf st) (n - 1) := by
          intro k _ hk
          have a1 := hsn.le 0 k (by omega) hk
          have a2 := hsn.le k (n - 1) (by omega) (by omega)
          omega
        refine wpS_bind (wpS_reverse (z2J h0 hn (by omega) ⟨hB.b.setArr (mirror_perm _ _ _ _), (hBn.low.mirror (Nat.le_refl _) (by omega) hsz).next⟩ ?_ h))
        show Desc (mirror (arrOf st) 0 n ((n - 0) / 2)) (n + 1) 0
        refine Down.more (fun i j hij hj => ?_) (by omega) ?_
        . rw [K_mirror_equal hsz hall, K_mirror_equal hsz hall, z1D hsz, z1D hsz, if_pos (by omega), if_pos (by omega), hall i (by omega) (by omega), hall j (by omega) (by omega)]
          refine .inr ⟨rfl, ?_⟩
          rcases hsn (0 + n - 1 - j) (0 + n - 1 - i) (by omega) (by omega) with z | z
          . rw [hall _ (by omega) (by omega), hall (0 + n - 1 - i) (by omega) (by omega)] at z
            omega
          . exact z.2
        . rw [K_mirror_equal hsz hall, K_mirror_equal hsz hall]
          exact hlt
    . rw [if_neg hgt]
      have hn1' : n = 1 := by omega
      subst hn1'
      refine z2J h0 hn (by omega) ⟨hBn.b, hBn.low.next⟩ ?_ h
      exact Down.more (fun i j hij hj => by omega) (by omega) hlt
theorem z33 {st : SortSt} {n ok : Nat} {Q : Bool -> SortSt -> Prop} (h0 : IntKeys a₀) (hn : n <= a₀.size) (h1 : 1 <= ok) (hok : ok <= n) (hB : SB a₀ ok st) (hs : StabTo (arrOf st) ok)
    (h : ∀ st', SBase a₀ st' -> StabTo (arrOf st') n -> Q true st') : wpS (model prog w) A E s (binarySort' 0 n ok) Q st := by
  rw [binarySort'_eq]
  simp only [Nat.zero_add]
  refine wpS_bind (wpS_mono (wpS_forRange (I := fun k c st' => c = (none, ()) /\ SB a₀ k st' /\ StabTo (arrOf st') (min k n))
    (Q := fun c st' => c = (none, ()) /\ SBase a₀ st' /\ StabTo (arrOf st') n) ?step ?fin ?init) ?post)
  case post =>
    rintro c st' ⟨rfl, hB', hs'⟩
    exact wpS_pure (h st' hB' hs')
  case init =>
    rw [show max ok 1 = ok by omega, show min ok n = ok by omega]
    exact ⟨rfl, hB, hs⟩
  case fin =>
    rintro c st' ⟨hc, hB', hs'⟩
    refine ⟨hc, hB'.b, ?_⟩
    rwa [show min (max (max ok 1) n) n = n by omega] at hs'
  case step =>
    rintro k c st' hak hkn ⟨rfl, hB', hs'⟩
    rw [show min k n = k by omega] at hs'
    have hk : k < a₀.size := by omega
    refine wpS_bind (wpS_mono (wpS_forRange (I := fun x c st'' => st'' = st' /\ ∃ l r, c = (none, l, r) /\ l <= r /\ r <= k /\ r - l <= k - x /\
        (∀ i, i < l -> K (arrOf st') i <= K (arrOf st') k) /\ (∀ i, r <= i -> i < k -> K (arrOf st') k < K (arrOf st') i))
      (Q := fun c st'' => st'' = st' /\ ∃ l r, c = (none, l, r) /\ l <= k /\
        (∀ i, i < l -> K (arrOf st') i <= K (arrOf st') k) /\ (∀ i, l <= i -> i < k -> K (arrOf st') k < K (arrOf st') i)) ?istep ?ifin ?iinit) ?ipost)
    case iinit => exact ⟨rfl, 0, k, rfl, by omega, by omega, by omega, fun i hi => by omega, fun i h1 h2 => by omega⟩
    case ifin =>
      rintro c st'' ⟨rfl, l, r, rfl, hlr, hrk, hm, hlo, hhi⟩
      have : l = r := by omega
      subst this
      exact ⟨rfl, l, l, rfl, hrk, hlo, hhi⟩
    case istep =>
      rintro x c st'' _ hxk ⟨rfl, l, r, rfl, hlr, hrk, hm, hlo, hhi⟩
      dsimp only
      by_cases hge : l ≥ r
      . rw [if_pos hge]
        have : l = r := by omega
        subst this
        exact wpS_pure ⟨rfl, l, l, rfl, hrk, hlo, hhi⟩
      . rw [if_neg hge]
        refine wpS_bind (wpS_ltK hB'.b h0 hk (by omega) ?_)
        by_cases hless : K (arrOf st'') k < K (arrOf st'') ((l + r) / 2)
        . simp only [hless, decide_true, if_true]
          refine wpS_pure ⟨rfl, l, (l + r) / 2, rfl, by omega, by omega, by omega, hlo, fun i h1 h2 => ?_⟩
          exact Int.lt_of_lt_of_le hless (hs'.le _ _ h1 h2)
        . simp only [hless, decide_false, Bool.false_eq_true, if_false]
          refine wpS_pure ⟨rfl, (l + r) / 2 + 1, r, rfl, by omega, by omega, by omega, fun i h1 => ?_, hhi⟩
          exact Int.le_trans (hs'.le i ((l + r) / 2) (by omega) (by omega)) (Int.not_lt.mp hless)
    case ipost =>
      rintro c st'' ⟨rfl, l, r, rfl, hlk, hlo, hhi⟩
      show wpS _ _ _ _ (do moveDown' k l; pure (ForInStep.yield (none, ()))) _ _
      rw [moveDown'_eq]
      have hks : k < (arrOf st'').size := by rw [hB'.b.size]; exact hk
      have hJk := hB'.low.hi k (Nat.le_refl _) hk
      refine wpS_bind (wpS_modify (wpS_pure ⟨rfl, ⟨hB'.b.setArr (bubble_perm _ _ _), ⟨fun i hi hin => ?_, fun i hi hin => ?_⟩⟩, ?_⟩))
      . show J (bubble (arrOf st'') k (k - l)) i < _
        rw [z1y hks (by omega)]
        repeat' split
        . rw [hJk]; omega
        . have := hB'.low.lo (i - 1) (by omega) (by omega); omega
        . have := hB'.low.lo i (by omega) hin; omega
      . show J (bubble (arrOf st'') k (k - l)) i = _
        rw [z1y hks (by omega), if_neg (by omega), if_neg (by omega)]
        exact hB'.low.hi i (by omega) hin
      . rw [show min (k + 1) n = k + 1 by omega]
        intro i j hij hj
        show K (bubble (arrOf st'') k (k - l)) i < K (bubble (arrOf st'') k (k - l)) j \/ (K (bubble (arrOf st'') k (k - l)) i = K (bubble (arrOf st'') k (k - l)) j /\ J (bubble (arrOf st'') k (k - l)) i < J (bubble (arrOf st'') k (k - l)) j)
        rw [K_bubble hks (by omega), K_bubble hks (by omega), z1y hks (by omega), z1y hks (by omega), show k - (k - l) = l by omega]
        by_cases c1 : i < l
        . by_cases c2 : j < l
          . rw [if_neg (by omega), if_neg (by omega), if_neg (by omega), if_neg (by omega), if_neg (by omega), if_neg (by omega), if_neg (by omega), if_neg (by omega)]
            exact hs' i j hij (by omega)
          . by_cases c3 : j = l
            . rw [if_neg (by omega), if_neg (by omega), if_pos (by omega), if_neg (by omega), if_neg (by omega), if_pos (by omega)]
              have q1 := hlo i c1
              have q2 := hB'.low.lo i (by omega) (by omega)
              omega
            . rw [if_neg (by omega), if_neg (by omega), if_neg (by omega), if_pos (by omega), if_neg (by omega), if_neg (by omega), if_neg (by omega), if_pos (by omega)]
              exact hs' i (j - 1) (by omega) (by omega)
        . by_cases c3 : i = l
          . rw [if_pos (by omega), if_neg (by omega), if_pos (by omega), if_pos (by omega), if_neg (by omega), if_pos (by omega)]
            exact .inl (hhi (j - 1) (by omega) (by omega))
          . rw [if_neg (by omega), if_pos (by omega), if_neg (by omega), if_pos (by omega), if_neg (by omega), if_pos (by omega), if_neg (by omega), if_pos (by omega)]
            exact hs' (i - 1) (j - 1) (by omega) (by omega)
def z6L (a₀ : Array Keyed) (st : SortSt) : Prop :=
  (arrOf st).Perm a₀ /\ failedOf st = none /\ pendingOf st = #[(0, a₀.size, 0)] /\ StabTo (arrOf st) a₀.size
theorem z96 {st : SortSt} (hB : SBase a₀ st) (hs : StabTo (arrOf st) a₀.size) : z6L a₀ (setPending st ((pendingOf st).push (0, a₀.size, 0))) :=
  ⟨hB.perm, hB.failed, by show (pendingOf st).push _ = _; rw [hB.pend]; rfl, hs⟩
theorem z45 {st : SortSt} {Q : Unit -> SortSt -> Prop} (h0 : IntKeys a₀) (hB : SBase a₀ st) (hJ : ∀ i, i < a₀.size -> J (arrOf st) i = i) (h2 : 2 <= a₀.size) (h64 : a₀.size < 64)
    (h : ∀ st', (arrOf st').Perm a₀ -> failedOf st' = none -> StabTo (arrOf st') a₀.size -> Q () st') : wpS (model prog w) A E s sortRuns' Q st := by
  have hB1 : SB a₀ 1 st := ⟨hB, ⟨fun i hi hn => by
    have := hJ i hn; omega, fun i _ hn => hJ i hn⟩⟩
  rw [sortRuns'_eq]
  refine wpS_bind (wpS_get ?_)
  dsimp only
  have hmr : minRun' a₀.size a₀.size 0 = a₀.size := by
    obtain ⟨f, hf⟩ : ∃ f, a₀.size = f + 1 := ⟨a₀.size - 1, by omega⟩
    have : minRun' (f + 1) a₀.size 0 = a₀.size := by rw [minRun'_succ, if_pos h64]; rfl
    rwa [<- hf] at this
  simp only [hB.size, hmr]
  refine wpS_bind (wpS_mono (wpS_forRange
    (I := fun x c st' => (x = 0 /\ c = (none, 0) /\ SB a₀ 1 st') \/ (1 <= x /\ c = (none, a₀.size) /\ z6L a₀ st'))
    (Q := fun c st' => c = (none, a₀.size) /\ z6L a₀ st') ?step ?fin (.inl ⟨rfl, rfl, hB1⟩)) ?post)
  case fin =>
    rintro c st' (⟨hx, _, _⟩ | ⟨_, hc, hD⟩)
    . omega
    . exact ⟨hc, hD⟩
  case step =>
    rintro x c st' _ hx (⟨rfl, rfl, hB'⟩ | ⟨hx1, rfl, hD⟩)
    . dsimp only
      rw [if_neg (by omega)]
      simp only [Nat.sub_zero, Nat.min_self, Nat.zero_add]
      refine wpS_bind (z44 h0 (Nat.le_refl _) (by omega) hB' fun m st2 hB2 hm1 hm2 hs2 => ?_)
      dsimp only
      by_cases hlt : m < a₀.size
      . rw [if_pos hlt]
        refine wpS_bind (wpS_lift (wpAny_rule ⟨rfl, ?_⟩))
        refine wpS_bind (z33 h0 (Nat.le_refl _) hm1 hm2 hB2 hs2 fun st3 hB3 hs3 => ?_)
        simp only [Bool.not_true, Bool.false_eq_true, if_false]
        refine wpS_bind (wpS_get ?_)
        have hb : (pendingOf st3).back? = none := by rw [hB3.pend]; rfl
        rw [hb]
        dsimp only
        exact wpS_bind (wpS_modify (wpS_pure (.inr ⟨by omega, rfl, z96 hB3 hs3⟩)))
      . rw [if_neg hlt]
        have hm : m = a₀.size := by omega
        subst hm
        refine wpS_bind (wpS_get ?_)
        have hb : (pendingOf st2).back? = none := by rw [hB2.b.pend]; rfl
        rw [hb]
        dsimp only
        exact wpS_bind (wpS_modify (wpS_pure (.inr ⟨by omega, rfl, z96 hB2.b hs2⟩)))
    . dsimp only
      rw [if_pos (Nat.le_refl _)]
      exact wpS_pure ⟨rfl, hD⟩
  case post =>
    rintro c st' ⟨rfl, hD⟩
    dsimp only
    refine wpS_bind (wpS_mono (wpS_forRange (I := fun _ c st'' => st'' = st' /\ c = (none, ())) (Q := fun c st'' => st'' = st' /\ c = (none, ())) ?_ (fun _ _ hh => hh) ⟨rfl, rfl⟩) ?_)
    . rintro x c st'' _ _ ⟨rfl, rfl⟩
      refine wpS_bind (wpS_get ?_)
      rw [if_pos (by rw [hD.2.2.1]; exact Nat.le_refl 1)]
      exact wpS_pure ⟨rfl, rfl⟩
    . rintro c st'' ⟨rfl, rfl⟩
      exact wpS_pure (h _ hD.1 hD.2.1 hD.2.2.2)
end
section
variable {prog : Program} {w : World} {A : Around} {E : Value -> Shared -> Prop} {s : Shared}
theorem z46 {Q : List Value -> Shared -> Prop} {r : Addr} {a b c : Int} {t u v : Tok} {n : Nat} (hh : A.handled = none) (hr : IsRange s.heap r a b c t u v) (hsm : Builtin.Range.small a b c = true)
    (hn : Builtin.Range.rangeSize a b c = n) (hl : n <= 2 ^ 24)
    (hQ : ∀ (h' : Heap) (tk : Nat) (acc : Array Value), (∀ b o, s.heap.get? b = some o -> h'.get? b = some o) -> ItemsOf (fun i v => ∃ t, v = .int (a + i * c) t) acc n -> Q acc.toList { s with heap := h', toks := tk }) :
    wpAny (model prog w) A (collect (.ref r)) Q E s := by
  unfold collect
  refine wpAny_bind (wpAny_runValue (codeAny_builtin F.entry_proto_collect ?_))
  rw [Around.under_plainId F.plain_proto_collect _]
  show wpAny _ A.in1 (newList [] >>= fun l => again (.builtin "list.__iadd__" ⟨[l, .ref r], []⟩)) _ _ s
  refine wpAny_bind (wpAny_newObj_type ?_)
  refine wpAny_pure ⟨plainId_quiet F.plain_list_iadd _, codeAny_builtin F.entry_list_iadd ?_⟩
  rw [Around.under_plainId F.plain_list_iadd _]
  have hS : (s.heap.push { cls := .type "list", data := .seq ([] : List Value).toArray }).get? s.heap.objs.size = some { cls := .type "list", data := .seq #[] 0 } := Heap.get?_push_size _ rfl
  refine wpAny_extend_range (R := wants (fun r s' => wpAny (model prog w) A (match r with
        | Value.ref a => do
          match (<- load a).data with
            | Data.seq xs _ => pure xs.toList
            | _ => unsupported "internal:collect"
        | _ => unsupported "internal:collect") Q E s') E) (s := { s with heap := s.heap.push { cls := .type "list", data := .seq ([] : List Value).toArray } }) hh (Heap.get?_push_of_some _ hr) hsm hn hl s.heap.objs.size _ 0 hS fun h' tk acc c' hk hS' hacc => ?_
  show wpAny _ A (load s.heap.objs.size >>= _) _ _ _
  refine wpAny_bind (wpAny_load hS' (wpAny_pure ?_))
  exact hQ h' tk acc (fun b o e => hk b o (Nat.ne_of_lt (Heap.lt_size e)) (Heap.get?_push_of_some _ e)) hacc
end
def upTo (n : Nat) : List V := (List.range n).map fun i => V.int (i : Nat)
theorem z1l (n : Nat) : (upTo n).length = n := by unfold upTo; simp
theorem z6M {acc : Array Value} {n : Nat} (h : ItemsOf (fun i v => ∃ t, v = .int (0 + i * 1) t) acc n) : Vals (upTo n) acc.toList := by
  have key : ∀ (m : Nat) (us : List Value), us.length = m -> (∀ j v, us[j]? = some v -> ∃ t, v = Value.int (j : Nat) t) -> Vals (upTo m) us := by
    intro m
    induction m with
    | zero =>
      intro us hu _
      cases us with
      | nil => exact .nil
      | cons => simp at hu
    | succ m ih =>
      intro us hu hv
      have hne : us ≠ [] := fun z => by rw [z] at hu; simp at hu
      have e1 : us = us.dropLast ++ [us.getLast hne] := (List.dropLast_concat_getLast hne).symm
      have e2 : upTo (m + 1) = upTo m ++ [V.int (m : Nat)] := by unfold upTo; rw [List.range_succ, List.map_append]; rfl
      have hd : us.dropLast.length = m := by rw [List.length_dropLast, hu]; rfl
      rw [e2, e1]
      refine Vals.append (ih _ hd fun j v q => hv j v ?_) (.cons ?_ .nil)
      . have hj : j < us.dropLast.length := (List.getElem?_eq_some_iff.mp q).1
        rw [e1, List.getElem?_append_left hj]
        exact q
      . refine hv m _ ?_
        have : us[m]? = (us.dropLast ++ [us.getLast hne])[m]? := by rw [<- e1]
        rw [this, List.getElem?_append_right (by omega), hd]
        simp
  refine key n acc.toList (by rw [Array.length_toList]; exact h.1) fun j v q => ?_
  rw [Array.getElem?_toList] at q
  obtain ⟨t, e⟩ := h.2 j v q
  exact ⟨t, by rw [e]; simp⟩
section
variable {X : Cx}
def z9V (te : TE) : TE := fun σ H Q => te σ H fun x H1 => ∃ n : Nat, x = .int (n : Nat) /\ n <= 1000000 /\ ∀ l, H1 l = none -> Q (.ref l) (upd H1 l (.lst (upTo n)))
theorem z72 (n : Nat) : Builtin.Range.rangeSize 0 (n : Int) 1 = n := by
  rw [rangeSize_one]
  split <;> omega
def zAF (K : PySem.W.Frag) (te : TE) : TE := fun σ H Q => te σ H fun x H1 => ∃ p ns, x = .ref p /\ SqL K H1 p (ns.map V.int) /\ ns.length < 64 /\ ∀ l ms, H1 l = none -> List.Perm ms ns -> ms.Pairwise (· <= ·) -> Q (.ref l) (upd H1 l (.lst (ms.map V.int)))
end
section
variable {X : Cx} {pins : List (Addr × Obj)} {σ : St} {H : Hp} {s : Shared}
theorem Inv.adopt {a : Addr} {o : HO} {h' : Heap} {tk : Nat} (I : Inv X pins σ H s) (F : z1v X pins H a) (k : ∀ b u, b ≠ a -> s.heap.get? b = some u -> h'.get? b = some u) (ha : ∃ u, h'.get? a = some u) (new : ObjOk X.prog X.w (upd H a o) h' a o) :
    Inv X pins σ (upd H a o) { s with heap := h', toks := tk } := by
  obtain ⟨f0, f1, f2, f3, f4, f5⟩ := F
  have nH : ∀ {b : Addr} {u : HO}, H b = some u -> b ≠ a := fun e => z08 e f0
  have nch : ∀ {b : Addr}, b ∉ [a] -> b ≠ a := fun h z => h (by simp [z])
  refine I.step (g' := s.gens) (d' := s.drawn) (t' := tk) (ch := [a]) (fun b hb => ?_) (fun b u _ _ c e _ => k b u (nch c) e) (fun b u _ _ c e _ => ⟨u.slots, k b u (nch c) e⟩) (fun b u c _ n => by rw [z06 (nch c)]; exact n) (fun b u c e => ⟨u, k b u (nch c) e⟩)
    (fun b xs e => by rw [z06 (nH e)]; exact e) (fun b u xs e => by rw [z06 (nH e)]; exact e) (fun b ps e => ⟨#[], by rw [z06 (nH e), e]; simp⟩) (fun m hm => ?_) (fun b u e => ?_) I.bare
  . have e : b = a := by simpa using hb
    subst e
    exact ⟨f3, f1, f4, f5⟩
  . obtain ⟨u, es, ep, ho, r⟩ := hm
    exact ⟨u, es, ep, k _ u (Ne.symm f1) ho, r⟩
  . by_cases z : b = a
    . subst z
      rw [upd_same] at e
      cases e
      exact new
    . rw [z06 z] at e
      refine (I.hok b u e).stay (fun c v hc q => k c v ?_ q) (fun c q => by rw [z06 (nH q)]; exact q) fun c xs q => by rw [z06 (nH q)]; exact q
      rcases hc with rfl | hc
      . exact z
      . exact nH hc
end
def z4s (X : Cx) (ps : List Str) (qual : Str) (scope : Scope) (f : Addr) (cd : Value) (cl : List (Str × Addr)) (A : Around) (s : Shared) (H : Hp) : Cx where
  prog := X.prog
  w := X.w
  K := X.K
  mg := X.mg
  base := X.base
  A := A.deeper (PySem.W.envX qual scope s.heap.objs.size f cd cl)
  N := ps ++ X.N
  s₀ := s
  H₀ := H
  env := PySem.W.envX qual scope s.heap.objs.size f cd cl
  outer := X.stack
  stack := PySem.W.envX qual scope s.heap.objs.size f cd cl :: X.stack
  ex := []
  calm := true
  fn := fun _ => false
  pn := []
  xe := fun _ _ => False
structure LamScope (X : Cx) (ps : List Str) (scope : Scope) (cl : List (Str × Addr)) : Prop where
  kind : scope.kind = .function
  co : scope.isCoroutine = false
  gen : scope.isGenerator = false
  nd : ps.Nodup
  par : ∀ x ∈ ps, scope.names.lookup x = some .local
  nocell : ∀ y ∈ scope.names, y.2 ≠ .cell
  free : ∀ x, scope.names.lookup x = some .free -> ∃ c, cl.lookup x = some c
  sub : ∀ x c, cl.lookup x = some c -> X.env.cells.lookup x = some c /\ (X.env.kindOf x = some .cell \/ X.env.kindOf x = some .free)
  dis : ∀ x ∈ X.N, scope.names.lookup x ≠ some .local
theorem z2f {x : Str} {v : Value} : ∀ {ps : List Str} {us : List Value} {i : Nat}, ps.Nodup -> ps[i]? = some x -> us[i]? = some v -> (ps.zip us).reverse.lookup x = some v
  | [], _, _, _, h, _ => by simp at h
  | _ :: _, [], _, _, _, h => by simp at h
  | p :: ps, u :: us, 0, nd, h1, h2 => by
    simp at h1 h2
    subst h1 h2
    rw [List.zip_cons_cons, List.reverse_cons, List.lookup_append]
    have z : (ps.zip us).reverse.lookup p = none := by
      rw [List.lookup_eq_none_iff]
      intro q hq
      have hm := (List.of_mem_zip (List.mem_reverse.mp (show (q.1, q.2) ∈ (ps.zip us).reverse from hq))).1
      exact bne_iff_ne.mpr fun (e : p = q.1) => (List.nodup_cons.mp nd).1 (by rw [e]; exact hm)
    rw [z]
    simp [List.lookup_cons]
  | p :: ps, u :: us, i + 1, nd, h1, h2 => by
    rw [List.zip_cons_cons, List.reverse_cons, List.lookup_append, z2f (List.nodup_cons.mp nd).2 (by simpa using h1) (by simpa using h2)]
    rfl
section
variable {X : Cx} {pins : List (Addr × Obj)} {σ : St} {H : Hp} {s : Shared} {A : Around}
theorem z87 {ps : List Str} {qual : Str} {scope : Scope} {f : Addr} {cd : Value} {cl : List (Str × Addr)} {vs : List V} {us : List Value} {h₁ : Heap} {tk : Nat} (I : Inv X pins σ H s) (hA : A.frames = some X.stack) (hh : A.handled = none) (S : LamScope X ps scope cl)
    (hl : vs.length = ps.length) (r : Vals vs us) (hns : h₁.Ns s.heap.objs.size (fun x => (ps.zip us).reverse.lookup x)) (hk : ∀ b o, s.heap.get? b = some o -> h₁.get? b = some o) :
    Inv (z4s X ps qual scope f cd cl A s H) [] (vs.map some ++ σ) H { s with heap := h₁, toks := tk } := by
  have noA : ∀ b : Addr, b ∉ (z4s X ps qual scope f cd cl A s H).ex := fun b z => absurd (show b ∈ ([] : List Addr) from z) (by simp)
  have cellK : ∀ {c : Addr} {v : Option Value}, s.heap.IsCell c v -> h₁.IsCell c v := fun ⟨o, e, d⟩ => ⟨o, hk _ _ e, d⟩
  refine ⟨⟨I.ok.mod, S.kind, rfl, rfl, Nat.le_refl _, fun y z c h1 h2 => ?_, fun y hy => ?_, fun y c z _ => absurd z (by show ¬ (false = true); exact Bool.false_ne_true), fun _ => hh, Around.frames_deeper hA, .inr ⟨rfl, rfl⟩, fun b z => absurd z (noA b),
      I.bs, Nat.le_trans I.ok.bsz I.sz, fun b _ _ => noA b, fun b z => absurd z (noA b), I.stack, I.stkFree⟩,
    rfl, I.bare, Un.kept hk, ⟨_, hns, fun i y v h1 h2 h3 => ?_⟩, fun y c h => ?_, I.hok.fresh (Nat.le_refl _), fun y c h => ?_, fun p hp => absurd (show p ∈ ([] : List (Addr × Obj)) from hp) (by simp), I.hok.kept hk, ?_⟩
  . exact I.ok.inj y z c (S.sub y c h1).1 (S.sub z c h2).1
  . have hy : scope.names.lookup y = some .cell \/ scope.names.lookup y = some .free := hy
    rcases hy with hy | hy
    . exact absurd rfl (S.nocell _ (PySem.mem_of_lookup hy))
    . exact S.free y hy
  . have h1 : (ps ++ X.N)[i]? = some y := h1
    have h2 : (vs.map some ++ σ)[i]? = some (some v) := h2
    by_cases hi : i < ps.length
    . rw [List.getElem?_append_left hi] at h1
      rw [List.getElem?_append_left (by rw [List.length_map]; omega), List.getElem?_map] at h2
      have ha : vs[i]? = some v := by
        cases e : vs[i]? with
        | none => rw [e] at h2; cases h2
        | some a => rw [e] at h2; cases h2; rfl
      obtain ⟨u, hu, rv⟩ := r.get ha
      exact ⟨u, rv, .inl ⟨S.par y (List.mem_of_getElem? h1), z2f S.nd h1 hu⟩⟩
    . rw [List.getElem?_append_right (by omega)] at h1
      rw [List.getElem?_append_right (by rw [List.length_map]; omega), List.length_map, hl] at h2
      have hd := S.dis y (List.mem_of_getElem? h1)
      have hv : scope.names.lookup y = some .free := by
        rcases h3 with z | z | z
        . exact absurd z hd
        . exact absurd rfl (S.nocell _ (PySem.mem_of_lookup z))
        . exact z
      obtain ⟨c, hc⟩ := S.free y hv
      obtain ⟨e1, e2⟩ := S.sub y c hc
      obtain ⟨m, hn, hloc⟩ := I.loc
      obtain ⟨u, rv, lk⟩ := hloc _ y v h1 h2 (.inr e2)
      refine ⟨u, rv, .inr ⟨.inr hv, c, hc, ?_⟩⟩
      rcases lk with ⟨z, _⟩ | ⟨_, c2, z, cc⟩
      . rcases e2 with q | q <;> (rw [q] at z; cases z)
      . rw [e1] at z
        cases z
        exact cellK cc
  . obtain ⟨v, cc⟩ := I.cell y c (S.sub y c h).1
    exact ⟨v, cellK cc⟩
  . exact I.freeC y c (S.sub y c h).1
  . show (vs.map some ++ σ).length = (ps ++ X.N).length
    rw [List.length_append, List.length_append, List.length_map, hl, I.len]
theorem z73 {ps : List Str} {qual : Str} {params : Arguments} {body : Expr} {scope : Scope} {cl : List (Str × Addr)} {pm ctv : Value} {f c' : Addr} {vs : List V} {us : List Value} {tb : TE} {Q : VK} (I : Inv X pins σ H s) (hA : A.frames = some X.stack) (hh : A.handled = none)
    (hroom : A.depth < recursionLimit) (S : LamScope X ps scope cl) (hf : (f, PySem.W.kla_obj "<lambda>" qual params body scope cl pm c' ctv) ∈ pins) (hcd : s.heap.CodeRec (.ref c') qual)
    (hb : bindArgs (PySem.W.kla_fn "<lambda>" qual params body scope cl pm (.ref c') ctv) ⟨us, []⟩ = pure (ps.zip us)) (hl : vs.length = ps.length) (r : Vals vs us)
    (pb : PE (z4s X ps qual scope f (.ref c') cl A s H) body tb) (h : tb (vs.map some ++ σ) H Q) : wpAny (model X.prog X.w) A (call (.ref f) us) (EP X pins σ Q) (fun _ _ => False) s := by
  have ho := (I.pin _ (List.mem_append_right _ hf)).1
  refine wpAny_call (PySem.W.kla_callFunE hroom ho rfl S.co S.gen rfl hcd ?_)
  rw [hb]
  refine wpAny_pure (wpAny_newFunctionEnv S.nocell (fun y hy => S.par _ (List.of_mem_zip (show (y.1, y.2) ∈ ps.zip us from hy)).1) (fun h₁ hns hsb => ⟨(I.nolimit).fresh _ hsb, ?_⟩) S.kind)
  have hk : ∀ b o, s.heap.get? b = some o -> h₁.get? b = some o := fun b o e => hsb.extBut b o (Nat.ne_of_lt (Heap.lt_size e)) (Heap.get?_push_of_some _ e)
  have J := z87 (qual := qual) (f := f) (cd := .ref c') (tk := s.toks + (ps.zip us).length) I hA hh S hl r hns hk
  show codeAny _ _ (.expr body (PySem.W.envX qual scope s.heap.objs.size f (.ref c') cl)) _ _
  refine PySem.W.kla_codeExpr (wpAny_mono (pb [] _ _ H Q J h) (fun u s' hq => ?_) fun _ _ z => (show False from z).elim)
  obtain ⟨v, H', J', rv, q⟩ := hq
  exact I.after ⟨v, H', J'.os, J'.bare, J'.base, J'.hok, rv, q⟩
end
def CodeAt (c : Addr) (qual : Str) (h : Heap) : Prop := ∃ o vs t, h.get? c = some o /\ o.data = .fields vs /\ vs[1]? = some (.str qual t)
theorem CodeAt.rec' {c : Addr} {qual : Str} {h : Heap} (x : CodeAt c qual h) : h.CodeRec (.ref c) qual := let ⟨o, vs, t, a, b, d⟩ := x; ⟨c, o, vs, t, rfl, a, b, d⟩
theorem CodeAt.of {c : Addr} {qual : Str} {h : Heap} (x : h.CodeRec (.ref c) qual) : CodeAt c qual h := by
  obtain ⟨c2, o, vs, t, e, a, b, d⟩ := x
  cases e
  exact ⟨o, vs, t, a, b, d⟩
def TabOk (P : Addr) (pos : Pos) (qual : Str) (H : Hp) : Prop :=
  H P = some (.tbl #[]) \/ ∃ c, H P = some (.tbl #[rawInt pos.line, rawInt pos.col, .ref c]) /\ H c = some (.ext (CodeAt c qual))
def SameP (P : Addr) (H H' : Hp) : Prop := ∀ b o, b ≠ P -> H b = some o -> H' b = some o
theorem SameP.refl (P : Addr) (H : Hp) : SameP P H H := fun _ _ _ h => h
theorem SameP.trans {P : Addr} {H H1 H2 : Hp} (a : SameP P H H1) (b : SameP P H1 H2) : SameP P H H2 := fun c o n h => b c o n (a c o n h)
theorem Same.toP {P : Addr} {H H' : Hp} (a : Same H H') : SameP P H H' := fun b o _ h => a b o h
theorem TabOk.keep {P : Addr} {pos : Pos} {qual : Str} {H H' : Hp} (t : TabOk P pos qual H) (e : Same H H') : TabOk P pos qual H' := by
  rcases t with t | ⟨c, t1, t2⟩
  . exact .inl (e _ _ t)
  . exact .inr ⟨c, e _ _ t1, e _ _ t2⟩
theorem TabOk.is {P : Addr} {pos : Pos} {qual : Str} {H : Hp} (t : TabOk P pos qual H) : ∃ ps, H P = some (.tbl ps) := by
  rcases t with t | ⟨c, t1, _⟩
  . exact ⟨_, t⟩
  . exact ⟨_, t1⟩
theorem TabOk.ne {P : Addr} {pos : Pos} {qual : Str} {H : Hp} (t : TabOk P pos qual H) {b : Addr} {o : HO} (h : H b = some o) (n : ∀ ps, o ≠ .tbl ps) : b ≠ P := by
  obtain ⟨ps, e⟩ := t.is
  exact z4f h e (n ps)
structure BaseT (mg : Str -> Option Value) (base : Heap) (c P : Addr) : Prop where
  code : PySem.W.CodeHd base c P
  blt : base.BuiltinsAt mg P
section
variable {X : Cx} {pins : List (Addr × Obj)} {σ : St} {H : Hp} {s : Shared}
theorem z74 {P c : Addr} {qual : Str} {h : Heap} {prog : Program} {w : World} {H : Hp} (x : CodeAt c qual h) : ObjOk prog w H h c (.ext (CodeAt c qual)) :=
  ⟨x, (let ⟨o, _, _, e, _⟩ := x; ⟨o, e⟩), fun h1 h2 y k => let ⟨o, vs, t, e, r⟩ := y; ⟨o, vs, t, k o e, r⟩⟩
theorem Inv.grown {P c : Addr} {qual : Str} {ps more : Array Value} {h' : Heap} {tk : Nat} (I : Inv X pins σ H s) (hP : H P = some (.tbl ps)) (hx : Heap.ExtBut P s.heap h') (hc : s.heap.objs.size <= c) (hcd : CodeAt c qual h') (ht : h'.get? P = some (PySem.W.tabObj (ps ++ more))) :
    Inv X pins σ (upd (upd H P (.tbl (ps ++ more))) c (.ext (CodeAt c qual))) { s with heap := h', toks := tk } := by
  have lt : ∀ {b : Addr} {o : Obj}, s.heap.get? b = some o -> b ≠ c := fun e z => absurd (Nat.lt_of_lt_of_le (Heap.lt_size e) hc) (by rw [z]; exact Nat.lt_irrefl _)
  have ltH : ∀ {b : Addr} {o : HO}, H b = some o -> b ≠ c := fun e z => absurd (Nat.lt_of_lt_of_le (I.hok.lt e) hc) (by rw [z]; exact Nat.lt_irrefl _)
  have nP : ∀ {b : Addr}, H b = none -> b ≠ P := fun n z => by rw [z, hP] at n; cases n
  have up : ∀ {b : Addr}, b ≠ c -> b ≠ P -> upd (upd H P (.tbl (ps ++ more))) c (.ext (CodeAt c qual)) b = H b := fun a b => by rw [z06 a, z06 b]
  have thr : ∀ b o, s.heap.get? b = some o -> ∃ o', h'.get? b = some o' := fun b o e => by
    by_cases z : b = P
    . exact ⟨_, by rw [z]; exact ht⟩
    . exact ⟨o, hx b o z e⟩
  have kindP : ∀ {b : Addr} {o : HO}, H b = some o -> (∀ q, o ≠ .tbl q) -> b ≠ P := fun e n => z4f e hP (n _)
  refine I.step (g' := s.gens) (d' := s.drawn) (t' := tk) (ch := []) (fun _ z => nomatch z) (fun b o _ _ _ e n => hx b o (nP n) e) (fun b o _ _ _ e n => ⟨o.slots, hx b o (nP n) e⟩) (fun b o _ e n => by rw [up (lt e) (nP n)]; exact n) (fun b o _ e => thr b o e)
    (fun b xs e => by rw [up (ltH e) (kindP e fun _ z => nomatch z)]; exact e) (fun b o u e => by rw [up (ltH e) (kindP e fun _ z => nomatch z)]; exact e) (fun b qs e => ?_) (fun m hm => ?_) (fun b u e => ?_) I.bare
  . by_cases z : b = P
    . subst z
      rw [hP] at e
      cases e
      exact ⟨more, by rw [z06 (ltH hP), upd_same]⟩
    . exact ⟨#[], by rw [up (ltH e) z, e]; simp⟩
  . obtain ⟨o, es, ep, ho, r⟩ := hm
    exact ⟨o, es, ep, hx _ _ (nP I.free) ho, r⟩
  . by_cases zc : b = c
    . subst zc
      rw [upd_same] at e
      cases e
      exact z74 (P := P) hcd
    . by_cases zP : b = P
      . subst zP
        rw [z06 zc, upd_same] at e
        cases e
        exact ht
      . rw [up zc zP] at e
        refine (I.hok b u e).stay (fun a v ha q => hx a v ?_ q) (fun a q => by rw [up (ltH q) (kindP q fun _ z => nomatch z)]; exact q) fun a xs q => by rw [up (ltH q) (kindP q fun _ z => nomatch z)]; exact q
        rcases ha with rfl | ha
        . exact zP
        . exact kindP ha fun _ z => nomatch z
theorem z75 {c P : Addr} {params : Arguments} {body : Expr} {scope : Scope} {pos : Pos} {qual : Str} {clos : List (Str × Addr)} {E : Value -> Shared -> Prop} {Q : Value -> Shared -> Prop} (I : Inv X pins σ H s) (B : BaseT X.mg X.base c P) (hcode : X.env.code = .ref c)
    (hq : X.env.qual ++ "<lambda>" = qual) (hdef : defaultsOf params X.env = ([], [])) (hcl : closureFor scope X.env = pure clos) (T : TabOk P pos qual H)
    (h : ∀ f c' pm ctv H' s', TabOk P pos qual H' -> SameP P H H' -> (∀ b, H b = none -> b < s.heap.objs.size -> H' b = none) -> Inv X ((f, PySem.W.kla_obj "<lambda>" qual params body scope clos pm c' ctv) :: pins) σ H' s' -> s'.heap.CodeRec (.ref c') qual -> H' c' = some (.ext (CodeAt c' qual)) -> Q (.ref f) s') :
    wpAny (model X.prog X.w) X.A (eval (.Lambda params body scope pos) X.env) Q E s := by
  refine PySem.W.kla_eval hdef ?_
  rw [hq]
  have hg := I.mod.glob.keeps I.bk
  have C := B.code.keeps I.bk
  obtain ⟨bm, ob, b1, b2, b3, b4, b5, b6⟩ := B.blt
  have Bl : s.heap.BuiltinsAt X.mg P := ⟨bm, ob, b1, b2, b3, b4, I.bk _ _ b5, b6⟩
  obtain ⟨tp, etp⟩ := T.is
  have oP : s.heap.get? P = some (PySem.W.tabObj tp) := I.hok P _ etp
  have hgP : mainGlobals ≠ P := fun z => by
    obtain ⟨o, es, ep, e, hd, _⟩ := hg
    rw [z, oP] at e
    cases e
    cases hd
  have pin : ∀ {h' : Heap} {H' : Hp} {tk : Nat} {o : Obj}, Inv X pins σ H' { s with heap := h', toks := tk } -> (∀ v, o.data ≠ .cell v) -> o.isFreed = false -> Inv X ((h'.objs.size, o) :: pins) σ H' { s with heap := h'.push o, toks := tk } := fun {h' H' tk o} J hd hfz => by
    have J2 : Inv X pins σ H' { s with heap := h'.push o, toks := tk } := J.kept (h' := h'.push o) (t' := tk) fun b u e => Heap.get?_push_of_some _ e
    have F := J.fpOk (H' := H') (b := h'.objs.size) (Nat.le_refl _) (J.hok.fresh (Nat.le_refl _))
    refine J2.pins_of fun p hp => ?_
    rcases List.mem_cons.mp hp with rfl | hp
    . exact ⟨Heap.get?_push_size _ hfz, F.1, F.2.1, F.2.2.1, hd⟩
    . exact J2.pin p (List.mem_append_right _ hp)
  rcases T with T | ⟨c', T1, T2⟩
  . rw [T] at etp
    cases etp
    refine PySem.W.kla_makeFunction hcl I.ok.glob hg hcode C oP trivial rfl hgP Bl fun c' ctv h' tk hx hge hlt hrec htb => ?_
    have hca := CodeAt.of hrec
    have hcP : c' ≠ P := fun z => absurd (Nat.lt_of_lt_of_le (Heap.lt_size oP) hge) (by rw [z]; exact Nat.lt_irrefl _)
    have J := I.grown (tk := tk) T hx hge hca htb
    have e1 : (upd (upd H P (.tbl (#[] ++ #[rawInt pos.line, rawInt pos.col, .ref c']))) c' (.ext (CodeAt c' qual))) P = some (.tbl #[rawInt pos.line, rawInt pos.col, .ref c']) := by
      rw [z06 (Ne.symm hcP), upd_same]
      simp
    refine h h'.objs.size c' _ ctv _ _ (.inr ⟨c', e1, upd_same⟩) (fun b o n e => ?_) (fun b n l => ?_) (pin J (fun v z => nomatch z) rfl) (hrec.keeps fun b o e => Heap.get?_push_of_some _ e) upd_same
    . have hbc : b ≠ c' := fun z => absurd (Nat.lt_of_lt_of_le (I.hok.lt e) hge) (by rw [z]; exact Nat.lt_irrefl _)
      rw [z06 hbc, z06 n]
      exact e
    . have hbc : b ≠ c' := fun z => absurd (Nat.lt_of_lt_of_le l hge) (by rw [z]; exact Nat.lt_irrefl _)
      have hbP : b ≠ P := fun z => by rw [z, T] at n; cases n
      rw [z06 hbc, z06 hbP]
      exact n
  . rw [T1] at etp
    cases etp
    obtain ⟨hca, _⟩ := I.hok c' _ T2
    refine PySem.W.kla_makeFunctionHit (cv := .ref c') hcl I.ok.glob hg hcode C oP (by simp [TriplesOk, rawInt]) (by simp [codeAmong, rawInt]) Bl fun ctv h' tk hk hsz => ?_
    have J : Inv X pins σ H { s with heap := h', toks := tk } := I.kept hk
    exact h h'.objs.size c' _ ctv _ _ (.inr ⟨c', T1, T2⟩) (.refl _ _) (fun _ n _ => n) (pin J (fun v z => nomatch z) rfl) (hca.rec'.keeps fun b o e => Heap.get?_push_of_some _ (hk b o e)) T2
end
def Order (key : Nat -> Int) (n : Nat) (ms : List Nat) : Prop := ms.Perm (List.range n) /\ ms.Pairwise fun i j => key i < key j \/ (key i = key j /\ i < j)
def z0l (ms : List Nat) : List V := ms.map fun i => V.int (i : Nat)
theorem z2K : ∀ {vs : List Value} {ns : List Int} {i : Nat} {v : Value}, IntsAre vs ns -> vs[i]? = some v -> ∃ n t, ns[i]? = some n /\ v = .int n t
  | _, _, _, _, .nil, e => by simp at e
  | _, _, 0, _, .cons n t _, e => by simp at e; exact ⟨n, t, rfl, e.symm⟩
  | _, _, i + 1, v, .cons _ _ h, e => by
    obtain ⟨n, t, a, b⟩ := z2K (i := i) (v := v) h (by simpa using e)
    exact ⟨n, t, by simpa using a, b⟩
theorem z2L : ∀ {xs : List V} {us : List Value} {i : Nat} {u : Value}, Vals xs us -> us[i]? = some u -> ∃ x, xs[i]? = some x /\ RelV x u
  | _, _, _, _, .nil, e => by simp at e
  | _, _, 0, _, .cons r _, e => by simp at e; subst e; exact ⟨_, rfl, r⟩
  | _, _, i + 1, u, .cons _ t, e => by
    obtain ⟨x, h1, h2⟩ := z2L (i := i) (u := u) t (by simpa using e)
    exact ⟨x, by simpa using h1, h2⟩
section
variable {keys items : Array Value} {n : Nat} {key : Nat -> Int}
theorem z6N (hk : IntsAre keys.toList ((List.range n).map key)) (hi : Vals (upTo n) items.toList) {i : Nat} {p : Keyed} (h : (keys.zip items)[i]? = some p) : i < n /\ ∃ t u, p = (.int (key i) t, .int (i : Nat) u) := by
  rw [<- Array.getElem?_toList, Array.toList_zip, List.getElem?_zip_eq_some] at h
  obtain ⟨h1, h2⟩ := h
  obtain ⟨m, t, e1, e2⟩ := z2K hk h1
  obtain ⟨x, e3, r⟩ := z2L hi h2
  rw [List.getElem?_map] at e1
  cases q : (List.range n)[i]? with
  | none => rw [q] at e1; cases e1
  | some j =>
    rw [q] at e1
    obtain ⟨hlt, ej⟩ := List.getElem?_eq_some_iff.mp q
    rw [List.length_range] at hlt
    rw [List.getElem_range] at ej
    subst ej
    cases e1
    unfold upTo at e3
    rw [List.getElem?_map, q] at e3
    cases e3
    obtain ⟨u, e4⟩ := r
    exact ⟨hlt, t, u, Prod.ext e2 e4⟩
theorem z6O (hk : IntsAre keys.toList ((List.range n).map key)) (hi : Vals (upTo n) items.toList) {p : Keyed} (h : p ∈ (keys.zip items).toList) : ∃ i t u, i < n /\ p = (.int (key i) t, .int (i : Nat) u) := by
  obtain ⟨i, hi'⟩ := List.mem_iff_getElem?.mp h
  rw [Array.getElem?_toList] at hi'
  obtain ⟨h1, t, u, e⟩ := z6N hk hi hi'
  exact ⟨i, t, u, h1, e⟩
theorem z1z (hk : IntsAre keys.toList ((List.range n).map key)) (hi : Vals (upTo n) items.toList) : (keys.zip items).size = n := by
  have h1 := hk.length
  have h2 := hi.length
  rw [Array.length_toList, List.length_map, List.length_range] at h1
  rw [z1l, Array.length_toList] at h2
  rw [Array.size_zip]
  omega
theorem zAG (hk : IntsAre keys.toList ((List.range n).map key)) (hi : Vals (upTo n) items.toList) (i : Nat) (h : i < (keys.zip items).size) : J (keys.zip items) i = i := by
  obtain ⟨_, t, u, e⟩ := z6N hk hi (getElem?_pos (keys.zip items) i h)
  unfold J
  rw [getElem?_pos (keys.zip items) i h, e]
  rfl
theorem z76 (hk : IntsAre keys.toList ((List.range n).map key)) (hi : Vals (upTo n) items.toList) : IntKeys (keys.zip items) := fun p hp => by
  obtain ⟨i, t, u, _, e⟩ := z6O hk hi hp
  exact ⟨_, _, by rw [e]⟩
theorem z4a : ∀ (l : List Keyed), (∀ p ∈ l, ∃ (i : Nat) (u : Tok), p.2 = .int (i : Nat) u) -> Vals (z0l (l.map fun p => (numOf p.2).toNat)) (l.map (·.2))
  | [], _ => .nil
  | p :: l, h => by
    obtain ⟨i, u, e⟩ := h p List.mem_cons_self
    refine .cons ⟨u, ?_⟩ (z4a l fun q hq => h q (List.mem_cons_of_mem _ hq))
    show p.2 = Value.int (((numOf p.2).toNat : Nat) : Int) u
    rw [e]
    rfl
theorem z77 (hk : IntsAre keys.toList ((List.range n).map key)) (hi : Vals (upTo n) items.toList) {xs : Array Keyed} (hp : xs.Perm (keys.zip items)) (hs : StabTo xs n) :
    ∃ ms : List Nat, Vals (z0l ms) (xs.map (·.2)).toList /\ Order key n ms := by
  have hl : xs.toList.Perm (keys.zip items).toList := Array.perm_iff_toList_perm.mp hp
  have hm : ∀ p ∈ xs.toList, ∃ i t u, i < n /\ p = (.int (key i) t, .int (i : Nat) u) := fun p h => z6O hk hi (hl.mem_iff.mp h)
  have hsz : xs.size = n := by rw [hp.size_eq]; exact z1z hk hi
  refine ⟨xs.toList.map fun p => (numOf p.2).toNat, ?_, ?_, ?_⟩
  . rw [Array.toList_map]
    exact z4a _ fun p h => let ⟨i, _, u, _, e⟩ := hm p h; ⟨i, u, by rw [e]⟩
  . have h1 := hl.map fun p : Keyed => (numOf p.2).toNat
    have e2 : (keys.zip items).toList.map (fun p : Keyed => (numOf p.2).toNat) = List.range n := by
      refine List.ext_getElem? fun i => ?_
      rw [List.getElem?_map, Array.getElem?_toList]
      cases q : (keys.zip items)[i]? with
      | none =>
        rw [Array.getElem?_eq_none_iff, z1z hk hi] at q
        rw [List.getElem?_eq_none (by rw [List.length_range]; exact q)]
        rfl
      | some p =>
        obtain ⟨h1, t, u, e⟩ := z6N hk hi q
        rw [e, List.getElem?_range h1]
        rfl
    rw [e2] at h1
    exact h1
  . rw [List.pairwise_map, List.pairwise_iff_getElem]
    intro i j hi' hj' hij
    rw [Array.length_toList] at hi' hj'
    have q := hs i j hij (by omega)
    obtain ⟨a, t, u, _, ea⟩ := hm _ (List.getElem_mem (l := xs.toList) (by rw [Array.length_toList]; exact hi'))
    obtain ⟨b, t', u', _, eb⟩ := hm _ (List.getElem_mem (l := xs.toList) (by rw [Array.length_toList]; exact hj'))
    have ga : xs[i]? = some (.int (key a) t, .int (a : Nat) u) := by rw [<- ea, Array.getElem_toList]; exact getElem?_pos _ _ _
    have gb : xs[j]? = some (.int (key b) t', .int (b : Nat) u') := by rw [<- eb, Array.getElem_toList]; exact getElem?_pos _ _ _
    unfold K J at q
    rw [ga, gb] at q
    rw [ea, eb]
    have q' : key a < key b \/ (key a = key b /\ (a : Int) < (b : Int)) := q
    show key ((a : Int).toNat) < key ((b : Int).toNat) \/ _
    rw [Int.toNat_natCast, Int.toNat_natCast]
    rcases q' with z | ⟨z1, z2⟩
    . exact .inl z
    . exact .inr ⟨z1, by show (a : Int).toNat < (b : Int).toNat; omega⟩
end
section
variable {X : Cx} {pins : List (Addr × Obj)} {σ : St} {H : Hp} {s : Shared} {A : Around} {E : Value -> Shared -> Prop} {a kS f : Addr} {keys items : Array Value} {n e e1 : Nat} {key : Nat -> Int} {P : PySem.Fin -> Shared -> Prop}
theorem z3b {st : SortSt} (I : Inv X ((kS, seqObj "list" keys e) :: (a, seqObj "list" #[] e1) :: pins) σ H s) (Fa : z1v X pins H a) (Fk : z1v X ((a, seqObj "list" #[] e1) :: pins) H kS) (hk : IntsAre keys.toList ((List.range n).map key)) (hi : Vals (upTo n) items.toList) (h64 : n < 64)
    (hp : (arrOf st).Perm (keys.zip items)) (hs : StabTo (arrOf st) n) (hfl : failedOf st = none)
    (h : ∀ ms s', Inv X pins σ (upd H a (.lst (z0l ms))) s' -> Order key n ms -> P (.done (.ret .none)) s') : wpAny (model X.prog X.w) A (ksk_tail a false e1 (.ref kS) st) P E s := by
  have nk := I.pin (kS, seqObj "list" keys e) (List.mem_append_right _ List.mem_cons_self)
  have na := I.pin (a, seqObj "list" #[] e1) (List.mem_append_right _ (List.mem_cons_of_mem _ List.mem_cons_self))
  have hka : a ≠ kS := Fk.2.2.2.2.2 (a, seqObj "list" #[] e1) (List.mem_append_right _ List.mem_cons_self)
  have hksz : keys.size = n := by
    have h1 := hk.length
    rw [Array.length_toList, List.length_map, List.length_range] at h1
    exact h1
  have hout : ((arrOf st).map (·.2)).size = n := by rw [Array.size_map, hp.size_eq, z1z hk hi]
  have s1 := Heap.SameBut.update s.heap kS (Obj.mapSeq fun _ => (#[] : Array Value))
  have na1 : (s.heap.update kS (Obj.mapSeq fun _ => (#[] : Array Value))).get? a = some (seqObj "list" #[] e1) := (s1.2 a hka).trans na.1
  have s2 := Heap.SameBut.update (s.heap.update kS (Obj.mapSeq fun _ => (#[] : Array Value))) a (Obj.mapSeq fun _ => (arrOf st).map (·.2))
  obtain ⟨c2, hc2⟩ : ∃ c2, ((s.heap.update kS (Obj.mapSeq fun _ => (#[] : Array Value))).update a (Obj.mapSeq fun _ => (arrOf st).map (·.2))).get? a = some (seqObj "list" ((arrOf st).map (·.2)) c2) :=
    ⟨_, get?_update_seq na1 fun _ => (arrOf st).map (·.2)⟩
  obtain ⟨ms, hv, ho⟩ := z77 hk hi hp hs
  unfold ksk_tail
  dsimp only
  refine wpAny_bind (listUpdate_at nk.1 rfl ?_ (by rw [hksz, sizeLine_eq]; omega) (Nat.zero_le _))
  refine wpAny_bind (wpAny_letGo ?_)
  refine wpAny_bind (seqEpoch_at na1 rfl ?_)
  refine wpAny_bind (listUpdate_at na1 rfl ?_ (Nat.zero_le _) (Nat.le_trans (Nat.le_of_eq hout) (by rw [sizeLine_eq]; omega)))
  rw [hfl]
  simp only [bne_self_eq_false, Bool.false_eq_true, if_false]
  have J1 : Inv X ((a, seqObj "list" #[] e1) :: pins) σ H s := I.pins_of fun p hp => I.pin p (List.mem_append_right _ (List.mem_cons_of_mem _ hp))
  have J2 : Inv X ((a, seqObj "list" #[] e1) :: pins) σ H { s with heap := s.heap.update kS (Obj.mapSeq fun _ => (#[] : Array Value)), toks := s.toks } := J1.turned (fun b o hb q => (s1.2 b hb).trans q) Fk.1 Fk.2.1 Fk.2.2.2.1 Fk.2.2.2.2.1 Fk.2.2.2.2.2
  have J3 : Inv X pins σ H { s with heap := s.heap.update kS (Obj.mapSeq fun _ => (#[] : Array Value)), toks := s.toks } := J2.pins_of fun p hp => J2.pin p (List.mem_append_right _ (List.mem_cons_of_mem _ hp))
  refine wpAny_pure (h ms _ (J3.adopt (tk := s.toks) Fa (fun b o hb q => (s2.2 b hb).trans q) ⟨_, hc2⟩ ⟨?_, _, c2, hv, by rw [Array.toArray_toList]; exact hc2⟩) ho)
  have := hv.length
  rw [this, Array.length_toList, hout, sizeLine_eq]
  omega
theorem z78 (I : Inv X ((kS, seqObj "list" keys e) :: (a, seqObj "list" #[] e1) :: pins) σ H s) (Fa : z1v X pins H a) (Fk : z1v X ((a, seqObj "list" #[] e1) :: pins) H kS) (hk : IntsAre keys.toList ((List.range n).map key)) (hi : Vals (upTo n) items.toList) (h64 : n < 64)
    (h : ∀ ms s', Inv X pins σ (upd H a (.lst (z0l ms))) s' -> Order key n ms -> P (.done (.ret .none)) s') : wpAny (model X.prog X.w) A (ksk_end a false items e1 (.ref kS) keys) P E s := by
  have hz := z1z hk hi
  have hsz : items.size = n := by
    have h2 := hi.length
    rw [z1l, Array.length_toList] at h2
    exact h2.symm
  have hksz : keys.size = n := by
    have h1 := hk.length
    rw [Array.length_toList, List.length_map, List.length_range] at h1
    exact h1
  unfold ksk_end
  simp only [Bool.false_eq_true, if_false]
  by_cases h2 : items.size < 2
  . rw [if_pos h2, if_pos h2]
    refine wpAny_bind (wpAny_pure ?_)
    rw [StateT.run_pure]
    refine wpAny_bind (wpAny_pure ?_)
    dsimp only
    exact z3b (st := SortSt.mk' general' (keys.zip items) #[] 7 none) I Fa Fk hk hi h64 (Array.Perm.refl _) (fun i j hij hj => by omega) rfl h
  . rw [if_neg h2, if_neg h2, ksk_kind hk (by omega)]
    refine wpAny_bind (wpAny_pure ?_)
    refine wpAny_bind (wpAny_mono (z45 (a₀ := keys.zip items) (st := SortSt.mk' oneType' (keys.zip items) #[] 7 none)
      (Q := fun _ st' => (arrOf st').Perm (keys.zip items) /\ failedOf st' = none /\ StabTo (arrOf st') n) (z76 hk hi) ⟨Array.Perm.refl _, rfl, rfl, rfl⟩ (zAG hk hi) (by omega) (by omega) fun st' a1 a2 a3 => ⟨a1, a2, by rw [hz] at a3; exact a3⟩) ?_ fun _ _ e => e)
    rintro ⟨⟨⟩, st'⟩ s' ⟨rfl, hp, hf, hs⟩
    dsimp only
    exact z3b I Fa Fk hk hi h64 hp hs hf h
theorem z6P (I : Inv X ((kS, seqObj "list" #[] 0) :: (a, seqObj "list" #[] e1) :: pins) σ H s) (Fa : z1v X pins H a) (Fk : z1v X ((a, seqObj "list" #[] e1) :: pins) H kS) (hi : Vals (upTo n) items.toList) (h64 : n < 64)
    (turn : ∀ (i : Nat) (t : Tok) (s' : Shared) (more : List (Addr × Obj)), i < n -> Inv X (more ++ pins) σ H s' -> wpAny (model X.prog X.w) A (call (.ref f) [.int (i : Nat) t]) (EP X (more ++ pins) σ fun v H' => v = .int (key i) /\ H' = H) (fun _ _ => False) s')
    (h : ∀ ms s', Inv X pins σ (upd H a (.lst (z0l ms))) s' -> Order key n ms -> P (.done (.ret .none)) s') : wpAny (model X.prog X.w) A (ksk_rest a (.ref f) false items e1 (.ref kS)) P E s := by
  have hsz : items.toList.length = n := by
    have h2 := hi.length
    rw [z1l] at h2
    exact h2.symm
  unfold ksk_rest
  refine wpAny_bind (wpAny_rule ?_)
  rw [<- Array.forIn_toList]
  refine wpAny_bind (ksk_fold (fun i s' => ∃ kA e, Inv X ((kS, seqObj "list" kA e) :: (a, seqObj "list" #[] e1) :: pins) σ H s' /\ IntsAre kA.toList ((List.range i).map key)) items.toList 0 s ⟨#[], 0, I, .nil⟩ ?step ?done)
  case step =>
    rintro j x s' hx ⟨kA, e, J, hk⟩
    simp only [Nat.zero_add] at hk ⊢
    have hj : j < n := by rw [<- hsz]; exact (List.getElem?_eq_some_iff.mp hx).1
    obtain ⟨y, hy, ry⟩ := z2L hi hx
    unfold upTo at hy
    rw [List.getElem?_map, List.getElem?_range hj] at hy
    cases hy
    obtain ⟨t, rfl⟩ := ry
    have hz : kA.size <= n := by
      have h1 := hk.length
      rw [Array.length_toList, List.length_map, List.length_range] at h1
      omega
    refine wpAny_bind (wpAny_attempt (wpAny_mono (turn j t s' [(kS, seqObj "list" kA e), (a, seqObj "list" #[] e1)] hj J) (fun v s'' he => ?_) fun _ _ hF => hF.elim))
    obtain ⟨v', H', J', rv, hv, hH⟩ := he
    subst hv hH
    obtain ⟨t2, rfl⟩ := rv
    have J' : Inv X ((kS, seqObj "list" kA e) :: (a, seqObj "list" #[] e1) :: pins) σ H' s'' := J'
    dsimp only
    have nk := J'.pin (kS, seqObj "list" kA e) (List.mem_append_right _ List.mem_cons_self)
    have s1 := Heap.SameBut.update s''.heap kS (Obj.mapSeq (·.push (.int (key j) t2)))
    obtain ⟨c2, hc2⟩ : ∃ c2, (s''.heap.update kS (Obj.mapSeq (·.push (.int (key j) t2)))).get? kS = some (seqObj "list" (kA.push (.int (key j) t2)) c2) := ⟨_, get?_update_seq nk.1 (·.push (.int (key j) t2))⟩
    have ek : (List.range (j + 1)).map key = (List.range j).map key ++ [key j] := by rw [List.range_succ, List.map_append]; rfl
    have ea : (kA.push (Value.int (key j) t2)).toList = kA.toList ++ [Value.int (key j) t2] := by simp
    refine wpAny_bind (listUpdate_at nk.1 rfl ?_ (by rw [sizeLine_eq]; omega) (Nat.le_trans (Nat.le_of_eq (Array.size_push ..)) (by rw [sizeLine_eq]; omega)))
    have J1 : Inv X ((a, seqObj "list" #[] e1) :: pins) σ H' s'' := J'.pins_of fun p hp => J'.pin p (List.mem_append_right _ (List.mem_cons_of_mem _ hp))
    have J2 : Inv X ((a, seqObj "list" #[] e1) :: pins) σ H' { s'' with heap := s''.heap.update kS (Obj.mapSeq (·.push (.int (key j) t2))), toks := s''.toks } := J1.turned (fun b o hb q => (s1.2 b hb).trans q) Fk.1 Fk.2.1 Fk.2.2.2.1 Fk.2.2.2.2.1 Fk.2.2.2.2.2
    refine wpAny_pure ⟨rfl, kA.push (.int (key j) t2), c2, J2.pins_of fun p hp => ?_, by rw [ea, ek]; exact ksk_snoc hk⟩
    rcases List.mem_cons.mp hp with rfl | hp
    . exact ⟨hc2, Fk.1, Fk.2.1, Fk.2.2.1, fun v z => nomatch z⟩
    . exact J2.pin p (List.mem_append_right _ hp)
  case done =>
    rintro s' ⟨kA, e, J, hk⟩
    rw [Nat.zero_add, hsz] at hk
    have nk := J.pin (kS, seqObj "list" kA e) (List.mem_append_right _ List.mem_cons_self)
    refine wpAny_bind (listItems_at nk.1 rfl ?_)
    exact z78 J Fa Fk hk hi h64 h
theorem z6Q {n0 : Nat} (I : Inv X pins σ H s) (ho : s.heap.get? a = some (seqObj "list" items n0)) (Fa : z1v X pins H a) (hi : Vals (upTo n) items.toList) (h64 : n < 64)
    (turn : ∀ (i : Nat) (t : Tok) (s' : Shared) (more : List (Addr × Obj)), i < n -> Inv X (more ++ pins) σ H s' -> wpAny (model X.prog X.w) A (call (.ref f) [.int (i : Nat) t]) (EP X (more ++ pins) σ fun v H' => v = .int (key i) /\ H' = H) (fun _ _ => False) s')
    (h : ∀ ms s', Inv X pins σ (upd H a (.lst (z0l ms))) s' -> Order key n ms -> P (.done (.ret .none)) s') : wpAny (model X.prog X.w) A (ksk_tree a (.ref f) false) P E s := by
  have hsz : items.size = n := by
    have h2 := hi.length
    rw [z1l, Array.length_toList] at h2
    exact h2.symm
  have s1 := Heap.SameBut.update s.heap a (Obj.mapSeq fun _ => (#[] : Array Value))
  obtain ⟨e1, ho1⟩ : ∃ e1, (s.heap.update a (Obj.mapSeq fun _ => (#[] : Array Value))).get? a = some (seqObj "list" #[] e1) := ⟨_, get?_update_seq ho fun _ => #[]⟩
  have J1 : Inv X pins σ H { s with heap := s.heap.update a (Obj.mapSeq fun _ => (#[] : Array Value)), toks := s.toks } := I.turned (fun b o hb q => (s1.2 b hb).trans q) Fa.1 Fa.2.1 Fa.2.2.2.1 Fa.2.2.2.2.1 Fa.2.2.2.2.2
  have J2 : Inv X ((a, seqObj "list" #[] e1) :: pins) σ H { s with heap := s.heap.update a (Obj.mapSeq fun _ => (#[] : Array Value)), toks := s.toks } := J1.pins_of fun p hp => by
    rcases List.mem_cons.mp hp with rfl | hp
    . exact ⟨ho1, Fa.1, Fa.2.1, Fa.2.2.1, fun v z => nomatch z⟩
    . exact J1.pin p (List.mem_append_right _ hp)
  unfold ksk_tree
  refine wpAny_bind (listItems_at ho rfl ?_)
  refine wpAny_bind (listUpdate_at ho rfl ?_ (by rw [hsz, sizeLine_eq]; omega) (Nat.zero_le _))
  refine wpAny_bind (seqEpoch_at ho1 rfl ?_)
  refine wpAny_bind (wpAny_newTuple ?_ (by rw [Array.length_toList, hsz, sizeLine_eq]; omega))
  refine wpAny_bind (wpAny_newList ?_ (Nat.zero_le _))
  refine wpAny_holding ?_
  have J3 : Inv X ((a, seqObj "list" #[] e1) :: pins) σ H { s with heap := (s.heap.update a (Obj.mapSeq fun _ => (#[] : Array Value))).push (seqObj "tuple" items.toList.toArray 0), toks := s.toks } := J2.kept (t' := s.toks) fun b o q => Heap.get?_push_of_some _ q
  have Fk := J3.fpOk (H' := H) (b := ((s.heap.update a (Obj.mapSeq fun _ => (#[] : Array Value))).push (seqObj "tuple" items.toList.toArray 0)).objs.size) (Nat.le_refl _) (J3.hok.fresh (Nat.le_refl _))
  have J4 : Inv X ((a, seqObj "list" #[] e1) :: pins) σ H { s with heap := ((s.heap.update a (Obj.mapSeq fun _ => (#[] : Array Value))).push (seqObj "tuple" items.toList.toArray 0)).push (seqObj "list" #[] 0), toks := s.toks } := J3.kept (t' := s.toks) fun b o q => Heap.get?_push_of_some _ q
  refine z6P (kS := ((s.heap.update a (Obj.mapSeq fun _ => (#[] : Array Value))).push (seqObj "tuple" items.toList.toArray 0)).objs.size) (J4.pins_of fun p hp => ?_) Fa Fk hi h64 turn h
  rcases List.mem_cons.mp hp with rfl | hp
  . exact ⟨Heap.get?_push_size _ rfl, Fk.1, Fk.2.1, Fk.2.2.1, fun v z => nomatch z⟩
  . exact J4.pin p (List.mem_append_right _ hp)
end
def z79 (P : Addr) (pos : Pos) (qual : Str) (te tb : TE) : TE := fun σ H Q => te σ H fun x H1 => ∃ (n : Nat) (key : Nat -> Int), x = .int (n : Nat) /\ n < 64 /\ TabOk P pos qual H1 /\
  (∀ i, i < n -> ∀ H2, SameP P H1 H2 -> tb (some (.int (i : Nat)) :: σ) H2 fun v H' => v = .int (key i) /\ H' = H2) /\
  ∀ H2 l ms, TabOk P pos qual H2 -> SameP P H1 H2 -> H1 l = none -> Order key n ms -> H2 l = some (.lst (z0l ms)) -> Q (.ref l) H2
section
variable {X : Cx}
theorem z4t {k : Nat} {c P : Addr} {e : Expr} {te tb : TE} {params : Arguments} {body : Expr} {scope : Scope} {pos kp p1 p2 p3 p4 : Pos} {qual x : Str} {cl : List (Str × Addr)} (hr : Room k X.A) (B : BaseT X.mg X.base c P) (hcode : X.env.code = .ref c)
    (hq : X.env.qual ++ "<lambda>" = qual) (hdef : defaultsOf params X.env = ([], [])) (hcl : closureFor scope X.env = pure cl) (S : LamScope X [x] scope cl)
    (hb : ∀ (pm cd ctv u : Value), bindArgs (PySem.W.kla_fn "<lambda>" qual params body scope cl pm cd ctv) ⟨[u], []⟩ = pure [(x, u)])
    (hgs : Gl X "sorted") (hms : X.mg "sorted" = none) (hgr : Gl X "range") (hmr : X.mg "range" = none) (ha : PE X e te)
    (pb : ∀ (f c' : Addr) (A : Around) (s : Shared) (H : Hp), PE (z4s X [x] qual scope f (.ref c') cl A s H) body tb)
    (hs1 : starEach [Expr.Call (.Name "range" p2) [e] [] p3] X.env = [(false, eval (.Call (.Name "range" p2) [e] [] p3) X.env)] := by rfl) (hs2 : starEach [e] X.env = [(false, eval e X.env)] := by rfl) :
    PE X (.Call (.Name "sorted" p1) [.Call (.Name "range" p2) [e] [] p3] [⟨some "key", .Lambda params body scope pos, kp⟩] p4) (z79 P pos qual te tb) := by
  intro pins s σ H Q I h
  refine wpAny_Call_Name_kw (z1X I hgs hms PyProof.Rows.boot_sorted ?_)
  refine PyProof.Rows.callWith_kw ?_ (by rw [hs1]; rfl) (by rw [hs1]; rfl)
  rw [hs1]
  refine Calls.spliced_cons ?_
  refine wpAny_Call_Name_kw (z1X I hgr hmr boot_range ?_)
  refine PyProof.Rows.callWith_type1 ?_ hs2 rfl
  rw [hs2]
  refine Calls.spliced_cons (thn (ha pins s σ H _ I h) fun u s1 ⟨y, H1, I1, r1, q1⟩ => Calls.spliced_nil ?_)
  obtain ⟨n, key, rfl, hn, T, hkey, q⟩ := q1
  obtain ⟨t, rfl⟩ := r1
  refine call_range_1 (Calls.spliced_nil ?_)
  have I2 : Inv X pins σ H1 { s1 with heap := s1.heap.push { cls := .type "range", data := .fields #[.int 0 s1.toks, .int (n : Nat) t, .int 1 (s1.toks + 1)] }, toks := s1.toks + 1 + 1 } := I1.kept fun b o z => Heap.get?_push_of_some _ z
  have F1 := I1.fpOk (H' := H1) (b := s1.heap.objs.size) (Nat.le_refl _) (I1.hok.fresh (Nat.le_refl _))
  have I3 := I2.pins_of (pins' := (s1.heap.objs.size, { cls := .type "range", data := .fields #[.int 0 s1.toks, .int (n : Nat) t, .int 1 (s1.toks + 1)] }) :: pins) fun p hp => by
    rcases List.mem_cons.mp hp with rfl | hp
    . exact ⟨Heap.get?_push_size _ rfl, F1.1, F1.2.1, F1.2.2.1, fun v z => nomatch z⟩
    . exact I2.pin p (List.mem_append_right _ hp)
  refine PyProof.Rows.kws_cons (z75 I3 B hcode hq hdef hcl T fun f c' pm ctv H2 s2 T2 e2 fr2 J hcd hc' => PyProof.Rows.kws_nil ?_)
  show wpAny _ _ (call (.builtin "sorted") [.ref s1.heap.objs.size] [(Str.ofString "key", .ref f)]) _ _ s2
  have hh : X.A.handled = none := hr.hd
  have nr := J.pin _ (List.mem_append_right _ (List.mem_cons_of_mem _ List.mem_cons_self))
  refine call_function_entry_kw PyProof.Rows.kind_sorted PyProof.Rows.plain_sorted PyProof.Rows.entry_sorted (ksk_s1 _ _) ?_
  unfold Builtin.«sorted»
  refine wpAny_bind (m := checkCount "sorted" 1 1 _) (wpAny_pure ?_)
  refine wpAny_bind (z46 (n := n) hh (show IsRange s2.heap s1.heap.objs.size 0 (n : Nat) 1 s1.toks t (s1.toks + 1) from nr.1) (small_one (by omega) (by omega) (by omega) (by omega)) (z72 n) (by omega) fun h' tk acc hk hacc => ?_)
  have hv := z6M hacc
  have hal := hv.length
  rw [z1l, Array.length_toList] at hal
  refine wpAny_bind (wpAny_newList ?_ (by rw [Array.length_toList, <- hal, sizeLine_eq]; omega))
  have J2 := J.kept (h' := h') (t' := tk) hk
  have Fa := J2.fpOk (H' := H2) (b := h'.objs.size) (Nat.le_refl _) (J2.hok.fresh (Nat.le_refl _))
  have J3 := J2.kept (h' := h'.push (seqObj "list" acc.toList.toArray 0)) (t' := tk) fun b o z => Heap.get?_push_of_some _ z
  have ho : (h'.push (seqObj "list" acc.toList.toArray 0)).get? h'.objs.size = some (seqObj "list" acc.toList.toArray 0) := Heap.get?_push_size _ rfl
  have hcd3 : CodeAt c' qual s2.heap := CodeAt.of hcd
  refine wpAny_bind (wpAny_holding (wpAny_call_entry_kw PyProof.Rows.slot_list_sort ⟨_, ho, rfl⟩ PyProof.Rows.entry_list_sort ?body (ksk_l1 _ _)))
  rw [ksk_t1]
  refine z6Q (n := n) (key := key) J3 ho Fa (by simpa using hv) hn (fun i t s' more hi J' => ?_) fun ms s' J' hO => ⟨_, rfl, wpAny_pure ⟨_, rfl, ?_⟩⟩
  . obtain ⟨hca, _⟩ := J'.hok c' _ hc'
    have rm := hr.dp
    refine z73 (ps := [x]) (vs := [.int (i : Nat)]) (tb := tb) J' J'.ok.frames hh (show X.A.depth < recursionLimit by omega) S (List.mem_append_right _ List.mem_cons_self) hca.rec' (hb _ _ _ _) rfl (.cons ⟨t, rfl⟩ .nil) (pb f c' _ s' H2) ?_
    exact hkey i hi H2 e2
  . have J4 : Inv X pins σ (upd H2 h'.objs.size (.lst (z0l ms))) s' := J'.pins_of fun p hp => J'.pin p (List.mem_append_right _ (List.mem_cons_of_mem _ (List.mem_cons_of_mem _ hp)))
    have ne2 : ∀ {b : Addr} {o : HO}, H2 b = some o -> b ≠ h'.objs.size := fun z => z08 z Fa.1
    refine ⟨.ref h'.objs.size, _, J4, rfl, q _ _ ms (T2.keep fun b o z => by rw [z06 (ne2 z)]; exact z) (fun b o nb z => ?_) ?_ hO upd_same⟩
    . have z2 := e2 b o nb z
      rw [z06 (ne2 z2)]
      exact z2
    . cases z : H1 h'.objs.size with
      | none => rfl
      | some o =>
        have nP : h'.objs.size ≠ P := fun y => by
          obtain ⟨tp, etp⟩ := T2.is
          rw [<- y] at etp
          rw [Fa.1] at etp
          cases etp
        have z2 := e2 _ o nP z
        rw [Fa.1] at z2
        cases z2
end
section
variable {X : Cx} {ps : List Str} {qual : Str} {scope : Scope} {f : Addr} {cd : Value} {cl : List (Str × Addr)} {A : Around} {s : Shared} {H : Hp}
theorem z7A : IxR (z4s X ps qual scope f cd cl A s H) (z9I X.K) := z0P
theorem z88 : IxR (z4s X ps qual scope f cd cl A s H) (z9J X.K) := z0J
theorem LamScope.one {x y : Str} {c : Addr} (hk : scope.kind = .function) (hco : scope.isCoroutine = false) (hge : scope.isGenerator = false) (hn : scope.names = [(x, .local), (y, .free)]) (hxy : x ≠ y) (hc : X.env.cells.lookup y = some c) (hy : X.env.kindOf y = some .cell) (hN : X.N = [y]) :
    LamScope X [x] scope [(y, c)] where
  kind := hk
  co := hco
  gen := hge
  nd := by simp
  par := fun z hz => by
    rw [List.mem_singleton.mp hz, hn]
    simp [List.lookup_cons]
  nocell := fun z hz => by
    rw [hn] at hz
    rcases List.mem_cons.mp hz with rfl | hz
    . nofun
    . rw [List.mem_singleton.mp hz]; nofun
  free := fun z hz => by
    rw [hn, List.lookup_cons, List.lookup_cons] at hz
    cases h1 : z == x with
    | true => rw [h1] at hz; cases hz
    | false =>
      rw [h1] at hz
      cases h2 : z == y with
      | true => exact ⟨c, by rw [List.lookup_cons, h2]⟩
      | false => rw [h2] at hz; cases hz
  sub := fun z d hz => by
    rw [List.lookup_cons] at hz
    cases h2 : z == y with
    | true =>
      rw [h2] at hz
      cases hz
      rw [beq_iff_eq.mp h2]
      exact ⟨hc, .inl hy⟩
    | false => rw [h2] at hz; cases hz
  dis := fun z hz => by
    rw [hN] at hz
    rw [List.mem_singleton.mp hz, hn, List.lookup_cons, List.lookup_cons, beq_eq_false_iff_ne.mpr (Ne.symm hxy), beq_self_eq_true]
    nofun
end
section
variable {P : Program} {w : World} {K : PySem.W.Frag} {mg : Str -> Option Value} {base : Heap}
theorem Fun.okc {x qual : Str} {st : Stmt} {f c : Addr} {fd : FuncData} {N ps : List Str} {k : Nat} {sp : Sp} (F : Fun K x qual st f fd) (hc : fd.code = .ref c) (S : FnScope N ps (z02 st)) (len : ∀ vs H Q E, sp vs H Q E -> vs.length = ps.length)
    (hbody : ∀ (A : Around) (outer : List Env) (s : Shared) (H : Hp) (vs : List V) (Q : VK) (E : XK), Room k (A.deeper (envOfC qual (z02 st) s.heap.objs.size f (.ref c))) -> sp vs H Q E ->
      ∃ t, PSs (z7J CX0 P w K mg base N qual (z02 st) f (.ref c) A outer s H E).nox (z0B st) t /\ t { nx := fun _ H' => Q .non H', rt := Q } (start N vs) H) : FnOk P w K mg base CX0 (k + 1) f fd ps sp := by
  obtain ⟨oc, od, kV, doc, pm, an, cdv, ct, osl, rfl, lk, hcd⟩ := F.ex
  obtain rfl : cdv = .ref c := hc
  refine z7h lk hcd S len fun A outer s H vs Q E hr hsp => ?_
  obtain ⟨t, h, q⟩ := hbody A outer s H vs Q E hr hsp
  exact ⟨t, h.nox, q⟩
end
theorem z6R {P : Program} {w : World} {K : PySem.W.Frag} {mg mb : Str -> Option Value} {k : Nat} {fa a c tp : Addr} {fd : FuncData} {x : Str} {sp : Sp} {s₁ : Shared} {vs : List Value} {ns : List Int}
    (KX : K.In s₁.heap) (hns : s₁.heap.Ns mainGlobals mg) (hb : s₁.heap.Ns builtinsNs mb) (hbb : ∀ x : Str, x ≠ "__name__" -> mb x = bootBuiltins x) (hlim : s₁.heap.NoLimit) (hg : s₁.gens = #[])
    (ha : s₁.heap.get? a = some { cls := .type "list", data := .seq vs.toArray }) (hi : IntsAre vs ns) (hl : ns.length <= sizeLine) (hr : Room k callerA)
    (hC : PySem.W.CodeHd s₁.heap c tp) (hP : s₁.heap.get? tp = some (PySem.W.tabObj #[])) (hKP : K.lookup tp = none) (hB : s₁.heap.BuiltinsAt mg tp)
    (F : ∀ base : Heap, K.In base -> base.Ns mainGlobals mg -> BaseT mg base c tp -> FnOk P w K mg base CX0 k fa fd [x] sp) (hbind : ∀ (s : Shared) (u : Value), BindsTo s fd ⟨[u], []⟩ [(x, u)])
    (hsp : ∀ H : Hp, H tp = some (.tbl #[]) -> SqL K H a (ns.map V.int) -> sp [.ref a] H (fun v _ => v = .bl true) fun _ _ _ => False) :
    codeAny (model P w) callerA (.call (.ref fa) ⟨[.ref a], []⟩) (fun r s' => r = .ok (.ret (.bool true)) /\ OldK s₁.heap s'.heap /\ s'.os = s₁.os /\ AllBare s'.gens) s₁ := by
  have rv := z25 hi
  have lenV := hi.length
  have hat : a ≠ tp := fun z => by
    rw [z, hP] at ha
    cases ha
  have core : ∀ H : Hp, H tp = some (.tbl #[]) -> (∀ b, b ≠ tp -> b ≠ a -> H b = none) -> (H a = none \/ ∃ o xs, H a = some (.frz o (.lst xs))) -> SqL K H a (ns.map V.int) -> HOk P w H s₁.heap -> (H a ≠ none -> K.lookup a = none) ->
      codeAny (model P w) callerA (.call (.ref fa) ⟨[.ref a], []⟩) (fun r s' => r = .ok (.ret (.bool true)) /\ OldK s₁.heap s'.heap /\ s'.os = s₁.os /\ AllBare s'.gens) s₁ := by
    intro H hT hO hOa hS hok hK
    have base_of : ∀ {b : Addr} {o : Obj}, s₁.heap.get? b = some o -> H b = none -> (z3n s₁.heap H).get? b = some o := fun e n => z4I e n
    have noC : ∀ {b : Addr} {o : Obj}, s₁.heap.get? b = some o -> o.cls ≠ .none -> o.cls ≠ .type "list" -> H b = none := fun {b o} e n1 n2 => by
      by_cases z : b = tp
      . rw [z, hP] at e
        cases e
        exact absurd rfl n1
      . by_cases z2 : b = a
        . rw [z2, ha] at e
          cases e
          exact absurd rfl n2
        . exact hO b z z2
    have noA : ∀ {b : Addr} {o : Obj} {es : Array DictEntry} {ep : Nat}, s₁.heap.get? b = some o -> o.data = .dict es ep -> H b = none := fun {b o es ep} e d => by
      by_cases z : b = tp
      . rw [z, hP] at e
        cases e
        cases d
      . by_cases z2 : b = a
        . rw [z2, ha] at e
          cases e
          cases d
        . exact hO b z z2
    have nsK : ∀ {b : Addr} {m : Str -> Option Value}, s₁.heap.Ns b m -> (z3n s₁.heap H).Ns b m := fun {b m} ⟨o, es, ep, e, d, r⟩ => ⟨o, es, ep, base_of e (noA e d), d, r⟩
    have hKb : K.In (z3n s₁.heap H) := fun b o e => base_of (KX b o e) (by
      by_cases z : b = tp
      . rw [z, hKP] at e
        cases e
      . by_cases z2 : b = a
        . cases q : H b with
          | none => rfl
          | some u =>
            rw [z2] at e q
            rw [hK (by rw [q]; simp)] at e
            cases e
        . exact hO b z z2)
    have hBT : BaseT mg (z3n s₁.heap H) c tp := by
      refine ⟨?_, ?_⟩
      . obtain ⟨o, v, file, tf, flags, tg, inF, text, tt, e1, e2, r⟩ := hC
        exact ⟨o, v, file, tf, flags, tg, inF, text, tt, base_of e1 (noC e1 (by rw [e2]; nofun) (by rw [e2]; decide)), e2, r⟩
      . obtain ⟨bm, ob, b1, b2, b3, b4, b5, b6, b7⟩ := hB
        exact ⟨bm, ob, b1, b2, b3, b4, base_of b5 (noC b5 (by rw [b6]; nofun) (by rw [b6]; decide)), b6, b7⟩
    have hM : Mod K mg (z3n s₁.heap H) := ⟨hKb, nsK hns, ⟨mb, nsK hb, hbb⟩, let ⟨mc, h1, h2⟩ := hlim; ⟨mc, nsK h1, h2⟩⟩
    have e0 : Env0 P w K mg (z3n s₁.heap H) callerA [] s₁ H := ⟨rfl, hM, fun b o e => z5E e, Nat.le_of_eq (z38 _ _), trivial, fun b hb => absurd (show b ∈ ([] : List Addr) from hb) (by simp), hok, .of_eq hg⟩
    refine codeAny_mono ((F _ hKb (nsK hns) hBT).run callerA [] s₁ H ⟨[.ref a], []⟩ [.ref a] [.ref a] _ _ hr e0 (hbind s₁ (.ref a)) (.cons rfl .nil) (hsp H hT hS)) fun r s' h => ?_
    cases r with
    | error e => exact (show False from h).elim
    | ok fl =>
      cases fl with
      | next => exact False.elim h
      | brk => exact False.elim h
      | cont => exact False.elim h
      | ret u =>
        obtain ⟨v, H', os, bare, un, hok', r', q⟩ := h
        have q' : v = .bl true := q
        subst q'
        obtain rfl : u = Value.bool true := r'
        obtain ⟨more, hT'⟩ := un.tbls tp _ hT
        have oT : s'.heap.get? tp = some (PySem.W.tabObj (#[] ++ more)) := hok' tp _ hT'
        have keep : ∀ b o, b ≠ tp -> s₁.heap.get? b = some o -> s'.heap.get? b = some o := fun b o n e => by
          cases q : H b with
          | none => exact un.keep b o e q (by intro z; exact absurd (show b ∈ ([] : List Addr) from z) (by simp)) (by simp)
          | some u =>
            have e' : b = a := Decidable.byContradiction fun z => by rw [hO b n z] at q; cases q
            subst e'
            rcases hOa with z | ⟨ob, xs, z⟩
            . rw [q] at z; cases z
            . have z2 := un.frzs b ob _ z
              obtain ⟨e1, _⟩ := hok b _ z
              obtain ⟨e2, _⟩ := hok' b _ z2
              rw [e] at e1; cases e1
              exact e2
        refine ⟨rfl, ⟨fun b o e => ?_, fun b o e => ?_⟩, os, bare⟩
        . by_cases z : b = tp
          . subst z
            rw [hP] at e
            cases e
            exact .inr (.inl ⟨(hC.tab hP).isCodeTable, rfl, #[], more, rfl, oT⟩)
          . exact .inl (keep b o z e)
        . by_cases z : b = tp
          . subst z
            exact ⟨_, oT⟩
          . exact ⟨o, keep b o z e⟩
  have okT : ∀ H : Hp, ObjOk P w H s₁.heap tp (.tbl #[]) := fun H => hP
  cases hk : K.lookup a with
  | some o =>
    have e := KX a o hk
    rw [ha] at e
    cases e
    refine core (fun b => if b = tp then some (.tbl #[]) else none) (if_pos rfl) (fun b n _ => if_neg n) (.inl (if_neg hat)) (.inr ⟨_, vs.toArray, _, hk, rfl, rfl, rfl, by rw [List.size_toArray, lenV]; exact hl, by simpa using rv⟩) (fun b u z => ?_) fun z => absurd (if_neg hat) z
    by_cases hb : b = tp
    . subst hb
      have z' := (if_pos rfl).symm.trans z
      cases z'
      exact okT _
    . have z' := (if_neg hb).symm.trans z
      cases z'
  | none =>
    refine core (fun b => if b = tp then some (.tbl #[]) else if b = a then some (.frz { cls := .type "list", data := .seq vs.toArray } (.lst (ns.map V.int))) else none) (if_pos rfl) (fun b n n2 => (if_neg n).trans (if_neg n2)) (.inr ⟨_, _, (if_neg hat).trans (if_pos rfl)⟩)
      (.inl (.inr ⟨{ cls := .type "list", data := .seq vs.toArray }, (if_neg hat).trans (if_pos rfl)⟩)) (fun b u z => ?_) fun _ => hk
    by_cases hb : b = tp
    . subst hb
      have z' := (if_pos rfl).symm.trans z
      cases z'
      exact okT _
    . by_cases hba : b = a
      . have z' := ((if_neg hb).trans (if_pos hba)).symm.trans z
        cases z'
        subst hba
        exact ⟨ha, by rw [List.length_map]; exact hl, vs, _, rv, ha⟩
      . have z' := ((if_neg hb).trans (if_neg hba)).symm.trans z
        cases z'
def z34 : Str := (("order_of" : Str) ++ ".<locals>.") ++ "<lambda>"
theorem z97 {K : PySem.W.Frag} {x : Str} {f c tp : Addr} {oc ov : Value} {od oe : Option Addr} {fd : FuncData} {sl sm : Array (Option Value)} {vs : Array Value} (h1 : PySem.W.nsIn K mainGlobals x = some (some (.ref f))) (h2 : K.lookup f = some ⟨oc, od, .func fd, sl⟩) (h3 : fd.code = .ref c)
    (h4 : K.lookup c = some ⟨ov, oe, .fields vs, sm⟩) (h5 : vs[11]? = some (.ref tp)) : PySem.W.tabIn K x = some (c, tp) := by
  unfold PySem.W.tabIn
  rw [h1]
  simp only [h2, h3, h4, h5]
def z4b (K : PySem.W.Frag) (t : Addr) (pos : Pos) : Sp := fun vs H Q _ => ∃ (a : Addr) (ns : List Int), vs = [.ref a] /\ SqL K H a (ns.map V.int) /\ ns.length <= 63 /\ TabOk t pos z34 H /\ ∀ H', Q (.bl true) H'
theorem walk_ofT {l : PySem.W.OpenLaw} {n k : Nat} {q : Program} {loose : List Str} {XP : (Str -> Option Value) -> Heap -> Prop} {YP : World -> Heap -> Prop} {d dd : DefRec} {K : Params -> PySem.W.Frag} {sp : World -> Addr -> Sp} {x fn : Str}
    (hn : l.most = some n) (hn2 : n <= sizeLine) (hdf : d.params.defaults = []) (hr : Room k callerA)
    (hY : ∀ (w : World) (h : Heap), YP w h -> (K w.params).In h) (hrec : (recsOf q).find? (fun e => e.name == fn) = some dd)
    (F : ∀ (w : World) (mg : Str -> Option Value) (fa : Addr) (h : Heap), (K w.params).In h -> h.Ns mainGlobals mg -> mg d.name = some (.ref fa) ->
      ∃ (fd : FuncData) (c tp : Addr), PySem.W.tabIn (K w.params) fn = some (c, tp) /\ PySem.W.noTabs (K w.params) = true /\ (∀ (s : Shared) (u : Value), BindsTo s fd ⟨[u], []⟩ [(x, u)]) /\
        ∀ base : Heap, (K w.params).In base -> base.Ns mainGlobals mg -> BaseT mg base c tp -> FnOk l.prog w (K w.params) mg base CX0 k fa fd [x] (sp w tp))
    (hsp : ∀ (w : World) (tp : Addr) (H : Hp) (a : Addr) (ns : List Int), ns.length <= n -> H tp = some (.tbl #[]) -> SqL (K w.params) H a (ns.map V.int) -> sp w tp [.ref a] H (fun v _ => v = .bl true) fun _ _ _ => False) :
    PySem.W.WalkO q loose XP YP l.row.toRowW d [] (fun f vs => PySem.call f vs) := by
  refine Att.attach_call hn hdf fun w s₀ s₁ mg mb fa o pm cd doc a vs ns G Y ho hd hcd hmg hobj hints hlen hg => ?_
  have KX := hY w _ Y
  obtain ⟨fd, c, tp, ht, hKP, hb, hF⟩ := F w mg fa _ KX G.T.g hmg
  obtain ⟨hC, hP⟩ := PySem.W.tab_of G.T KX hrec ht
  have hKP' : (K w.params).lookup tp = none := by
    cases q : (K w.params).lookup tp with
    | none => rfl
    | some o =>
      have e := KX _ _ q
      rw [hP] at e
      cases e
      exact absurd (List.all_eq_true.mp hKP _ (PySem.W.mem_of_lookupK q)) Bool.false_ne_true
  obtain ⟨bm, ob, b1, b2, b3, b4, b5, b6⟩ := G.T.bmain
  have hbG : bm ≠ mainGlobals := fun z => by
    obtain ⟨o, es, ep, e, hd, _⟩ := G.T.g
    rw [z, e] at b3; cases b3; rw [hd] at b6; cases b6
  have hbP : bm ≠ tp := fun z => by
    rw [z, hP] at b3; cases b3; cases b4
  exact z6R KX G.T.g G.T.b G.T.builtins G.T.nolimit hg hobj hints (Nat.le_trans hlen hn2) hr hC hP hKP' ⟨bm, ob, b1, b2, hbG, hbP, b3, b4, b5, b6⟩ hF hb fun H hT hS => hsp w tp H a ns hlen hT hS
end L2
namespace L2
open PySem PySem.Spec PyProof.Rows G
structure Lay where
  rank : Int
  w : Nat
  h : Nat
  rows : List (List (Option Int))
  x : Int
  y : Int
def LayAt (H : Hp) (t : Addr) (L : Lay) : Prop := ∃ l ps, H t = some (.tup [.int L.rank, .ref l, .int L.x, .int L.y]) /\ RowsAt H l ps L.rows /\ Rect L.w L.h L.rows
def PilAt (H : Hp) (t : Addr) (L : Lay) : Prop := ∃ p, H t = some (.tup [.int L.rank, .ref p, .int L.x, .int L.y]) /\ PicAt H p L.w L.rows /\ Rect L.w L.h L.rows
theorem LayAt.mono {H H' : Hp} {t : Addr} {L : Lay} (s : Same H H') (h : LayAt H t L) : LayAt H' t L := let ⟨l, ps, a, b, c⟩ := h; ⟨l, ps, s _ _ a, b.mono s, c⟩
theorem PilAt.mono {H H' : Hp} {t : Addr} {L : Lay} (s : Same H H') (h : PilAt H t L) : PilAt H' t L := let ⟨p, a, b, c⟩ := h; ⟨p, s _ _ a, b.mono s, c⟩
structure ListAt (R : Hp -> Addr -> Lay -> Prop) (H : Hp) (l : Addr) (ts : List Addr) (Ls : List Lay) : Prop where
  lst : H l = some (.lst (ts.map V.ref))
  len : ts.length = Ls.length
  at' : ∀ (i : Nat) t L, ts[i]? = some t -> Ls[i]? = some L -> R H t L
abbrev LaysAt := ListAt LayAt
abbrev PilsAt := ListAt PilAt
theorem LaysAt.mono {H H' : Hp} {l : Addr} {ts : List Addr} {Ls : List Lay} (s : Same H H') (h : LaysAt H l ts Ls) : LaysAt H' l ts Ls := ⟨s _ _ h.lst, h.len, fun i t L a b => (h.at' i t L a b).mono s⟩
theorem PilsAt.mono {H H' : Hp} {l : Addr} {ts : List Addr} {Ls : List Lay} (s : Same H H') (h : PilsAt H l ts Ls) : PilsAt H' l ts Ls := ⟨s _ _ h.lst, h.len, fun i t L a b => (h.at' i t L a b).mono s⟩
theorem ListAt.get {R : Hp -> Addr -> Lay -> Prop} {H : Hp} {l : Addr} {ts : List Addr} {Ls : List Lay} (h : ListAt R H l ts Ls) {i : Nat} (hi : i < Ls.length) : ∃ t, ts[i]? = some t /\ R H t (Ls[i]'hi) /\ atI (ts.map V.ref) ((i : Nat) : Int) = some (.ref t) := by
  have h1 : i < ts.length := by rw [h.len]; exact hi
  have e := List.getElem?_eq_getElem h1
  exact ⟨_, e, h.at' i _ _ e (List.getElem?_eq_getElem hi), z0y (by rw [List.getElem?_map, e]; rfl)⟩
section
variable {P : Addr} {pos : Pos} {qual : Str} {H H' : Hp}
theorem SameP.tup (e : SameP P H H') (t : TabOk P pos qual H) {b : Addr} {xs : List V} (h : H b = some (.tup xs)) : H' b = some (.tup xs) := e _ _ (t.ne h fun _ z => nomatch z) h
theorem SameP.lst (e : SameP P H H') (t : TabOk P pos qual H) {b : Addr} {xs : List V} (h : H b = some (.lst xs)) : H' b = some (.lst xs) := e _ _ (t.ne h fun _ z => nomatch z) h
theorem SameP.seq {K : PySem.W.Frag} (e : SameP P H H') (t : TabOk P pos qual H) {a : Addr} {xs : List V} (h : SqL K H a xs) : SqL K H' a xs := by
  rcases h with (h | ⟨o, h⟩) | h
  . exact .inl (.inl (e.lst t h))
  . exact .inl (.inr ⟨o, e _ _ (t.ne h fun _ z => nomatch z) h⟩)
  . exact .inr h
theorem SameP.pic (e : SameP P H H') (t : TabOk P pos qual H) {p : Addr} {w : Nat} {rows : List (List (Option Int))} (h : PicAt H p w rows) : PicAt H' p w rows := let ⟨pp, pm, a, b, c⟩ := h; ⟨pp, pm, e.tup t a, e.tup t b, e.tup t c⟩
theorem SameP.rows (e : SameP P H H') (t : TabOk P pos qual H) {l : Addr} {ps : List Addr} {rows : List (List (Option Int))} (h : RowsAt H l ps rows) : RowsAt H' l ps rows := ⟨e.lst t h.lst, h.len, fun i p r a b => e.lst t (h.row i p r a b)⟩
theorem SameP.pil (e : SameP P H H') (t : TabOk P pos qual H) {a : Addr} {L : Lay} (h : PilAt H a L) : PilAt H' a L := let ⟨p, a, b, c⟩ := h; ⟨p, e.tup t a, e.pic t b, c⟩
theorem SameP.lay (e : SameP P H H') (t : TabOk P pos qual H) {a : Addr} {L : Lay} (h : LayAt H a L) : LayAt H' a L := let ⟨l, ps, a, b, c⟩ := h; ⟨l, ps, e.tup t a, e.rows t b, c⟩
theorem SameP.pils (e : SameP P H H') (t : TabOk P pos qual H) {l : Addr} {ts : List Addr} {Ls : List Lay} (h : PilsAt H l ts Ls) : PilsAt H' l ts Ls := ⟨e.lst t h.lst, h.len, fun i a L x y => e.pil t (h.at' i a L x y)⟩
theorem SameP.lays (e : SameP P H H') (t : TabOk P pos qual H) {l : Addr} {ts : List Addr} {Ls : List Lay} (h : LaysAt H l ts Ls) : LaysAt H' l ts Ls := ⟨e.lst t h.lst, h.len, fun i a L x y => e.lay t (h.at' i a L x y)⟩
end
theorem TabOk.put {P : Addr} {pos : Pos} {qual : Str} {H : Hp} {m : Addr} {xs : List V} {o : HO} (t : TabOk P pos qual H) (h : H m = some (.lst xs)) : TabOk P pos qual (upd H m o) := by
  have n1 : P ≠ m := Ne.symm (t.ne h fun _ z => nomatch z)
  rcases t with t | ⟨c, t1, t2⟩
  . exact .inl (by rw [z06 n1]; exact t)
  . have n2 : c ≠ m := z4f t2 h fun z => nomatch z
    exact .inr ⟨c, by rw [z06 n1]; exact t1, by rw [z06 n2]; exact t2⟩
def z0a (Ls : List Lay) (i : Nat) : Int := ((Ls[i]?).map Lay.rank).getD 0
theorem z35 {Ls : List Lay} {i : Nat} (h : i < Ls.length) : z0a Ls i = (Ls[i]).rank := by
  unfold z0a
  rw [List.getElem?_eq_getElem h]
  rfl
def zAH (K : PySem.W.Frag) : Sp := fun vs H Q _ => ∃ (a : Addr) (ns : List Int) (k : Int), vs = [.ref a, .int k] /\ SqL K H a (ns.map V.int) /\ 0 <= k /\ k < 9000 /\ ∀ t L H', Same H H' -> LayAt H' t L -> Q (.ref t) H'
def z9W (K : PySem.W.Frag) : Sp := fun vs H Q _ => ∃ (a : Addr) (ns : List Int) (k : Int), vs = [.ref a, .int k] /\ SqL K H a (ns.map V.int) /\ 0 <= k /\ k < 1000 /\ ∀ l ts Ls H', Same H H' -> H l = none -> Ls.length <= 40 -> LaysAt H' l ts Ls -> Q (.ref l) H'
def zAv : Sp := fun vs H Q _ => ∃ l ts Ls, vs = [.ref l] /\ LaysAt H l ts Ls /\ Ls.length <= 40 /\ ∀ l' ts' H', Same H H' -> H l' = none -> PilsAt H' l' ts' Ls -> Q (.ref l') H'
def z6S (t : Addr) (pos : Pos) : Sp := fun vs H Q _ => ∃ l ts Ls, vs = [.ref l] /\ PilsAt H l ts Ls /\ Ls.length < 64 /\ TabOk t pos z34 H /\
  ∀ m ms H', TabOk t pos z34 H' -> SameP t H H' -> H m = none -> Order (z0a Ls) Ls.length ms -> H' m = some (.lst (z0l ms)) -> Q (.ref m) H'
theorem Order.len {key : Nat -> Int} {n : Nat} {ms : List Nat} (h : Order key n ms) : ms.length = n := by rw [h.1.length_eq, List.length_range]
theorem Order.lt {key : Nat -> Int} {n : Nat} {ms : List Nat} (h : Order key n ms) {i : Nat} (hi : i < ms.length) : ms[i] < n := List.mem_range.mp (h.1.mem_iff.mp (List.getElem_mem hi))
theorem Order.two {key : Nat -> Int} {n : Nat} {ms : List Nat} (h : Order key n ms) {i j : Nat} (hij : i < j) (hj : j < ms.length) : key (ms[i]'(by omega)) < key (ms[j]) \/ (key (ms[i]'(by omega)) = key (ms[j]) /\ ms[i]'(by omega) < ms[j]) :=
  List.pairwise_iff_getElem.mp h.2 i j (by omega) hj hij
end L2
namespace L2
open PySem PySem.Spec PyProof.Rows G
def z1L (L : Lay) (x y : Int) : Option Int := look L.w L.h L.rows (x - L.x) (y - L.y)
def z1e (Ls : List Lay) (x y : Int) (i : Nat) : Bool := ((Ls[i]?).map fun L => (z1L L x y).isSome).getD false
theorem z36 {Ls : List Lay} {x y : Int} {i : Nat} (h : i < Ls.length) : z1e Ls x y i = (z1L Ls[i] x y).isSome := by
  unfold z1e
  rw [List.getElem?_eq_getElem h]
  rfl
def Best (p : Nat -> Bool) (key : Nat -> Int) (n : Nat) : Option Nat -> Prop
  | none => ∀ i, i < n -> p i = false
  | some i => i < n /\ p i = true /\ ∀ j, j < n -> p j = true -> key j < key i \/ (key j = key i /\ j <= i)
def zAI : Option Nat -> V
  | none => .non
  | some i => .int (i : Nat)
section
variable {p : Nat -> Bool} {key : Nat -> Int} {n : Nat} {ms : List Nat}
theorem Best.uniq {r s : Option Nat} (a : Best p key n r) (b : Best p key n s) : r = s := by
  cases r with
  | none =>
    cases s with
    | none => rfl
    | some j => exact absurd ((a j b.1).symm.trans b.2.1) Bool.false_ne_true
  | some i =>
    cases s with
    | none => exact absurd ((b i a.1).symm.trans a.2.1) Bool.false_ne_true
    | some j =>
      have h1 := a.2.2 j b.1 b.2.1
      have h2 := b.2.2 i a.1 a.2.1
      have : i = j := by omega
      rw [this]
theorem z6T (hO : Order key n ms) {k : Nat} (hk : k < ms.length) (hp : p ms[k] = true) (hl : ∀ j, k < j -> (hj : j < ms.length) -> p ms[j] = false) : Best p key n (some ms[k]) := by
  refine ⟨hO.lt hk, hp, fun j hj pj => ?_⟩
  obtain ⟨i, hi, e⟩ := List.mem_iff_getElem.mp (hO.1.mem_iff.mpr (List.mem_range.mpr hj))
  by_cases c : k < i
  . rw [<- e, hl i c hi] at pj
    exact absurd pj Bool.false_ne_true
  . by_cases c2 : i = k
    . subst c2
      rw [<- e]
      exact .inr ⟨rfl, Nat.le_refl _⟩
    . have := hO.two (i := i) (j := k) (by omega) hk
      rw [e] at this
      rcases this with z | z
      . exact .inl z
      . exact .inr ⟨z.1, by omega⟩
theorem z89 (hO : Order key n ms) (h : ∀ j, (hj : j < ms.length) -> p ms[j] = false) : Best p key n none := fun i hi => by
  obtain ⟨j, hj, e⟩ := List.mem_iff_getElem.mp (hO.1.mem_iff.mpr (List.mem_range.mpr hi))
  rw [<- e]
  exact h j hj
theorem Best.skip {r : Option Nat} (a : Best p key n r) (h : p n = false) : Best p key (n + 1) r := by
  cases r with
  | none => exact fun i hi => if e : i = n then by rw [e]; exact h else a i (by omega)
  | some i =>
    refine ⟨by have := a.1; omega, a.2.1, fun j hj pj => ?_⟩
    by_cases e : j = n
    . rw [e, h] at pj
      exact absurd pj Bool.false_ne_true
    . exact a.2.2 j (by omega) pj
theorem Best.first (a : Best p key n none) (h : p n = true) : Best p key (n + 1) (some n) :=
  ⟨Nat.lt_succ_self n, h, fun j hj pj => by
    by_cases e : j = n
    . rw [e]; exact .inr ⟨rfl, Nat.le_refl _⟩
    . rw [a j (by omega)] at pj
      exact absurd pj Bool.false_ne_true⟩
theorem Best.over {b : Nat} (a : Best p key n (some b)) (h : p n = true) (hk : key b <= key n) : Best p key (n + 1) (some n) :=
  ⟨Nat.lt_succ_self n, h, fun j hj pj => by
    by_cases e : j = n
    . rw [e]; exact .inr ⟨rfl, Nat.le_refl _⟩
    . have := a.2.2 j (by omega) pj
      omega⟩
theorem Best.keep {b : Nat} (a : Best p key n (some b)) (hk : key n < key b) : Best p key (n + 1) (some b) :=
  ⟨by have := a.1; omega, a.2.1, fun j hj pj => by
    by_cases e : j = n
    . rw [e]; exact .inl hk
    . exact a.2.2 j (by omega) pj⟩
end
def z8A (H : Hp) (l : Addr) (ts : List Addr) : Prop := H l = some (.lst (ts.map V.ref)) /\ ∀ t ∈ ts, ∃ x y : Int, H t = some (.tup [.int x, .int y])
def z8B : Sp := fun vs H Q _ => ∃ t x y L, vs = [.ref t, .int x, .int y] /\ PilAt H t L /\ Q (z0M (z1L L x y)) H
def zBf (t : Addr) (pos : Pos) : Sp := fun vs H Q _ => ∃ l ts Ls x y, vs = [.ref l, .int x, .int y] /\ PilsAt H l ts Ls /\ Ls.length < 64 /\ TabOk t pos z34 H /\
  ∀ r H', TabOk t pos z34 H' -> SameP t H H' -> Best (z1e Ls x y) (z0a Ls) Ls.length r -> Q (zAI r) H'
def zAJ : Sp := fun vs H Q _ => ∃ l ts Ls x y, vs = [.ref l, .int x, .int y] /\ LaysAt H l ts Ls /\ Ls.length <= 64 /\ ∀ r, Best (z1e Ls x y) (z0a Ls) Ls.length r -> Q (zAI r) H
def zAK (K : PySem.W.Frag) : Sp := fun vs H Q _ => ∃ (a : Addr) (ns : List Int) (l : Addr) (ts : List Addr) (Ls : List Lay), vs = [.ref a, .ref l] /\ SqL K H a (ns.map V.int) /\ LaysAt H l ts Ls /\ Ls.length <= 64 /\ ∀ m us H', Same H H' -> us.length <= 64 -> z8A H' m us -> Q (.ref m) H'
end L2
namespace L2
open PySem PySem.Spec PyProof.Rows G
def z47 (p : Nat -> Bool) (key : Nat -> Int) : Nat -> Option Nat
  | 0 => none
  | n + 1 => if p n = true then (match z47 p key n with | none => some n | some b => if key b <= key n then some n else some b) else z47 p key n
theorem z1p (p : Nat -> Bool) (key : Nat -> Int) : ∀ n, Best p key n (z47 p key n)
  | 0 => fun i hi => absurd hi (Nat.not_lt_zero _)
  | n + 1 => by
    have ih := z1p p key n
    unfold z47
    by_cases hp : p n = true
    . rw [if_pos hp]
      cases hb : z47 p key n with
      | none =>
        rw [hb] at ih
        exact ih.first hp
      | some b =>
        rw [hb] at ih
        show Best p key (n + 1) (if key b <= key n then some n else some b)
        by_cases hk : key b <= key n
        . rw [if_pos hk]
          exact ih.over hp hk
        . rw [if_neg hk]
          exact ih.keep (by omega)
    . rw [if_neg hp]
      exact ih.skip (by simpa using hp)
def cellAt (Ls : List Lay) (g : Option Int) (x y : Int) : Option Nat -> Option Int
  | none => g
  | some i => ((Ls[i]?).map fun L => z1L L x y).join
def topC (Ls : List Lay) (g : Option Int) (x y : Int) : Option Int := cellAt Ls g x y (z47 (z1e Ls x y) (z0a Ls) Ls.length)
def z6U (Ls : List Lay) (g : Option Int) (w h : Nat) : Rws := z1G w h fun x y => topC Ls g (x : Int) (y : Int)
theorem z6V {w h : Nat} {rows : Rws} (R : Rect w h rows) (x y : Int) : Cell (look w h rows x y) := by
  rw [z1V R]
  exact z4X (z1c R y) _
def z2M (Ls : List Lay) : Prop := ∀ L ∈ Ls, Rect L.w L.h L.rows
theorem LaysAt.ok {H : Hp} {l : Addr} {ts : List Addr} {Ls : List Lay} (h : LaysAt H l ts Ls) : z2M Ls := fun L hL => by
  obtain ⟨i, hi, e⟩ := List.mem_iff_getElem.mp hL
  obtain ⟨t, _, ⟨_, _, _, _, R⟩, _⟩ := h.get hi
  rw [e] at R
  exact R
theorem PilsAt.ok {H : Hp} {l : Addr} {ts : List Addr} {Ls : List Lay} (h : PilsAt H l ts Ls) : z2M Ls := fun L hL => by
  obtain ⟨i, hi, e⟩ := List.mem_iff_getElem.mp hL
  obtain ⟨t, _, ⟨_, _, _, R⟩, _⟩ := h.get hi
  rw [e] at R
  exact R
theorem z2N {Ls : List Lay} (ok : z2M Ls) {g : Option Int} (hg : Cell g) (x y : Int) (r : Option Nat) : Cell (cellAt Ls g x y r) := by
  cases r with
  | none => exact hg
  | some i =>
    show Cell (((Ls[i]?).map fun L => z1L L x y).join)
    cases hL : Ls[i]? with
    | none => exact fun z e => nomatch e
    | some L => exact z6V (ok L (List.mem_of_getElem? hL)) _ _
def z1Q (Ls : List Lay) (g : Option Int) (x y : Int) : List Nat -> Option Int
  | [] => g
  | i :: r => (((Ls[i]?).map fun L => z1L L x y).join).or (z1Q Ls g x y r)
def z98 (Ls : List Lay) (g : Option Int) (w h : Nat) (ms : List Nat) : Rws := z1G w h fun x y => z1Q Ls g (x : Int) (y : Int) ms.reverse
theorem z2g {Ls : List Lay} (ok : z2M Ls) {g : Option Int} (hg : Cell g) (x y : Int) : ∀ ms : List Nat, Cell (z1Q Ls g x y ms)
  | [] => hg
  | i :: r => by
    unfold z1Q
    have h1 := z2N ok hg x y (some i)
    have h1' : Cell (((Ls[i]?).map fun L => z1L L x y).join) := h1
    cases hc : ((Ls[i]?).map fun L => z1L L x y).join with
    | none => exact z2g ok hg x y r
    | some z =>
      rw [hc] at h1'
      exact h1'
def z99 (t : Addr) (pos : Pos) : Sp := fun vs H Q _ => ∃ (w h : Int) (l : Addr) (ts : List Addr) (Ls : List Lay) (g : Option Int), vs = [.int w, .int h, .ref l, z0M g] /\ 1 <= w /\ w <= 64 /\ 1 <= h /\ h <= 64 /\ Cell g /\ PilsAt H l ts Ls /\ Ls.length < 64 /\ TabOk t pos z34 H /\
  ∀ p H', TabOk t pos z34 H' -> SameP t H H' -> PicAt H' p w.toNat (z6U Ls g w.toNat h.toNat) -> Q (.ref p) H'
def z8M : Sp := fun vs H Q _ => ∃ (l : Addr) (ts : List Addr) (Ls : List Lay) (w h : Int) (g : Option Int), vs = [.ref l, .int w, .int h, z0M g] /\ LaysAt H l ts Ls /\ Ls.length <= 64 /\ 1 <= w /\ w <= 64 /\ 1 <= h /\ h <= 64 /\ Cell g /\
  ∀ l' ps H', Same H H' -> RowsAt H' l' ps (z6U Ls g w.toNat h.toNat) -> Q (.ref l') H'
def z0b (key : Nat -> Int) (i j : Nat) : Bool := decide (key j < key i) || (decide (key i = key j) && decide (j < i))
theorem overB_iff {key : Nat -> Int} {i j : Nat} : z0b key i j = true ↔ (key j < key i \/ (key j = key i /\ j < i)) := by
  unfold z0b
  rw [Bool.or_eq_true, Bool.and_eq_true, decide_eq_true_iff, decide_eq_true_iff, decide_eq_true_iff]
  constructor
  . rintro (h | ⟨h1, h2⟩)
    . exact .inl h
    . exact .inr ⟨h1.symm, h2⟩
  . rintro (h | ⟨h1, h2⟩)
    . exact .inl h
    . exact .inr ⟨h1.symm, h2⟩
theorem z4u {key : Nat -> Int} {N : List Nat} (hN : N.Pairwise fun i j => key i < key j \/ (key i = key j /\ i < j)) {p : Nat} (hp : p < N.length) : (N.filter fun i => z0b key i (N[p]'hp)).length = N.length - 1 - p := by
  have e : N = N.take p ++ (N[p]'hp :: N.drop (p + 1)) := by
    rw [<- List.drop_eq_getElem_cons hp, List.take_append_drop]
  have pw : (N.take p ++ (N[p]'hp :: N.drop (p + 1))).Pairwise fun i j => key i < key j \/ (key i = key j /\ i < j) := by rw [<- e]; exact hN
  obtain ⟨_, p2, p3⟩ := List.pairwise_append.mp pw
  obtain ⟨p4, _⟩ := List.pairwise_cons.mp p2
  have f1 : (N.take p).filter (fun i => z0b key i (N[p]'hp)) = [] := by
    rw [List.filter_eq_nil_iff]
    intro i hi
    have := p3 i hi (N[p]'hp) List.mem_cons_self
    rw [overB_iff]
    omega
  have f2 : (N.drop (p + 1)).filter (fun i => z0b key i (N[p]'hp)) = N.drop (p + 1) := by
    rw [List.filter_eq_self]
    intro i hi
    have := p4 i hi
    rw [overB_iff]
    omega
  have f3 : z0b key (N[p]'hp) (N[p]'hp) = false := by
    cases h : z0b key (N[p]'hp) (N[p]'hp) with
    | false => rfl
    | true =>
      have := overB_iff.mp h
      omega
  generalize hx : N[p]'hp = x at e f1 f2 f3
  have g : N.filter (fun i => z0b key i x) = N.drop (p + 1) := by
    conv => lhs; rw [e]
    rw [List.filter_append, f1, List.filter_cons_of_neg (by rw [f3]; exact Bool.false_ne_true), f2]
    rfl
  rw [g, List.length_drop]
  omega
def onRow (on : Nat -> Bool) (n : Nat) : List Nat := (List.range n).filter on
def zAL (key : Nat -> Int) (on : Nat -> Bool) (n most : Nat) : List Nat := (onRow on n).filter fun j => decide (most <= ((onRow on n).filter fun i => z0b key i j).length)
theorem z8C {ms : List Nat} {n : Nat} (hp : ms.Perm (List.range n)) (on : Nat -> Bool) : (ms.filter on).Perm (onRow on n) := hp.filter on
theorem z7B {key : Nat -> Int} {ms : List Nat} {n : Nat} (hp : ms.Perm (List.range n)) (hs : ms.Pairwise fun i j => key i < key j \/ (key i = key j /\ i < j)) (on : Nat -> Bool) {p : Nat} (h : p < (ms.filter on).length) :
    ((onRow on n).filter fun i => z0b key i ((ms.filter on)[p]'h)).length = (ms.filter on).length - 1 - p := by
  rw [<- z4u (hs.filter on) h]
  exact (((z8C hp on).filter _).length_eq).symm
def z48 (key : Nat -> Int) (on : Nat -> Bool) (n most : Nat) (j : Nat) : Bool := on j && decide (((onRow on n).filter fun i => z0b key i j).length < most)
theorem z8D {key : Nat -> Int} {ms : List Nat} {n : Nat} (hp : ms.Perm (List.range n)) (hs : ms.Pairwise fun i j => key i < key j \/ (key i = key j /\ i < j)) (on : Nat -> Bool) (most : Nat) :
    (ms.filter on).drop ((ms.filter on).length - most) = ms.filter (z48 key on n most) := by
  have e : ms.filter (z48 key on n most) = (ms.filter on).filter fun j => decide (((onRow on n).filter fun i => z0b key i j).length < most) := by
    rw [List.filter_filter]
    refine List.filter_congr fun j _ => ?_
    unfold z48
    rw [Bool.and_comm]
  rw [e]
  have cnt : ∀ p (h : p < (ms.filter on).length), ((onRow on n).filter fun i => z0b key i ((ms.filter on)[p]'h)).length = (ms.filter on).length - 1 - p := fun p h => z7B hp hs on h
  generalize ms.filter on = N at cnt
  conv => rhs; rw [<- List.take_append_drop (N.length - most) N]
  rw [List.filter_append]
  have f1 : (N.take (N.length - most)).filter (fun j => decide (((onRow on n).filter fun i => z0b key i j).length < most)) = [] := by
    rw [List.filter_eq_nil_iff]
    intro j hj
    obtain ⟨p, h1, e⟩ := List.mem_iff_getElem.mp hj
    rw [List.length_take] at h1
    rw [List.getElem_take] at e
    rw [<- e, cnt p (by omega), decide_eq_true_iff]
    omega
  have f2 : (N.drop (N.length - most)).filter (fun j => decide (((onRow on n).filter fun i => z0b key i j).length < most)) = N.drop (N.length - most) := by
    rw [List.filter_eq_self]
    intro j hj
    obtain ⟨p, h1, e⟩ := List.mem_iff_getElem.mp hj
    rw [List.length_drop] at h1
    rw [List.getElem_drop] at e
    rw [<- e, cnt _ (by omega), decide_eq_true_iff]
    omega
  rw [f1, f2]
  rfl
end L2
namespace L2
open PySem PySem.Spec PyProof.Rows G
theorem z6W {Ls : List Lay} {g : Option Int} {x y : Int} {ms : List Nat} {s : Nat -> Bool} {r : Option Nat} (hO : Order (z0a Ls) Ls.length ms) (hB : Best (fun i => s i && z1e Ls x y i) (z0a Ls) Ls.length r) :
    z1Q Ls g x y (ms.filter s).reverse = cellAt Ls g x y r := by
  have key : ∀ k, k <= ms.length -> (∀ j, k <= j -> (hj : j < ms.length) -> (s ms[j] && z1e Ls x y ms[j]) = false) -> z1Q Ls g x y ((ms.take k).filter s).reverse = cellAt Ls g x y r := by
    intro k
    induction k with
    | zero =>
      intro _ hs
      rw [hB.uniq (z89 hO fun j hj => hs j (Nat.zero_le _) hj)]
      rfl
    | succ k ih =>
      intro hk hs
      have hkl : k < ms.length := by omega
      have b1 := hO.lt hkl
      have es := z36 (x := x) (y := y) b1
      rw [List.take_succ, List.getElem?_eq_getElem hkl]
      show z1Q Ls g x y ((ms.take k ++ [ms[k]]).filter s).reverse = _
      rw [List.filter_append]
      have down : (s ms[k] && z1e Ls x y ms[k]) = false -> z1Q Ls g x y ((ms.take k).filter s).reverse = cellAt Ls g x y r := fun e0 => by
        refine ih (by omega) fun j h1 h2 => ?_
        by_cases e : j = k
        . subst e
          exact e0
        . exact hs j (by omega) h2
      cases hsk : s ms[k] with
      | false =>
        rw [List.filter_cons_of_neg (by rw [hsk]; exact Bool.false_ne_true), List.filter_nil, List.append_nil]
        exact down (by rw [hsk]; rfl)
      | true =>
        rw [List.filter_cons_of_pos (by exact hsk), List.filter_nil, List.reverse_append]
        show (((Ls[ms[k]]?).map fun L => z1L L x y).join).or (z1Q Ls g x y ((ms.take k).filter s).reverse) = _
        rw [List.getElem?_eq_getElem b1]
        show (z1L Ls[ms[k]] x y).or _ = _
        cases hc : z1L Ls[ms[k]] x y with
        | none =>
          rw [hc] at es
          show z1Q Ls g x y ((ms.take k).filter s).reverse = _
          exact down (by rw [es, Bool.and_comm]; rfl)
        | some z =>
          rw [hc] at es
          rw [hB.uniq (z6T hO hkl (by rw [hsk, es]; rfl) fun j h1 h2 => hs j (by omega) h2)]
          show some z = ((Ls[ms[k]]?).map fun L => z1L L x y).join
          rw [List.getElem?_eq_getElem b1]
          show some z = z1L Ls[ms[k]] x y
          rw [hc]
  have := key ms.length (Nat.le_refl _) fun j h1 h2 => by omega
  rw [List.take_length] at this
  exact this
end L2
namespace L2
open PySem PySem.Spec PyProof.Rows G
def onL (Ls : List Lay) (y : Int) (i : Nat) : Bool := match Ls[i]? with
  | some L => decide (L.y <= y) && decide (y < L.y + (L.h : Int))
  | none => false
theorem z3c {Ls : List Lay} {y : Int} {i : Nat} (h : i < Ls.length) : onL Ls y i = (decide (Ls[i].y <= y) && decide (y < Ls[i].y + (Ls[i].h : Int))) := by
  unfold onL
  rw [List.getElem?_eq_getElem h]
def z8E (Ls : List Lay) (m : Nat) : Nat -> List (List Int)
  | 0 => []
  | y + 1 => z8E Ls m y ++ (zAL (z0a Ls) (onL Ls (y : Int)) Ls.length m).map fun (j : Nat) => [(y : Int), (j : Int)]
theorem z3d (on : Nat -> Bool) (n : Nat) : (onRow on n).length <= n := by
  unfold onRow
  have := List.length_filter_le on (List.range n)
  rwa [List.length_range] at this
theorem z7C {xs : List V} {k : Nat} (h : k <= xs.length) : z7K xs (some (k : Int)) none = xs.drop k := by
  have e0 : HT.sIx xs.length xs.length none = xs.length := rfl
  have e1 : HT.sIx xs.length 0 (some (k : Int)) = k := by
    rw [HT.sIx_nat]
    exact Nat.min_eq_left h
  unfold z7K
  rw [e0, e1, List.take_of_length_le (by rw [List.length_drop]; exact Nat.le_refl _)]
structure TusP (P : Addr) (pos : Pos) (H0 H : Hp) (l : Addr) (ts : List Addr) (zss : List (List Int)) : Prop where
  tab : TabOk P pos z34 H
  same : SameP P H0 H
  fl : H0 l = none
  tus : TusAt H l ts zss
section
variable {P : Addr} {pos : Pos} {H0 H H' : Hp} {l : Addr} {ts : List Addr} {zss : List (List Int)}
theorem TusAt.toP (B : TusAt H l ts zss) (e : SameP P H H') (t : TabOk P pos z34 H) : TusAt H' l ts zss := ⟨e.lst t B.lst, B.len, fun i u zs e1 e2 => e.tup t (B.at' i u zs e1 e2)⟩
theorem TusP.mono (B : TusP P pos H0 H l ts zss) (e : SameP P H H') (t : TabOk P pos z34 H') : TusP P pos H0 H' l ts zss := ⟨t, B.same.trans e, B.fl, B.tus.toP e B.tab⟩
theorem TusP.keep (B : TusP P pos H0 H l ts zss) (s : Same H H') : TusP P pos H0 H' l ts zss := B.mono s.toP (B.tab.keep s)
theorem TusAt.push {t : Addr} {zs : List Int} (B : TusAt H l ts zss) (h : H t = some (.tup (zs.map V.int))) : TusAt (upd H l (.lst (ts.map V.ref ++ [.ref t]))) l (ts ++ [t]) (zss ++ [zs]) := by
  have ot : ∀ {b : Addr} {xs : List V}, H b = some (.tup xs) -> (upd H l (.lst (ts.map V.ref ++ [.ref t]))) b = some (.tup xs) := fun {b xs} e => (z06 (z4f e B.lst fun z => nomatch z)).trans e
  refine ⟨by rw [upd_same, List.map_append]; rfl, by rw [List.length_append, List.length_append, B.len]; rfl, fun i u ws e1 e2 => ?_⟩
  have hl := B.len
  by_cases hi : i < ts.length
  . rw [List.getElem?_append_left hi] at e1
    rw [List.getElem?_append_left (by omega)] at e2
    exact ot (B.at' i u ws e1 e2)
  . rw [List.getElem?_append_right (by omega)] at e1
    rw [List.getElem?_append_right (by omega), <- hl] at e2
    cases hk : i - ts.length with
    | zero =>
      rw [hk] at e1 e2
      cases e1
      cases e2
      exact ot h
    | succ n =>
      rw [hk] at e1
      cases e1
theorem TusP.push {t : Addr} {zs : List Int} (B : TusP P pos H0 H l ts zss) (h : H t = some (.tup (zs.map V.int))) : TusP P pos H0 (upd H l (.lst (ts.map V.ref ++ [.ref t]))) l (ts ++ [t]) (zss ++ [zs]) :=
  ⟨B.tab.put B.tus.lst, fun b o nb eb => by rw [z06 (z08 eb B.fl)]; exact B.same b o nb eb, B.fl, B.tus.push h⟩
end
def z7W : Sp := fun vs H Q _ => ∃ (t : Addr) (y : Int) (L : Lay), vs = [.ref t, .int y] /\ PilAt H t L /\ Q (.bl (decide (L.y <= y) && decide (y < L.y + (L.h : Int)))) H
def z7X (t : Addr) (pos : Pos) : Sp := fun vs H Q _ => ∃ (l : Addr) (y : Int) (ts : List Addr) (Ls : List Lay), vs = [.ref l, .int y] /\ PilsAt H l ts Ls /\ Ls.length < 64 /\ TabOk t pos z34 H /\
  ∀ m ms H', TabOk t pos z34 H' -> SameP t H H' -> H m = none -> Order (z0a Ls) Ls.length ms -> H' m = some (.lst (z0l (ms.filter (onL Ls y)))) -> Q (.ref m) H'
def z6X : Sp := fun vs H Q _ => ∃ (m : Addr) (xs : List V) (k : Nat), vs = [.ref m, .int (k : Int)] /\ H m = some (.lst xs) /\ Q (.int ((xs.length - k : Nat) : Int)) H
def z9A (t : Addr) (pos : Pos) : Sp := fun vs H Q _ => ∃ (l : Addr) (ts : List Addr) (Ls : List Lay) (h m : Nat), vs = [.ref l, .int (h : Int), .int (m : Int)] /\ PilsAt H l ts Ls /\ Ls.length < 64 /\ h <= 64 /\ TabOk t pos z34 H /\
  ∀ d us H', TusP t pos H H' d us (z8E Ls m h) -> Q (.ref d) H'
def z49 : Sp := fun vs H Q _ => ∃ (l : Addr) (i j : Nat) (ts : List Addr) (Ls : List Lay), vs = [.ref l, .int (i : Int), .int (j : Int)] /\ LaysAt H l ts Ls /\ i < Ls.length /\ j < Ls.length /\ Q (.bl (z0b (z0a Ls) i j)) H
def zAM : Sp := fun vs H Q _ => ∃ (l : Addr) (ts : List Addr) (Ls : List Lay) (h m : Nat), vs = [.ref l, .int (h : Int), .int (m : Int)] /\ LaysAt H l ts Ls /\ Ls.length < 64 /\ h <= 64 /\ ∀ d us H', TusB H H' d us (z8E Ls m h) -> Q (.ref d) H'
def z7Y (K : PySem.W.Frag) : Sp := fun vs H Q _ => ∃ (a : Addr) (ns : List Int) (k : Int), vs = [.ref a, .int k] /\ SqL K H a (ns.map V.int) /\ 0 <= k /\ k < 10000 /\ ∀ z, Q (.int z) H
def z9B (K : PySem.W.Frag) : Sp := fun vs H Q _ => ∃ (a : Addr) (ns : List Int) (k sd : Int), vs = [.ref a, .int k, .int sd] /\ SqL K H a (ns.map V.int) /\ 0 <= k /\ k < 1000 /\ 1 <= sd /\ sd <= 4 /\ ∀ t L H', Same H H' -> LayAt H' t L -> Q (.ref t) H'
def z8N (K : PySem.W.Frag) : Sp := fun vs H Q _ => ∃ (a : Addr) (ns : List Int), vs = [.ref a] /\ SqL K H a (ns.map V.int) /\ ∀ l ts Ls H', Same H H' -> H l = none -> Ls.length <= 60 -> LaysAt H' l ts Ls -> Q (.ref l) H'
theorem SameP.freed {P m : Addr} {pos : Pos} {qual : Str} {H H' : Hp} (e : SameP P H H') (T : TabOk P pos qual H') (n : H' m = none) : H m = none := by
  cases z : H m with
  | none => rfl
  | some o =>
    have nP : m ≠ P := fun y => by
      obtain ⟨tp, etp⟩ := T.is
      rw [<- y, n] at etp
      cases etp
    have z2 := e _ o nP z
    rw [n] at z2
    cases z2
theorem z2h {α : Type} (p : α -> Bool) (x : α) : [x].filter p = if p x = true then [x] else [] := by
  by_cases c : p x = true
  . rw [if_pos c, List.filter_cons_of_pos c]
    rfl
  . rw [if_neg c, List.filter_cons_of_neg c]
    rfl
end L2
namespace L2
open PySem PySem.Spec PyProof.Rows G
def rdB (Ls : List Lay) (m : Nat) (y : Int) (i : Nat) : Bool := z48 (z0a Ls) (onL Ls y) Ls.length m i
def z1s (Ls : List Lay) (g : Option Int) (m : Nat) (x y : Int) : Option Int := cellAt Ls g x y (z47 (fun i => rdB Ls m y i && z1e Ls x y i) (z0a Ls) Ls.length)
theorem z4c {Ls : List Lay} {g : Option Int} {m : Nat} {x y : Int} {r : Option Nat} (h : Best (fun i => rdB Ls m y i && z1e Ls x y i) (z0a Ls) Ls.length r) : z1s Ls g m x y = cellAt Ls g x y r := by
  unfold z1s
  rw [(z1p _ _ _).uniq h]
def z1W (Ls : List Lay) (brd : Rws) (w h m : Nat) : Rws := z1G w h fun x y => z1s Ls (z0Z brd x y) m (x : Int) (y : Int)
theorem z3e {Ls : List Lay} (ok : z2M Ls) {brd : Rws} {w h m : Nat} (R : Rect w h brd) : Rect w h (z1W Ls brd w h m) := z2A R.h1 R.h2 R.w1 R.w2 fun x y => z2N ok (R.cell x y) _ _ _
def z1t (Ls : List Lay) (brd : Rws) (w y : Nat) (ms : List Nat) : List (Option Int) := (List.range w).map fun x => z1Q Ls (z0Z brd x y) (x : Int) (y : Int) ms.reverse
theorem z2i {Ls : List Lay} (ok : z2M Ls) {brd : Rws} {w h : Nat} (R : Rect w h brd) (y : Nat) (ms : List Nat) : Rect w 1 [z1t Ls brd w y ms] := ⟨rfl, Nat.le_refl _, by decide, R.w1, R.w2, fun r hr => by
  rw [List.mem_singleton.mp hr]
  refine ⟨by unfold z1t; rw [List.length_map, List.length_range], fun c hc => ?_⟩
  unfold z1t at hc
  obtain ⟨x, _, rfl⟩ := List.mem_map.mp hc
  exact z2g ok (R.cell x y) _ _ _⟩
theorem z6Y {Ls : List Lay} {brd : Rws} {w h : Nat} (R : Rect w h brd) {y : Nat} (hy : y < h) : cutRows brd 0 (y : Int) w 1 = [z1t Ls brd w y []] := by
  have hR := R.len
  unfold cutRows
  show [z3S brd 0 ((y : Int) + ((0 : Nat) : Int)) w] = _
  congr 1
  unfold z3S z1t
  refine List.map_congr_left fun x hx => ?_
  show atR (rowAt brd ((y : Int) + 0)) (0 + (x : Int)) = z0Z brd x y
  rw [Int.add_zero, Int.zero_add, <- z1V R, z6z (by omega) (by have := List.mem_range.mp hx; omega) (by omega) (by omega)]
  rw [Int.toNat_natCast, Int.toNat_natCast]
theorem z4v {Ls : List Lay} (ok : z2M Ls) {brd : Rws} {w h : Nat} (R : Rect w h brd) {y : Nat} (ms : List Nat) {i : Nat} (hi : i < Ls.length) :
    z0U [z1t Ls brd w y ms] (cutRows (Ls[i]).rows (-(Ls[i]).x) (-((Ls[i]).y - (y : Int))) w 1) = [z1t Ls brd w y (ms ++ [i])] := by
  have R1 := z2i ok R y ms
  have R2 := ok _ (List.getElem_mem hi)
  rw [<- z84 R1 R2]
  show [llR w _ _ _ _ _ _ 0] = _
  congr 1
  unfold llR z1t
  refine List.map_congr_left fun x hx => ?_
  rw [List.reverse_append]
  show _ = (((Ls[i]?).map fun L => z1L L (x : Int) (y : Int)).join).or (z1Q Ls (z0Z brd x y) (x : Int) (y : Int) ms.reverse)
  rw [List.getElem?_eq_getElem hi]
  have e1 : ((0 : Nat) : Int) - ((Ls[i]).y - (y : Int)) = (y : Int) - (Ls[i]).y := by omega
  rw [e1]
  show (z1L Ls[i] (x : Int) (y : Int)).or _ = (z1L Ls[i] (x : Int) (y : Int)).or _
  congr 1
  unfold z0Z
  have hx := List.mem_range.mp hx
  show ((List.map _ (List.range w))[x]?).join = _
  rw [List.getElem?_map, List.getElem?_range hx]
  rfl
theorem z4w {Ls : List Lay} {brd : Rws} {w y m : Nat} {ms : List Nat} (hO : Order (z0a Ls) Ls.length ms) : z1t Ls brd w y (ms.filter (rdB Ls m (y : Int))) = (List.range w).map fun x => z1s Ls (z0Z brd x y) m (x : Int) (y : Int) := by
  unfold z1t
  refine List.map_congr_left fun x _ => ?_
  unfold z1s
  exact z6W hO (z1p _ _ _)
def BestS (S : List Nat) (q : Nat -> Bool) (key : Nat -> Int) : Option Nat -> Prop
  | none => ∀ i ∈ S, q i = false
  | some i => i ∈ S /\ q i = true /\ ∀ j ∈ S, q j = true -> key j < key i \/ (key j = key i /\ j <= i)
section
variable {S : List Nat} {q : Nat -> Bool} {key : Nat -> Int} {a : Nat}
theorem BestS.skip {r : Option Nat} (h : BestS S q key r) (n : q a = false) : BestS (S ++ [a]) q key r := by
  cases r with
  | none =>
    intro i hi
    rcases List.mem_append.mp hi with hi | hi
    . exact h i hi
    . rw [List.mem_singleton.mp hi]
      exact n
  | some b =>
    refine ⟨List.mem_append_left _ h.1, h.2.1, fun j hj pj => ?_⟩
    rcases List.mem_append.mp hj with hj | hj
    . exact h.2.2 j hj pj
    . rw [List.mem_singleton.mp hj, n] at pj
      cases pj
theorem BestS.first (h : BestS S q key none) (p : q a = true) : BestS (S ++ [a]) q key (some a) := by
  refine ⟨List.mem_append_right _ List.mem_cons_self, p, fun j hj pj => ?_⟩
  rcases List.mem_append.mp hj with hj | hj
  . rw [h j hj] at pj
    cases pj
  . rw [List.mem_singleton.mp hj]
    exact .inr ⟨rfl, Nat.le_refl _⟩
theorem BestS.over {b : Nat} (h : BestS S q key (some b)) (p : q a = true) (o : z0b key a b = true) : BestS (S ++ [a]) q key (some a) := by
  have o := overB_iff.mp o
  refine ⟨List.mem_append_right _ List.mem_cons_self, p, fun j hj pj => ?_⟩
  rcases List.mem_append.mp hj with hj | hj
  . have := h.2.2 j hj pj
    omega
  . rw [List.mem_singleton.mp hj]
    exact .inr ⟨rfl, Nat.le_refl _⟩
theorem BestS.keep {b : Nat} (h : BestS S q key (some b)) (o : z0b key a b = false) : BestS (S ++ [a]) q key (some b) := by
  have o : ¬ (key b < key a \/ (key b = key a /\ b < a)) := fun z => by rw [overB_iff.mpr z] at o; cases o
  refine ⟨List.mem_append_left _ h.1, h.2.1, fun j hj pj => ?_⟩
  rcases List.mem_append.mp hj with hj | hj
  . exact h.2.2 j hj pj
  . rw [List.mem_singleton.mp hj]
    omega
theorem BestS.best {n : Nat} {s : Nat -> Bool} {r : Option Nat} (h : BestS ((List.range n).filter s) q key r) : Best (fun i => s i && q i) key n r := by
  have mem : ∀ i, i < n -> s i = true -> i ∈ (List.range n).filter s := fun i hi e => List.mem_filter.mpr ⟨List.mem_range.mpr hi, e⟩
  cases r with
  | none =>
    intro i hi
    cases e : s i with
    | false =>
      show (s i && q i) = false
      rw [e]
      rfl
    | true =>
      show (s i && q i) = false
      rw [e, h i (mem i hi e)]
      rfl
  | some b =>
    obtain ⟨h1, h2, h3⟩ := h
    obtain ⟨h4, h5⟩ := List.mem_filter.mp h1
    refine ⟨List.mem_range.mp h4, by show (s b && q b) = true; rw [h5, h2]; rfl, fun j hj pj => ?_⟩
    have pj' : s j = true /\ q j = true := by simpa using pj
    exact h3 j (mem j hj pj'.1) pj'.2
end
def z7Z (t : Addr) (pos : Pos) : Sp := fun vs H Q _ => ∃ (b l : Addr) (ts : List Addr) (Ls : List Lay) (m y w h : Nat) (brd : Rws), vs = [.ref b, .ref l, .int (m : Int), .int (y : Int)] /\ PicAt H b w brd /\ Rect w h brd /\ y < h /\ PilsAt H l ts Ls /\ Ls.length < 64 /\ TabOk t pos z34 H /\
  ∀ p H', TabOk t pos z34 H' -> SameP t H H' -> PicAt H' p w [(List.range w).map fun x => z1s Ls (z0Z brd x y) m (x : Int) (y : Int)] -> Q (.ref p) H'
def z4d (t : Addr) (pos : Pos) : Sp := fun vs H Q _ => ∃ (b l : Addr) (ts : List Addr) (Ls : List Lay) (m w h : Nat) (brd : Rws), vs = [.ref b, .ref l, .int (m : Int)] /\ PicAt H b w brd /\ Rect w h brd /\ PilsAt H l ts Ls /\ Ls.length < 64 /\ TabOk t pos z34 H /\
  ∀ p H', TabOk t pos z34 H' -> SameP t H H' -> PicAt H' p w (z1W Ls brd w h m) -> Q (.ref p) H'
def z3f (K : PySem.W.Frag) : Sp := fun vs H Q _ => ∃ (a : Addr) (ns : List Int) (k : Int), vs = [.ref a, .int k] /\ SqL K H a (ns.map V.int) /\ 0 <= k /\ k < 500 /\ ∀ t L H', Same H H' -> LayAt H' t L -> Q (.ref t) H'
def z7a : Sp := fun vs H Q _ => ∃ (l : Addr) (ts : List Addr) (Ls : List Lay) (y : Int) (m : Nat), vs = [.ref l, .int y, .int (m : Int)] /\ LaysAt H l ts Ls /\ Ls.length < 64 /\ ∀ d H', Same H H' -> H' d = some (.lst (z0l ((List.range Ls.length).filter (rdB Ls m y)))) -> Q (.ref d) H'
def z6Z : Sp := fun vs H Q _ => ∃ (l d : Addr) (ts : List Addr) (Ls : List Lay) (m : Nat) (x y : Int) (g : Option Int), vs = [.ref l, .ref d, .int x, .int y, z0M g] /\ LaysAt H l ts Ls /\ Ls.length < 64 /\ H d = some (.lst (z0l ((List.range Ls.length).filter (rdB Ls m y)))) /\ ∀ H', Same H H' -> Q (z0M (z1s Ls g m x y)) H'
def z6a : Sp := fun vs H Q _ => ∃ (b l : Addr) (ps ts : List Addr) (Ls : List Lay) (m w h : Nat) (brd : Rws), vs = [.ref b, .ref l, .int (m : Int)] /\ RowsAt H b ps brd /\ Rect w h brd /\ LaysAt H l ts Ls /\ Ls.length < 64 /\ ∀ p H', Same H H' -> PicAt H' p w (z1W Ls brd w h m) -> Q (.ref p) H'
theorem z8F {Ls : List Lay} {y : Int} {i : Nat} : rdB Ls 0 y i = false := by
  unfold rdB z48
  rw [decide_eq_false (Nat.not_lt_zero _), Bool.and_false]
theorem z6b {Ls : List Lay} {brd : Rws} {w h : Nat} (R : Rect w h brd) : z1W Ls brd w h 0 = brd := by
  conv => rhs; rw [R.grid]
  unfold z1W
  refine z4m fun x y _ _ => ?_
  rw [z4c (r := none) fun i _ => by show (rdB Ls 0 _ i && _) = false; rw [z8F]; rfl]
  rfl
end L2
local macro_rules | `(tactic| walk_at "r1") => `(tactic| first
  | refine ⟨_, rfl, ?_⟩
  | refine ⟨_, _, rfl, rfl, ?_⟩
  | refine ⟨rfl, ?_⟩
  | refine ⟨(by show (0 : Int) < _; first | decide | omega), ?_⟩
  | refine ⟨⟨(by first | decide | omega), (by first | decide | omega)⟩, ?_⟩
  | refine ⟨L2.mulL (by first | decide | omega) (by first | decide | omega), ?_⟩
  | refine ⟨L2.mulR (by first | decide | omega) (by first | decide | omega), ?_⟩
  | refine ⟨L2.powS (by first | decide | omega) (by first | decide | omega) (by first | decide | omega), ?_⟩
  | refine ⟨L2.szV (by simp), ?_⟩)
local macro_rules | `(tactic| walk_at "rs") => `(tactic| repeat walk_at "r1")
namespace K51
open PySem PyProof.Rows L2 G
def z1m (i : Nat) : Stmt := PySem.Challenge.pw_glowboard_k51_boards_beamed.main.body.getD i (.Pass ⟨0, 0, 0, 0⟩)
abbrev z0g : Stmt := z1m 1
abbrev z14 : Stmt := z1m 2
abbrev z1M : Stmt := z1m 3
abbrev z1N : Stmt := z1m 4
abbrev z0h : Stmt := z1m 6
abbrev z15 : Stmt := z1m 7
abbrev z37 : Stmt := z1m 8
abbrev z0i : Stmt := z1m 9
abbrev z1n : Stmt := z1m 10
abbrev z16 : Stmt := z1m 12
abbrev z17 : Stmt := z1m 14
abbrev z0O : Stmt := z1m 15
abbrev z0X : Stmt := z1m 16
abbrev z0j : Stmt := z1m 17
abbrev z0s : Stmt := z1m 18
abbrev z18 : Stmt := z1m 20
abbrev z0o : Stmt := z1m 21
abbrev z0p : Stmt := z1m 22
abbrev z0q : Stmt := z1m 23
abbrev z0t : Stmt := z1m 24
abbrev z19 : Stmt := z1m 25
abbrev z0k : Stmt := z1m 26
abbrev z1O : Stmt := z1m 27
abbrev z0r : Stmt := z1m 28
abbrev z1A : Stmt := z1m 29
abbrev z0n : Stmt := z1m 30
abbrev z1B : Stmt := z1m 31
abbrev z1E : Stmt := z1m 32
abbrev z1u : Stmt := z1m 33
structure Blt (mg : Str -> Option Value) : Prop where
  f_len : mg "len" = none
  f_range : mg "range" = none
  f_enumerate : mg "enumerate" = none
  f_zip : mg "zip" = none
  f_reversed : mg "reversed" = none
  f_isinstance : mg "isinstance" = none
  f_int : mg "int" = none
  f_bool : mg "bool" = none
  f_list : mg "list" = none
  f_tuple : mg "tuple" = none
  f_all : mg "all" = none
  f_max : mg "max" = none
  f_sorted : mg "sorted" = none
def z4e : Pos := ⟨44, 40, 44, 70⟩
section
variable {P : Program} {w : World} {K : PySem.W.Frag} {mg : Str -> Option Value} {base : Heap} {tc tp : Addr}
theorem z4x : FnScope ["_law_script", "_law_k", "_law_prime", "_law_many"] ["_law_script", "_law_k", "_law_prime", "_law_many"] (z02 z18) := ⟨rfl, rfl, rfl, by decide +kernel, rfl, by decide +kernel, by decide +kernel⟩
theorem z4y {f : Addr} {fd : FuncData} (D : Df K mg "_law_draw" z18 ["_law_script", "_law_k", "_law_prime", "_law_many"] f fd) (B : Blt mg) :
    Ow P w K mg base "_law_draw" ["_law_script", "_law_k", "_law_prime", "_law_many"] 1 (z31 K) := by
  refine D.ow (D.F.ok z4x (fun vs H Q E h => ?_) (fun cdv A outer s H vs Q E hr h => ?_))
  . obtain ⟨a, ns, k, p, m, rfl, _⟩ := h
    rfl
  obtain ⟨a, ns, k, p, m, rfl, hS, k0, k1, hp, hm, q⟩ := h
  refine ⟨_, (z04 (z1C (z0S z2l (z0L z0E rfl B.f_len boot_len (z00 (pv 0) z03)) z01 (z0Y _)) (z07 (z0K z01)) z0Q)
    (z07 (z0K (z0D z2W (z0D z2W (z0D z1P (z0D z0c (z0C z0P (pv 0) (z0D z2W (pv 1) (z0L z0E rfl B.f_len boot_len (z00 (pv 0) z03))) (fun _ _ => rfl)) (z0D z1P (pv 1) (pv 1))) z01) (pv 2)) (pv 3))))), ?_⟩
  refine ⟨_, rfl, a, _, rfl, .inl hS, ?_⟩
  walk_at "rs"
  refine z2Q (fun c => ?_) (fun c => ?_)
  . exact q 0 (by decide) hm
  . have hl : 0 < ns.length := by
      rw [List.length_map] at c
      have : (ns.length : Int) ≠ 0 := fun e => c (by rw [e])
      omega
    obtain ⟨z, hz⟩ := z5t hl k
    refine ⟨_, rfl, _, rfl, _, rfl, a, _, rfl, .inl hS, _, _, rfl, rfl, (by rw [List.length_map]; show (0 : Int) < (ns.length : Int); omega), a, _, _, _, rfl, rfl, hS, hz, ?_⟩
    walk_at "rs"
    exact q _ (Int.emod_nonneg _ (by omega)) (Int.emod_lt_of_pos _ hm)
theorem z4A : FnScope ["_law_script", "_law_k", "_law_many"] ["_law_script", "_law_k", "_law_many"] (z02 z0o) := ⟨rfl, rfl, rfl, by decide +kernel, rfl, by decide +kernel, by decide +kernel⟩
theorem z4B {f : Addr} {fd : FuncData} (D : Df K mg "_law_great" z0o ["_law_script", "_law_k", "_law_many"] f fd) (B : Blt mg) :
    Ow P w K mg base "_law_great" ["_law_script", "_law_k", "_law_many"] 1 (z7N K) := by
  refine D.ow (D.F.ok z4A (fun vs H Q E h => ?_) (fun cdv A outer s H vs Q E hr h => ?_))
  . obtain ⟨a, ns, k, m, rfl, _⟩ := h
    rfl
  obtain ⟨a, ns, k, m, rfl, hS, k0, k1, hm, q⟩ := h
  refine ⟨_, (z04 (z1C (z0S z2l (z0L z0E rfl B.f_len boot_len (z00 (pv 0) z03)) z01 (z0Y _)) (z07 (z0K z01)) z0Q)
    (z07 (z0K (z0D z2W (z0D z7z (z0D z0c (z0D z2W (z0C z0P (pv 0) (z0D z2W (pv 1) (z0L z0E rfl B.f_len boot_len (z00 (pv 0) z03))) (fun _ _ => rfl)) (z0D z4M z01 z01)) (pv 1)) (z0D z4M z01 z01)) (pv 2))))), ?_⟩
  refine ⟨_, rfl, a, _, rfl, .inl hS, ?_⟩
  walk_at "rs"
  refine z2Q (fun c => ?_) (fun c => ?_)
  . exact q 0 (by decide) hm
  . have hl : 0 < ns.length := by
      rw [List.length_map] at c
      have : (ns.length : Int) ≠ 0 := fun e => c (by rw [e])
      omega
    obtain ⟨z, hz⟩ := z5t hl k
    refine ⟨_, rfl, _, rfl, _, rfl, a, _, rfl, .inl hS, _, _, rfl, rfl, (by rw [List.length_map]; show (0 : Int) < (ns.length : Int); omega), a, _, _, _, rfl, rfl, hS, hz, ?_⟩
    walk_at "rs"
    have a1 := Int.emod_nonneg z (show (10 : Int) ^ Int.toNat 30 ≠ 0 by decide)
    have a2 := Int.emod_lt_of_pos z (show (0 : Int) < 10 ^ Int.toNat 30 by decide)
    have a3 : (10 : Int) ^ Int.toNat 30 + 1000000 < 2 ^ 1000 := by decide
    have a4 : ((2 ^ 1000 : Nat) : Int) = 2 ^ 1000 := by decide
    refine ⟨⟨by omega, by decide⟩, ?_⟩
    walk_at "rs"
    exact q _ (Int.emod_nonneg _ (by omega)) (Int.emod_lt_of_pos _ hm)
theorem z4C : FnScope ["_law_found"] ["_law_found"] (z02 z0p) := ⟨rfl, rfl, rfl, by decide +kernel, rfl, by decide +kernel, by decide +kernel⟩
theorem z4D {f : Addr} {fd : FuncData} (D : Df K mg "_law_whole" z0p ["_law_found"] f fd) (B : Blt mg) :
    Ow P w K mg base "_law_whole" ["_law_found"] 1 z5x := by
  refine D.ow (D.F.ok z4C (fun vs H Q E h => ?_) (fun cdv A outer s H vs Q E hr h => ?_))
  . obtain ⟨x, T, rfl, _⟩ := h
    rfl
  obtain ⟨x, T, rfl, hT, q⟩ := h
  refine ⟨_, (z07 (z0K (z7E (z0L z1h rfl B.f_isinstance boot_isinstance (z00 (pv 0) (z00 (z20 (v := .ty "int") rfl B.f_int boot_int rfl) z03))) (z5G (z8V (z0L z1h rfl B.f_isinstance boot_isinstance (z00 (pv 0) (z00 (z20 (v := .ty "bool") rfl B.f_bool boot_bool rfl) z03)))))))), ?_⟩
  refine ⟨x, rfl, x, "int", T, rfl, by decide, hT, _, rfl, ?_⟩
  have e := z3s T (z5h hT)
  cases hi : z7q T "int" with
  | true =>
    rw [hi, if_pos rfl] at e
    refine z8j ⟨x, rfl, x, "bool", T, rfl, by decide, hT, _, rfl, ?_⟩
    rw [e]
    exact q
  | false =>
    rw [hi, if_neg (by decide)] at e
    refine z7L ?_
    rw [e]
    exact q
theorem sc_lawshade : FnScope ["_law_script", "_law_k", "_law_shade_here"] ["_law_script", "_law_k"] (z02 z0q) := ⟨rfl, rfl, rfl, by decide +kernel, rfl, by decide +kernel, by decide +kernel⟩
theorem z4E {f : Addr} {fd : FuncData} (D : Df K mg "_law_shade" z0q ["_law_script", "_law_k"] f fd)
    (O_lawdraw : Ow P w K mg base "_law_draw" ["_law_script", "_law_k", "_law_prime", "_law_many"] 1 (z31 K)) (B : Blt mg) :
    Ow P w K mg base "_law_shade" ["_law_script", "_law_k"] 2 (z6G K) := by
  refine D.ow (D.F.ok sc_lawshade (fun vs H Q E h => ?_) (fun cdv A outer s H vs Q E hr h => ?_))
  . obtain ⟨a, ns, k, rfl, _⟩ := h
    rfl
  obtain ⟨a, ns, k, rfl, hS, k0, k1, q⟩ := h
  refine ⟨_, (z04 (z0H (i := 2) sc_lawshade.nd rfl (Or.inl rfl) (z0A O_lawdraw hr rfl (z00 (pv 0) (z00 (pv 1) (z00 z01 (z00 z01 z03))))))
    (z04 (z1C (z0S z7e (pv 2) z01 (z0Y _)) (z07 (z0K z1q)) z0Q)
    (z07 (z0K (pv 2))))), ?_⟩
  walk_at "rs"
  refine ⟨a, ns, k, _, _, rfl, hS, k0, by omega, (by decide), (by decide), fun r r0 r1 => ?_⟩
  walk_at "rs"
  refine z2Q (fun c => ?_) (fun c => ?_)
  . exact q none (fun z e => nomatch e)
  . walk_at "rs"
    exact q (some r) (fun z e => by cases e; omega)
theorem sc_lawrows : FnScope ["_law_script", "_law_k", "_law_wide", "_law_high", "_law_rows_here", "_law_y"] ["_law_script", "_law_k", "_law_wide", "_law_high"] (z02 z0t) := ⟨rfl, rfl, rfl, by decide +kernel, rfl, by decide +kernel, by decide +kernel⟩
theorem z4z {f : Addr} {fd : FuncData} (D : Df K mg "_law_rows" z0t ["_law_script", "_law_k", "_law_wide", "_law_high"] f fd)
    (O_lawshade : Ow P w K mg base "_law_shade" ["_law_script", "_law_k"] 2 (z6G K)) (B : Blt mg) :
    Ow P w K mg base "_law_rows" ["_law_script", "_law_k", "_law_wide", "_law_high"] 3 (z5u K) := by
  refine D.ow (D.F.ok sc_lawrows (fun vs H Q E h => ?_) (fun cdv A outer s H vs Q E hr h => ?_))
  . obtain ⟨a, ns, k, w, h, rfl, _⟩ := h
    rfl
  obtain ⟨a, ns, k, wd, hg, rfl, hS, k0, k1, w1, w2, h1, h2, q⟩ := h
  refine ⟨_, (z04 (z0H (i := 4) sc_lawrows.nd rfl (Or.inl rfl) (z3B z03))
    (z04 (z1f PassesOwn.never rfl (z0e rfl B.f_range (z00 (pv 3) z03)) (z0I (i := 5) sc_lawrows.nd rfl (Or.inr rfl)) (z07 (z2j (z6m PySem.F.plainAttrs_list PySem.F.slot_list_append PySem.F.type_list_append z1g (pv 4) (z00 (z1o (locs := ["_law_x"]) (ix := [0, 1, 5]) rfl (BlkSc.look (dsc := z02 z0t) (N := ["_law_script", "_law_k", "_law_wide", "_law_high", "_law_rows_here", "_law_y"]) rfl rfl (by decide +kernel)) (z0e rfl B.f_range (z00 (pv 2) z03)) (fun _ _ _ _ _ _ => (z0I (i := 0) (by decide +kernel : (["_law_x", "_law_script", "_law_k", "_law_y"] : List Str).Nodup) rfl (Or.inl rfl))) (fun _ _ _ _ _ _ => z0u) (fun _ _ _ _ _ _ => (z0A O_lawshade hr rfl (z00 (pv 1) (z00 (z0D z0c (z0D z0c (pv 2) (z0D z1P z01 (pv 3))) (pv 0)) z03))))) z03)))))
    (z07 (z0K (pv 4))))), ?_⟩
  walk_at "rs"
  intro l nl
  refine ⟨_, rfl, _, rfl, (z2a (by omega) (by omega)).1, (z2a (by omega) (by omega)).2, ?_⟩
  refine z23 (n := hg.toNat) (fun y σ H2 => ∃ ps rows v5, σ = [some (.ref a), some (.int k), some (.int wd), some (.int hg), some (.ref l), v5] /\ RowsB H H2 l ps rows /\ rows.length = y /\ ∀ r ∈ rows, r.length = wd.toNat /\ Cells r)
    ⟨[], [], none, rfl, z5w (Same.refl _) nl, rfl, (fun _ hr => nomatch hr)⟩ ?_ ?_
  . rintro y σ H2 hy ⟨ps, rows, v5, rfl, RB, hlen, hrow⟩
    have hpl := RB.rat.len
    refine ⟨_, rfl, .inl ⟨rfl, _, SqL.of RB.rat.lst⟩, _, rfl, _, rfl, (z2a (by omega) (by omega)).1, (z2a (by omega) (by omega)).2, ?_⟩
    refine z0v (n := wd.toNat) (fun i σ zs H3 => ∃ v r, σ = [v, some (.ref a), some (.int k), some (.int (0 + (y : Int)))] /\ zs = r.map z0M /\ r.length = i /\ Cells r /\ H3 = H2) ⟨none, [], rfl, rfl, rfl, (fun _ h => nomatch h), rfl⟩ (Nat.le_of_lt (z0G (by omega))) ?_ ?_ ?_ ?_ ?_
    . rintro i σ zs H3 ⟨v, r, _, rfl, hr, _⟩
      rw [List.length_map, hr]
    . rintro σ zs H3 _
      show wd.toNat <= wd.toNat
      exact Nat.le_refl _
    . intro i σ zs H3 hi _
      show i < wd.toNat
      exact hi
    . rintro i σ zs H3 x H' Z hi ⟨v, r, rfl, rfl, hr, hc, rfl⟩ ⟨rfl, rfl⟩ hZ
      walk_at "rs"
      refine ⟨a, ns, _, rfl, RB.same.seq hS, by omega, by omega, fun c hcell => ?_⟩
      refine hZ _ _ _ ⟨_, r ++ [c], rfl, by rw [List.map_append]; rfl, by rw [List.length_append, hr]; rfl, fun d hd => ?_, rfl⟩
      rcases List.mem_append.mp hd with e | e
      . exact hc d e
      . rw [List.mem_singleton.mp e]
        exact hcell
    . rintro σ zs H3 ⟨v, r, rfl, rfl, hr, hc, rfl⟩ p np
      have npl : p ≠ l := fun e => by
        have := RB.rat.lst
        rw [<- e, np] at this
        cases this
      have npp : p ∉ ps := fun hp => by
        obtain ⟨i, hi, e⟩ := List.mem_iff_getElem.mp hp
        have := RB.rat.row i p (rows[i]'(by omega)) (by rw [List.getElem?_eq_getElem hi, e]) (List.getElem?_eq_getElem _)
        rw [np] at this
        cases this
      have np0 : H p = none := RB.same.free np
      have RB1 := RB.put (o := .lst (r.map z0M)) np0 npl npp
      refine ⟨l, _, _, rfl, rfl, RB1.rat.lst, by rw [List.length_map]; exact z0G (by omega), ?_⟩
      refine ⟨ps ++ [p], rows ++ [r], _, rfl, RB1.push np0 npl upd_same, by rw [List.length_append, hlen]; rfl, fun r' hr' => ?_⟩
      rcases List.mem_append.mp hr' with e | e
      . exact hrow r' e
      . rw [List.mem_singleton.mp e]
        exact ⟨hr, hc⟩
  . rintro σ H2 ⟨ps, rows, v5, rfl, RB, hlen, hrow⟩
    refine ⟨_, rfl, ?_⟩
    exact q l ps rows H2 RB.same RB.fl (fun p hp => (RB.fp p hp).1) RB.rat ⟨hlen, by omega, by omega, by omega, by omega, hrow⟩
theorem sc_lawbits : FnScope ["_law_rows_here", "_law_paints", "_law_masks", "_law_row", "_law_paint", "_law_mask", "_law_cell_here"] ["_law_rows_here"] (z02 z19) := ⟨rfl, rfl, rfl, by decide +kernel, rfl, by decide +kernel, by decide +kernel⟩
theorem z50 {f : Addr} {fd : FuncData} (D : Df K mg "_law_bits" z19 ["_law_rows_here"] f fd) (B : Blt mg) :
    Ow P w K mg base "_law_bits" ["_law_rows_here"] 1 z2u := by
  refine D.ow (D.F.ok sc_lawbits (fun vs H Q E h => ?_) (fun cdv A outer s H vs Q E hr h => ?_))
  . obtain ⟨l, ps, rows, w, h, rfl, _⟩ := h
    rfl
  obtain ⟨l, ps, rows, wd, hg, rfl, RA, R, q⟩ := h
  refine ⟨_, (z04 (z0H (i := 1) sc_lawbits.nd rfl (Or.inl rfl) (z3B z03))
    (z04 (z0H (i := 2) sc_lawbits.nd rfl (Or.inl rfl) (z3B z03))
    (z04 (z1f PassesOwn.never rfl (z1I (pv 0)) (z0I (i := 3) sc_lawbits.nd rfl (Or.inl rfl)) (z04 (z0H (i := 4) sc_lawbits.nd rfl (Or.inl rfl) z01)
    (z04 (z0H (i := 5) sc_lawbits.nd rfl (Or.inl rfl) z01)
    (z04 (z1f PassesOwn.never rfl (z8n rfl B.f_reversed (z00 (pv 3) z03)) (z0I (i := 6) sc_lawbits.nd rfl (Or.inl rfl)) (z04 (z0H (i := 4) sc_lawbits.nd rfl (Or.inl rfl) (z0D z1P (pv 4) z01))
    (z04 (z0H (i := 5) sc_lawbits.nd rfl (Or.inl rfl) (z0D z1P (pv 5) z01))
    (z07 (z1C (z0S z2m (pv 6) z1q (z0Y _)) (z04 (z0H (i := 4) sc_lawbits.nd rfl (Or.inl rfl) (z0D z0c (pv 4) (pv 6)))
    (z07 (z0H (i := 5) sc_lawbits.nd rfl (Or.inl rfl) (z0D z0c (pv 5) z01)))) z0Q)))))
    (z04 (z2j (z6m PySem.F.plainAttrs_list PySem.F.slot_list_append PySem.F.type_list_append z1g (pv 1) (z00 (pv 4) z03)))
    (z07 (z2j (z6m PySem.F.plainAttrs_list PySem.F.slot_list_append PySem.F.type_list_append z1g (pv 2) (z00 (pv 5) z03)))))))))
    (z07 (z0K (z1Z (z00 (z0L z0E rfl B.f_len boot_len (z00 (z0C z0P (pv 0) z01 (fun _ _ => rfl)) z03)) (z00 (z0L z0E rfl B.f_len boot_len (z00 (pv 0) z03)) (z00 (z0m z0R rfl B.f_tuple boot_tuple (z00 (pv 1) z03)) (z00 (z0m z0R rfl B.f_tuple boot_tuple (z00 (pv 2) z03)) z03)))))))))), ?_⟩
  walk_at "rs"
  intro lp np
  walk_at "rs"
  intro lm nm
  have hlen := RA.len
  have hR := R.len
  have hR2 := R.h2
  have hpm : lp ≠ lm := fun e => by
    rw [<- e, upd_same] at nm
    cases nm
  have s1 : Same H (upd (upd H lp (.lst [])) lm (.lst [])) := (Same.new np).trans (Same.new nm)
  have nm0 : H lm = none := (Same.new np).free nm
  have g1 : (upd (upd H lp (.lst [])) lm (.lst [])) lp = some (.lst []) := by rw [z06 hpm, upd_same]
  have g2 : (upd (upd H lp (.lst [])) lm (.lst [])) lm = some (.lst []) := upd_same
  generalize upd (upd H lp (.lst [])) lm (.lst []) = H1 at s1 g1 g2
  refine ⟨_, rfl, l, rfl, ⟨_, SqL.of (s1 _ _ RA.lst)⟩, ?_⟩
  refine z2k (K := K) (a := l) (xs := ps.map V.ref) (fun i σ H2 => ∃ v3 v4 v5 v6, σ = [some (.ref l), some (.ref lp), some (.ref lm), v3, v4, v5, v6] /\ Same H H2 /\ H2 lp = some (.lst (((rows.take i).map z05).map V.int)) /\ H2 lm = some (.lst (((rows.take i).map z09).map V.int)))
    ⟨none, none, none, none, rfl, s1, g1, g2⟩ (fun i σ H2 _ ⟨_, _, _, _, _, s, _⟩ => SqL.of (s _ _ RA.lst)) ?_ ?_
  . rintro i x σ H2 hi ⟨v3, v4, v5, v6, rfl, s2, gp, gm⟩
    have hil : i < rows.length := by
      have := (List.getElem?_eq_some_iff.mp hi).1
      rw [List.length_map] at this
      omega
    obtain ⟨p, hp, gr⟩ := RA.at hil
    rw [List.getElem?_map, hp] at hi
    cases hi
    obtain ⟨hw, hc⟩ := R.row0 hil
    generalize hrow : rows[i]'hil = r at gr hw hc
    have hw2 := R.w2
    walk_at "rs"
    refine ⟨p, _, rfl, SqL.of (s2 _ _ gr), ?_⟩
    refine z7t (K := K) (a := p) (xs := r.map z0M) (fun j σ H3 => ∃ v6, σ = [some (.ref l), some (.ref lp), some (.ref lm), some (.ref p), some (.int (z05 (r.drop (r.length - j)))), some (.int (z09 (r.drop (r.length - j)))), v6] /\ H3 = H2)
      ⟨v6, by rw [Nat.sub_zero, List.drop_length]; rfl, rfl⟩ (fun j σ H3 _ ⟨_, _, e⟩ => by rw [e]; exact SqL.of (s2 _ _ gr)) ?_ ?_
    . rintro j x σ H3 hj hx ⟨v6, rfl, rfl⟩
      rw [List.length_map] at hj hx
      have hd : r.drop (r.length - (j + 1)) = r[r.length - 1 - j]'(by omega) :: r.drop (r.length - j) := by
        have e1 : r.length - (j + 1) = r.length - 1 - j := by omega
        have e2 : r.length - j = r.length - 1 - j + 1 := by omega
        rw [e1, e2]
        exact List.drop_eq_getElem_cons (by omega)
      rw [List.getElem?_map, List.getElem?_eq_getElem (by omega)] at hx
      have hx' : x = z0M (r[r.length - 1 - j]'(by omega)) := (Option.some.inj hx).symm
      subst hx'
      have hcell := hc _ (List.getElem_mem (show r.length - 1 - j < r.length by omega))
      generalize r[r.length - 1 - j]'(by omega) = c at hd hcell
      cases c with
      | none =>
        walk_at "rs"
        refine z9v (fun n => absurd rfl n) (fun _ => ?_)
        refine ⟨some (z0M none), ?_, rfl⟩
        rw [hd]
        show _ = [_, _, _, _, some (V.int ((none : Option Int).getD 0 + 16 * z05 (r.drop (r.length - j)))), some (V.int ((if (none : Option Int).isSome = true then 1 else 0) + 2 * z09 (r.drop (r.length - j)))), _]
        have e1 : (none : Option Int).getD 0 + 16 * z05 (r.drop (r.length - j)) = z05 (r.drop (r.length - j)) * 16 := by
          show (0 : Int) + _ = _
          omega
        have e2 : (if (none : Option Int).isSome = true then (1 : Int) else 0) + 2 * z09 (r.drop (r.length - j)) = z09 (r.drop (r.length - j)) * 2 := by
          rw [if_neg (by simp)]
          omega
        rw [e1, e2]
        rfl
      | some z =>
        walk_at "rs"
        refine ⟨some (z0M (some z)), ?_, rfl⟩
        rw [hd]
        show _ = [_, _, _, _, some (V.int ((some z : Option Int).getD 0 + 16 * z05 (r.drop (r.length - j)))), some (V.int ((if (some z : Option Int).isSome = true then 1 else 0) + 2 * z09 (r.drop (r.length - j)))), _]
        have e1 : (some z : Option Int).getD 0 + 16 * z05 (r.drop (r.length - j)) = z05 (r.drop (r.length - j)) * 16 + z := by
          show z + _ = _
          omega
        have e2 : (if (some z : Option Int).isSome = true then (1 : Int) else 0) + 2 * z09 (r.drop (r.length - j)) = z09 (r.drop (r.length - j)) * 2 + 1 := by
          rw [if_pos (show (some z).isSome = true from rfl)]
          omega
        rw [e1, e2]
        rfl
    . rintro σ H3 ⟨v6, rfl, rfl⟩
      rw [List.length_map, Nat.sub_self, List.drop_zero]
      have szp : (((rows.take i).map z05).map V.int).length < sizeLine := by
        rw [List.length_map, List.length_map, List.length_take]
        exact z0G (by omega)
      have szm : (((rows.take i).map z09).map V.int).length < sizeLine := by
        rw [List.length_map, List.length_map, List.length_take]
        exact z0G (by omega)
      refine ⟨_, rfl, .inl ⟨rfl, _, SqL.of gp⟩, _, rfl, lp, _, _, rfl, rfl, gp, szp, ?_⟩
      have gm' : (upd H3 lp (.lst (((rows.take i).map z05).map V.int ++ [.int (z05 r)]))) lm = some (.lst (((rows.take i).map z09).map V.int)) := by
        rw [z06 (Ne.symm hpm)]
        exact gm
      refine ⟨_, rfl, .inl ⟨rfl, _, SqL.of gm'⟩, _, rfl, lm, _, _, rfl, rfl, gm', szm, ?_⟩
      have tk : rows.take (i + 1) = rows.take i ++ [r] := by
        rw [List.take_succ, List.getElem?_eq_getElem hil, hrow]
        rfl
      refine ⟨_, _, _, _, rfl, (s2.put np).put nm0, ?_, ?_⟩
      . rw [z06 hpm, upd_same, tk, List.map_append, List.map_append]
        rfl
      . rw [upd_same, tk, List.map_append, List.map_append]
        rfl
  . rintro σ H2 ⟨v3, v4, v5, v6, rfl, s2, gp, gm⟩
    rw [List.length_map, hlen, List.take_length] at gp gm
    obtain ⟨p0, e0, g0⟩ := (RA.mono s2).atI R.ne
    refine ⟨_, rfl, l, _, 0, _, rfl, rfl, SqL.of (s2 _ _ RA.lst), e0, p0, _, rfl, .inl (SqL.of g0), _, rfl, l, _, rfl, .inl (SqL.of (s2 _ _ RA.lst)), _, rfl, lp, _, rfl, .inl ⟨SqL.of gp, fun t1 n1 => ?_⟩⟩
    refine ⟨_, rfl, lm, _, rfl, .inl ⟨SqL.of ((Same.new n1) _ _ gm), fun t2 n2 => ?_⟩⟩
    refine ⟨szV (by simp), fun t3 n3 => ?_⟩
    refine q t3 _ (((s2.trans (Same.new n1)).trans (Same.new n2)).trans (Same.new n3)) ⟨t1, t2, ?_, ?_, ?_⟩
    . rw [upd_same, List.length_map, List.length_map, hlen, (R.row0 R.ne).1]
    . exact (Same.new n3) _ _ ((Same.new n2) _ _ upd_same)
    . exact (Same.new n3) _ _ upd_same
theorem z4F : FnScope ["_law_found", "_law_due_here"] ["_law_found", "_law_due_here"] (z02 z0k) := ⟨rfl, rfl, rfl, by decide +kernel, rfl, by decide +kernel, by decide +kernel⟩
theorem z4G {f : Addr} {fd : FuncData} (D : Df K mg "_law_is_pic" z0k ["_law_found", "_law_due_here"] f fd)
    (O_lawwhole : Ow P w K mg base "_law_whole" ["_law_found"] 1 z5x) (B : Blt mg) :
    Ow P w K mg base "_law_is_pic" ["_law_found", "_law_due_here"] 2 z6H := by
  refine D.ow (D.F.ok z4F (fun vs H Q E h => ?_) (fun cdv A outer s H vs Q E hr h => ?_))
  . obtain ⟨p, d, w, h, rows, rfl, _⟩ := h
    rfl
  obtain ⟨p, d, wd, hg, rows, rfl, PC, PD, R, q⟩ := h
  refine ⟨_, (z04 (z1C (PW.pt (z5F (z21 (z1Y (z0L z1h rfl B.f_isinstance boot_isinstance (z00 (pv 0) (z00 (z20 (v := .ty "tuple") rfl B.f_tuple boot_tuple rfl) z03))))) (z3A (z0S z9h (z0L z0E rfl B.f_len boot_len (z00 (pv 0) z03)) z01 (z0Y _))))) (z07 (z0K z4g)) z0Q)
    (z04 (z1C (PW.pt (z5F (z21 (z1Y (z0L z1h rfl B.f_isinstance boot_isinstance (z00 (z0C z0J (pv 0) z01 (fun _ _ => rfl)) (z00 (z20 (v := .ty "tuple") rfl B.f_tuple boot_tuple rfl) z03))))) (z3A (z21 (z1Y (z0L z1h rfl B.f_isinstance boot_isinstance (z00 (z0C z0J (pv 0) z01 (fun _ _ => rfl)) (z00 (z20 (v := .ty "tuple") rfl B.f_tuple boot_tuple rfl) z03)))))))) (z07 (z0K z4g)) z0Q)
    (z04 (z1C (z21 (z1Y (z0L (z6r rfl) rfl B.f_all boot_all (z00 (z1o (locs := ["_law_number"]) (ix := []) rfl (BlkSc.look (dsc := z02 z0k) (N := ["_law_found", "_law_due_here"]) rfl rfl (by decide +kernel)) (z8Y (z0D z60 (z0D z60 (z1Z (z00 (z0C z0J (pv 0) z01 (fun _ _ => rfl)) (z00 (z0C z0J (pv 0) z01 (fun _ _ => rfl)) z03))) (z0C z0J (pv 0) z01 (fun _ _ => rfl))) (z0C z0J (pv 0) z01 (fun _ _ => rfl)))) (fun _ _ _ _ _ _ => (z0I (i := 0) (by decide +kernel : (["_law_number"] : List Str).Nodup) rfl (Or.inl rfl))) (fun _ _ _ _ _ _ => z0u) (fun _ _ _ _ _ _ => (z0A O_lawwhole hr rfl (z00 (pv 0) z03)))) z03)))) (z07 (z0K z4g)) z0Q)
    (z07 (z0K (z2n (z8r (z9p hr)) (pv 0) (pv 1) (z0Y _))))))), ?_⟩
  obtain ⟨pp, pm, g1, g2, g3⟩ := id PC
  obtain ⟨qp, qm, d1, d2, d3⟩ := id PD
  have hR := R.len
  have hR2 := R.h2
  refine ⟨_, rfl, _, "tuple", "tuple", rfl, by decide, by simp only [tyS, g1], _, rfl, z5f rfl ?_⟩
  refine ⟨_, rfl, p, _, rfl, .inr (SqT.of g1), rfl, _, rfl, z5f rfl ?_⟩
  refine ⟨_, rfl, p, _, 2, _, rfl, rfl, SqT.of g1, rfl, _, "tuple", "tuple", rfl, by decide, by simp only [tyS, g2], _, rfl, z5f rfl ?_⟩
  refine ⟨_, rfl, p, _, 3, _, rfl, rfl, SqT.of g1, rfl, _, "tuple", "tuple", rfl, by decide, by simp only [tyS, g3], _, rfl, z5f rfl ?_⟩
  have hp1 : (rows.map z05).map V.int ≠ [] := fun e => by
    have h0 := R.ne
    rw [List.map_eq_nil_iff, List.map_eq_nil_iff] at e
    rw [e] at h0
    exact absurd h0 (Nat.lt_irrefl _)
  have hm1 : (rows.map z09).map V.int ≠ [] := fun e => by
    have h0 := R.ne
    rw [List.map_eq_nil_iff, List.map_eq_nil_iff] at e
    rw [e] at h0
    exact absurd h0 (Nat.lt_irrefl _)
  refine ⟨_, rfl, p, _, 0, _, rfl, rfl, SqT.of g1, rfl, _, rfl, p, _, 1, _, rfl, rfl, SqT.of g1, rfl, szV (by simp), fun t1 n1 => ?_⟩
  have s1 : Same H (upd H t1 (.tup [.int (wd : Int), .int (rows.length : Int)])) := Same.new n1
  have k1 : (upd H t1 (.tup [.int (wd : Int), .int (rows.length : Int)])) t1 = some (.tup [.int (wd : Int), .int (rows.length : Int)]) := upd_same
  generalize upd H t1 (.tup [.int (wd : Int), .int (rows.length : Int)]) = H1 at s1 k1 ⊢
  refine ⟨_, rfl, p, _, 2, _, rfl, rfl, SqT.of (s1 _ _ g1), rfl, ?_⟩
  refine ⟨t1, pp, _, _, rfl, rfl, SqT.of k1, SqT.of (s1 _ _ g2), (by rw [List.length_map, List.length_map]; exact Nat.le_of_lt (z0G (by simp; omega))), (fun e => nomatch e), (fun _ e => absurd e hp1), fun _ _ t2 n2 => ?_⟩
  have s2 : Same H1 (upd H1 t2 (.tup ([.int (wd : Int), .int (rows.length : Int)] ++ (rows.map z05).map V.int))) := Same.new n2
  have k2 : (upd H1 t2 (.tup ([.int (wd : Int), .int (rows.length : Int)] ++ (rows.map z05).map V.int))) t2 = some (.tup ([.int (wd : Int), .int (rows.length : Int)] ++ (rows.map z05).map V.int)) := upd_same
  generalize upd H1 t2 (.tup ([.int (wd : Int), .int (rows.length : Int)] ++ (rows.map z05).map V.int)) = H2 at s2 k2 ⊢
  have u2 := s1.trans s2
  refine ⟨_, rfl, p, _, 3, _, rfl, rfl, SqT.of (u2 _ _ g1), rfl, ?_⟩
  refine ⟨t2, pm, _, _, rfl, rfl, SqT.of k2, SqT.of (u2 _ _ g3), (by rw [List.length_append, List.length_map, List.length_map, List.length_map, List.length_map]; exact Nat.le_of_lt (z0G (by simp; omega))), (fun e => nomatch e), (fun _ e => absurd e hm1), fun _ _ t3 n3 => ?_⟩
  have eall : [V.int (wd : Int), .int (rows.length : Int)] ++ (rows.map z05).map V.int ++ (rows.map z09).map V.int = (([(wd : Int), (rows.length : Int)] ++ rows.map z05) ++ rows.map z09).map V.int := by
    rw [List.map_append, List.map_append]
    rfl
  rw [eall]
  have hns : (([(wd : Int), (rows.length : Int)] ++ rows.map z05) ++ rows.map z09).length <= 200 := by
    rw [List.length_append, List.length_append, List.length_map, List.length_map]
    simp
    omega
  generalize ([(wd : Int), (rows.length : Int)] ++ rows.map z05) ++ rows.map z09 = ms at hns
  have s3 : Same H2 (upd H2 t3 (.tup (ms.map V.int))) := Same.new n3
  have k3 : (upd H2 t3 (.tup (ms.map V.int))) t3 = some (.tup (ms.map V.int)) := upd_same
  generalize upd H2 t3 (.tup (ms.map V.int)) = H3 at s3 k3 ⊢
  have u3 := u2.trans s3
  refine ⟨t3, rfl, ⟨_, SqT.of k3⟩, ?_⟩
  refine z0v (n := ms.length) (fun i σ zs H4 => ∃ v, σ = [v] /\ zs = (List.replicate i true).map V.bl /\ H4 = H3) ⟨none, rfl, rfl, rfl⟩ (Nat.le_of_lt (z0G (by omega))) ?_ ?_ ?_ ?_ ?_
  . rintro i σ zs H4 ⟨v, _, rfl, _⟩
    rw [List.length_map, List.length_replicate]
  . rintro σ zs H4 ⟨v, _, _, rfl⟩
    exact ⟨_, SqT.of k3, by rw [List.length_map]; exact Nat.le_refl _⟩
  . rintro i σ zs H4 hi ⟨v, _, _, rfl⟩
    exact ⟨_, .int (ms[i]'hi), SqT.of k3, by rw [List.getElem?_map, List.getElem?_eq_getElem hi]; rfl⟩
  . rintro i σ zs H4 x H' Z hi ⟨v, rfl, rfl, rfl⟩ ⟨rfl, hx⟩ hZ
    have e := hx _ (SqT.of k3)
    rw [List.getElem?_map, List.getElem?_eq_getElem hi] at e
    cases e
    refine ⟨_, rfl, _, "int", rfl, rfl, ?_⟩
    refine hZ _ _ _ ⟨_, rfl, ?_, rfl⟩
    rw [List.replicate_succ', List.map_append]
    rfl
  . rintro σ zs H4 ⟨v, rfl, rfl, rfl⟩ l' hl'
    refine ⟨l', List.replicate ms.length true, rfl, SqL.of upd_same, _, rfl, z5f (by simp) ?_⟩
    have u4 := u3.trans (Same.new (o := .lst ((List.replicate ms.length true).map V.bl)) hl')
    generalize upd H4 l' (.lst ((List.replicate ms.length true).map V.bl)) = H5 at u4 ⊢
    refine ⟨_, rfl, _, rfl, p, d, pp, pm, qp, qm, _, _, _, _, _, _, _, _, rfl, rfl, SqT.of (u4 _ _ g1), SqT.of (u4 _ _ d1), SqT.of (u4 _ _ g2), SqT.of (u4 _ _ g3), SqT.of (u4 _ _ d2), SqT.of (u4 _ _ d3), ?_⟩
    simp only [beq_self_eq_true, decide_true, Bool.and_self]
    exact q _ u4
theorem sc_paintof : FnScope ["row", "paint", "x", "cell"] ["row"] (z02 z14) := ⟨rfl, rfl, rfl, by decide +kernel, rfl, by decide +kernel, by decide +kernel⟩
theorem z51 {f : Addr} {fd : FuncData} (D : Df K mg "paint_of" z14 ["row"] f fd) (B : Blt mg) :
    Ow P w K mg base "paint_of" ["row"] 1 z5v := by
  refine D.ow (D.F.ok sc_paintof (fun vs H Q E h => ?_) (fun cdv A outer s H vs Q E hr h => ?_))
  . obtain ⟨l, r, rfl, _⟩ := h
    rfl
  obtain ⟨l, r, rfl, hl, hc, hn, q⟩ := h
  refine ⟨_, (z04 (z0H (i := 1) sc_paintof.nd rfl (Or.inl rfl) z01)
    (z04 (z1f PassesOwn.never rfl (z5l rfl B.f_enumerate (z00 (pv 0) z03)) (z5H (n := 2) rfl (z0d (z0I (i := 2) sc_paintof.nd rfl (Or.inl rfl)) (z0d (z0I (i := 3) sc_paintof.nd rfl (Or.inl rfl)) z22))) (z07 (z1C (z0S z2m (pv 3) z1q (z0Y _)) (z07 (z0H (i := 1) sc_paintof.nd rfl (Or.inl rfl) (z0D z5M (pv 1) (z0D z4N (pv 3) (z0D z1P z01 (pv 2)))))) z0Q)))
    (z07 (z0K (pv 1))))), ?_⟩
  refine ⟨_, rfl, l, rfl, ⟨_, SqL.of hl⟩, ?_⟩
  refine z4S (K := K) (a := l) (xs := r.map z0M) (fun i σ H2 => ∃ v w, σ = [some (.ref l), some (.int (z05 (r.take i))), v, w] /\ Same H H2) ⟨none, none, rfl, Same.refl _⟩ (fun i σ H2 _ ⟨_, _, _, s⟩ => SqL.of (s _ _ hl)) ?_ ?_
  . rintro i x σ H2 T hi ⟨v, w, rfl, s2⟩ nT
    have hil : i < r.length := by
      have := (List.getElem?_eq_some_iff.mp hi).1
      rwa [List.length_map] at this
    rw [List.getElem?_map, List.getElem?_eq_getElem hil] at hi
    have hx : x = z0M (r[i]'hil) := (Option.some.inj hi).symm
    subst hx
    have tk : r.take (i + 1) = r.take i ++ [r[i]'hil] := by
      rw [List.take_succ, List.getElem?_eq_getElem hil]
      rfl
    have hcell := hc _ (List.getElem_mem hil)
    have hpre : Cells (r.take i) := fun d hd => hc d (List.mem_of_mem_take hd)
    have hb := z1j hpre
    have hln : (r.take i).length = i := by rw [List.length_take]; omega
    have sn := z2Y (r[i]'hil) (r.take i)
    rw [<- tk, hln] at sn
    rw [hln] at hb
    generalize r[i]'hil = c at hcell sn
    have s3 : Same H2 (upd H2 T (.tup [.int i, z0M c])) := Same.new nT
    refine ⟨T, _, rfl, SqT.of upd_same, rfl, _, _, rfl, _, _, rfl, rfl, ?_⟩
    cases c with
    | none =>
      walk_at "rs"
      refine z9v (fun n => absurd rfl n) (fun _ => ?_)
      refine ⟨some (.int i), some (z0M none), ?_, s2.trans s3⟩
      have e : z05 (r.take (i + 1)) = z05 (r.take i) := by
        rw [sn]
        show _ + 0 * _ = _
        omega
      rw [e]
      rfl
    | some z =>
      obtain ⟨z0, z1⟩ := hcell z rfl
      walk_at "rs"
      refine ⟨some (.int i), some (z0M (some z)), ?_, s2.trans s3⟩
      have e : z05 (r.take (i + 1)) = Builtin.bitOr (z05 (r.take i)) (z * 2 ^ ((4 : Int) * (i : Int)).toNat) := by
        have e4 : ((4 : Int) * (i : Int)).toNat = 4 * i := by omega
        rw [e4, z3r hb.1 (by rw [z7M]; exact hb.2) z0, sn, z7M]
        rfl
      rw [e]
      rfl
  . rintro σ H2 ⟨v, w, rfl, s2⟩
    refine ⟨_, rfl, ?_⟩
    rw [List.length_map, List.take_length]
    exact q _ s2
theorem sc_maskof : FnScope ["row", "mask", "x", "cell"] ["row"] (z02 z1M) := ⟨rfl, rfl, rfl, by decide +kernel, rfl, by decide +kernel, by decide +kernel⟩
theorem z6c {f : Addr} {fd : FuncData} (D : Df K mg "mask_of" z1M ["row"] f fd) (B : Blt mg) :
    Ow P w K mg base "mask_of" ["row"] 1 z7O := by
  refine D.ow (D.F.ok sc_maskof (fun vs H Q E h => ?_) (fun cdv A outer s H vs Q E hr h => ?_))
  . obtain ⟨l, r, rfl, _⟩ := h
    rfl
  obtain ⟨l, r, rfl, hl, hc, hn, q⟩ := h
  refine ⟨_, (z04 (z0H (i := 1) sc_maskof.nd rfl (Or.inl rfl) z01)
    (z04 (z1f PassesOwn.never rfl (z5l rfl B.f_enumerate (z00 (pv 0) z03)) (z5H (n := 2) rfl (z0d (z0I (i := 2) sc_maskof.nd rfl (Or.inl rfl)) (z0d (z0I (i := 3) sc_maskof.nd rfl (Or.inl rfl)) z22))) (z07 (z1C (z0S z2m (pv 3) z1q (z0Y _)) (z07 (z0H (i := 1) sc_maskof.nd rfl (Or.inl rfl) (z0D z5M (pv 1) (z0D z4N z01 (pv 2))))) z0Q)))
    (z07 (z0K (pv 1))))), ?_⟩
  refine ⟨_, rfl, l, rfl, ⟨_, SqL.of hl⟩, ?_⟩
  refine z4S (K := K) (a := l) (xs := r.map z0M) (fun i σ H2 => ∃ v w, σ = [some (.ref l), some (.int (z09 (r.take i))), v, w] /\ Same H H2) ⟨none, none, rfl, Same.refl _⟩ (fun i σ H2 _ ⟨_, _, _, s⟩ => SqL.of (s _ _ hl)) ?_ ?_
  . rintro i x σ H2 T hi ⟨v, w, rfl, s2⟩ nT
    have hil : i < r.length := by
      have := (List.getElem?_eq_some_iff.mp hi).1
      rwa [List.length_map] at this
    rw [List.getElem?_map, List.getElem?_eq_getElem hil] at hi
    have hx : x = z0M (r[i]'hil) := (Option.some.inj hi).symm
    subst hx
    have tk : r.take (i + 1) = r.take i ++ [r[i]'hil] := by
      rw [List.take_succ, List.getElem?_eq_getElem hil]
      rfl
    have hb := z1b (r.take i)
    have hln : (r.take i).length = i := by rw [List.length_take]; omega
    have sn := z3K (r[i]'hil) (r.take i)
    rw [<- tk, hln] at sn
    rw [hln] at hb
    generalize r[i]'hil = c at sn
    have s3 : Same H2 (upd H2 T (.tup [.int i, z0M c])) := Same.new nT
    refine ⟨T, _, rfl, SqT.of upd_same, rfl, _, _, rfl, _, _, rfl, rfl, ?_⟩
    cases c with
    | none =>
      walk_at "rs"
      refine z9v (fun n => absurd rfl n) (fun _ => ?_)
      refine ⟨some (.int i), some (z0M none), ?_, s2.trans s3⟩
      have e : z09 (r.take (i + 1)) = z09 (r.take i) := by
        rw [sn, if_neg (by simp)]
        omega
      rw [e]
      rfl
    | some z =>
      walk_at "rs"
      refine ⟨some (.int i), some (z0M (some z)), ?_, s2.trans s3⟩
      have e : z09 (r.take (i + 1)) = Builtin.bitOr (z09 (r.take i)) ((1 : Int) * 2 ^ (i : Int).toNat) := by
        rw [Int.toNat_natCast, z3r hb.1 hb.2 (by decide), sn, if_pos (show (some z).isSome = true from rfl)]
      rw [e]
      rfl
  . rintro σ H2 ⟨v, w, rfl, s2⟩
    refine ⟨_, rfl, ?_⟩
    rw [List.length_map, List.take_length]
    exact q _ s2
theorem sc_filled : FnScope ["wide", "high", "cell", "row"] ["wide", "high", "cell"] (z02 z1N) := ⟨rfl, rfl, rfl, by decide +kernel, rfl, by decide +kernel, by decide +kernel⟩
theorem z52 {f T : Addr} {fd : FuncData} (D : DfD K mg "filled" z1N ["wide", "high", "cell"] f fd T)
    (O_paintof : Ow P w K mg base "paint_of" ["row"] 1 z5v)
    (O_maskof : Ow P w K mg base "mask_of" ["row"] 1 z7O) (B : Blt mg) :
    FnOk P w K mg base CX0 2 f fd ["wide", "high", "cell"] z2w := by
  refine D.F.ok sc_filled (fun vs H Q E h => ?_) (fun cdv A outer s H vs Q E hr h => ?_)
  . obtain ⟨w, h, c, rfl, _⟩ := h
    rfl
  obtain ⟨wd, hg, c, rfl, w1, w2, h1, h2, hc, q⟩ := h
  refine ⟨_, (z04 (z0H (i := 3) sc_filled.nd rfl (Or.inl rfl) (z0D z8g (z3B (z00 (pv 2) z03)) (pv 0)))
    (z07 (z0K (z1Z (z00 (pv 0) (z00 (pv 1) (z00 (z0D z5y (z1Z (z00 (z0A O_paintof hr rfl (z00 (pv 3) z03)) z03)) (pv 1)) (z00 (z0D z5y (z1Z (z00 (z0A O_maskof hr rfl (z00 (pv 3) z03)) z03)) (pv 1)) z03)))))))), ?_⟩
  walk_at "rs"
  intro l1 n1
  refine ⟨_, rfl, l1, _, _, rfl, rfl, upd_same, by omega, by omega, ?_, fun l2 n2 => ?_⟩
  . show 1 * wd.toNat <= sizeLine
    exact Nat.le_of_lt (z0G (by omega))
  rw [z4U]
  have s2 : Same H (upd (upd H l1 (.lst [z0M c])) l2 (.lst (List.replicate wd.toNat (z0M c)))) := (Same.new n1).trans (Same.new n2)
  have g2 : (upd (upd H l1 (.lst [z0M c])) l2 (.lst (List.replicate wd.toNat (z0M c)))) l2 = some (.lst ((List.replicate wd.toNat c).map z0M)) := by rw [upd_same, List.map_replicate]
  generalize upd (upd H l1 (.lst [z0M c])) l2 (.lst (List.replicate wd.toNat (z0M c))) = H2 at s2 g2
  refine ⟨_, rfl, _, rfl, _, rfl, l2, _, rfl, g2, z3M hc _, by rw [List.length_replicate]; omega, fun H3 s3 => ⟨szV (by simp), fun t1 m1 => ?_⟩⟩
  refine ⟨_, rfl, t1, _, _, rfl, rfl, upd_same, h1, by omega, fun p1 H4 s4 g4 => ?_⟩
  have s4' := (s3.trans (Same.new m1)).trans s4
  refine ⟨_, rfl, l2, _, rfl, s4' _ _ g2, z3M hc _, by rw [List.length_replicate]; omega, fun H5 s5 => ⟨szV (by simp), fun t2 m2 => ?_⟩⟩
  refine ⟨_, rfl, t2, _, _, rfl, rfl, upd_same, h1, by omega, fun p2 H6 s6 g6 => ?_⟩
  refine ⟨szV (by simp), fun t3 m3 => ?_⟩
  have s6' := (s5.trans (Same.new m2)).trans s6
  refine q t3 _ (((s2.trans s4').trans s6').trans (Same.new m3)) ⟨p1, p2, ?_, ?_, ?_⟩
  . rw [upd_same, List.length_replicate]
    have e1 : ((wd.toNat : Nat) : Int) = wd := by omega
    have e2 : ((hg.toNat : Nat) : Int) = hg := by omega
    rw [e1, e2]
  . rw [List.map_replicate, List.map_replicate]
    exact (Same.new m3) _ _ (s6' _ _ g4)
  . rw [List.map_replicate, List.map_replicate]
    exact (Same.new m3) _ _ g6
theorem sc_paintroom : FnScope ["wide", "mask", "room", "x"] ["wide", "mask"] (z02 z0g) := ⟨rfl, rfl, rfl, by decide +kernel, rfl, by decide +kernel, by decide +kernel⟩
theorem z3g {f : Addr} {fd : FuncData} (D : Df K mg "paint_room" z0g ["wide", "mask"] f fd) (B : Blt mg) :
    Ow P w K mg base "paint_room" ["wide", "mask"] 1 z7P := by
  refine D.ow (D.F.ok sc_paintroom (fun vs H Q E h => ?_) (fun cdv A outer s H vs Q E hr h => ?_))
  . obtain ⟨w, m, rfl, _⟩ := h
    rfl
  obtain ⟨wd, m, rfl, w0, w1, m0, q⟩ := h
  refine ⟨_, (z04 (z0H (i := 2) sc_paintroom.nd rfl (Or.inl rfl) z01)
    (z04 (z1f PassesOwn.never rfl (z0e rfl B.f_range (z00 (pv 0) z03)) (z0I (i := 3) sc_paintroom.nd rfl (Or.inl rfl)) (z07 (z1C (z0S z2l (z0D z5L (z0D z7F (pv 1) (pv 3)) z01) z01 (z0Y _)) (z07 (z0H (i := 2) sc_paintroom.nd rfl (Or.inl rfl) (z0D z5M (pv 2) (z0D z4N z01 (z0D z1P z01 (pv 3)))))) z0Q)))
    (z07 (z0K (pv 2))))), ?_⟩
  refine ⟨_, rfl, _, rfl, (z2a (by omega) (by omega)).1, (z2a (by omega) (by omega)).2, ?_⟩
  refine z23 (n := wd.toNat) (fun x σ H2 => ∃ v, σ = [some (.int wd), some (.int m), some (.int (roomI x m)), v] /\ H2 = H) ⟨none, rfl, rfl⟩ ?_ ?_
  . rintro x σ H2 hx ⟨v, rfl, rfl⟩
    have hr := z2x x m
    have sn := z2b x m
    have e0 : (0 + (x : Int)).toNat = x := by omega
    have e4 : (4 * (0 + (x : Int))).toNat = 4 * x := by omega
    have ea : Builtin.bitAnd (m / 2 ^ (0 + (x : Int)).toNat) 1 = m / 2 ^ x % 2 := by
      rw [e0, zBT]
    walk_at "rs"
    refine ⟨by omega, ?_⟩
    walk_at "rs"
    refine z2Q (fun c => ?_) (fun c => ?_)
    . have c' : m / 2 ^ x % 2 = 1 := by
        rw [<- ea]
        injection c
      walk_at "rs"
      refine ⟨some (.int (0 + (x : Int))), ?_, rfl⟩
      rw [if_pos c'] at sn
      have e : roomI (x + 1) m = Builtin.bitOr (roomI x m) (15 * 2 ^ (4 * (0 + (x : Int))).toNat) := by
        rw [e4, z3r hr.1 (by rw [z7M]; exact hr.2) (by decide), sn, z7M]
      rw [e]
      rfl
    . have c' : ¬ m / 2 ^ x % 2 = 1 := fun e => c (by
        rw [<- ea] at e
        show V.int (Builtin.bitAnd (m / 2 ^ (0 + (x : Int)).toNat) 1) = V.int 1
        rw [e])
      refine ⟨some (.int (0 + (x : Int))), ?_, rfl⟩
      rw [if_neg c'] at sn
      have e : roomI (x + 1) m = roomI x m := by
        rw [sn]
        omega
      rw [e]
      rfl
  . rintro σ H2 ⟨v, rfl, rfl⟩
    exact ⟨_, rfl, q⟩
theorem z3h : FnScope ["rows", "y"] ["rows", "y"] (z02 z0h) := ⟨rfl, rfl, rfl, by decide +kernel, rfl, by decide +kernel, by decide +kernel⟩
theorem z3i {f : Addr} {fd : FuncData} (D : Df K mg "bits_of_row" z0h ["rows", "y"] f fd) (B : Blt mg) :
    Ow P w K mg base "bits_of_row" ["rows", "y"] 1 z3W := by
  refine D.ow (D.F.ok z3h (fun vs H Q E h => ?_) (fun cdv A outer s H vs Q E hr h => ?_))
  . obtain ⟨t, zs, y, rfl, _⟩ := h
    rfl
  obtain ⟨t, zs, y, rfl, ht, q⟩ := h
  refine ⟨_, (z07 (z0K (z4L (z2o z5R z5Q z01 (pv 1) (z0L z0E rfl B.f_len boot_len (z00 (pv 0) z03))) (z0C z0J (pv 0) (pv 1) (fun _ _ => rfl)) z01))), ?_⟩
  walk_at "rs"
  refine z2Q (fun c1 => ?_) (fun c1 => ⟨_, rfl, z7L ?_⟩)
  . refine ⟨_, rfl, t, _, rfl, .inr (SqT.of ht), ?_⟩
    rw [List.length_map]
    walk_at "rs"
    refine z2Q (fun c2 => ?_) (fun c2 => ?_)
    . have hy : y.toNat < zs.length := by omega
      have e : zAt zs y = zs[y.toNat]'hy := by
        unfold zAt
        rw [if_pos c1, List.getElem?_eq_getElem hy]
        rfl
      rw [e] at q
      exact ⟨_, rfl, _, rfl, t, _, _, _, rfl, rfl, SqT.of ht, z8p c1 (List.getElem?_eq_getElem hy), q⟩
    . have e : zAt zs y = 0 := by
        unfold zAt
        rw [if_pos c1, List.getElem?_eq_none (by omega)]
        rfl
      rw [e] at q
      exact q
  . have e : zAt zs y = 0 := by
      unfold zAt
      rw [if_neg c1]
    rw [e] at q
    exact q
theorem sc_cutbits : FnScope ["bits", "at", "many", "moved"] ["bits", "at", "many"] (z02 z15) := ⟨rfl, rfl, rfl, by decide +kernel, rfl, by decide +kernel, by decide +kernel⟩
theorem z53 {f : Addr} {fd : FuncData} (D : Df K mg "cut_bits" z15 ["bits", "at", "many"] f fd) (B : Blt mg) :
    Ow P w K mg base "cut_bits" ["bits", "at", "many"] 1 z3X := by
  refine D.ow (D.F.ok sc_cutbits (fun vs H Q E h => ?_) (fun cdv A outer s H vs Q E hr h => ?_))
  . obtain ⟨b, a, m, rfl, _⟩ := h
    rfl
  obtain ⟨b, a, m, rfl, b0, b1, a0, a1, m0, m1, q⟩ := h
  refine ⟨_, (z04 (z0H (i := 3) sc_cutbits.nd rfl (Or.inl rfl) (z4L (z0S z8b (pv 1) z01 (z0Y _)) (z0D z7F (pv 0) (pv 1)) (z0D zBX (pv 0) (z5K z4O (pv 1)))))
    (z07 (z0K (z0D z5L (pv 3) (z0D z1S (z0D z4N z01 (pv 2)) z01))))), ?_⟩
  unfold z7Q at q
  walk_at "rs"
  refine z2Q (fun c1 => ?_) (fun c1 => ?_)
  . rw [if_pos c1] at q
    walk_at "rs"
    refine ⟨c1, ?_⟩
    walk_at "rs"
    have e := z6C (m := m.toNat) (Int.ediv_nonneg b0 (Int.le_of_lt (z1i a.toNat)))
    rw [<- e] at q
    exact q
  . rw [if_neg c1] at q
    walk_at "rs"
    have e := z6C (m := m.toNat) (Int.mul_nonneg b0 (Int.le_of_lt (z1i (-a).toNat)))
    rw [<- e] at q
    exact q
theorem sc_cut : FnScope ["pic", "x", "y", "wide", "high", "paints", "masks"] ["pic", "x", "y", "wide", "high"] (z02 z37) := ⟨rfl, rfl, rfl, by decide +kernel, rfl, by decide +kernel, by decide +kernel⟩
theorem z9C {f : Addr} {fd : FuncData} (D : Df K mg "cut" z37 ["pic", "x", "y", "wide", "high"] f fd)
    (Od2_filled : Owd P w K mg base "filled" ["wide", "high", "cell"] [.non] 2 z2w)
    (O_bitsofrow : Ow P w K mg base "bits_of_row" ["rows", "y"] 1 z3W)
    (O_cutbits : Ow P w K mg base "cut_bits" ["bits", "at", "many"] 1 z3X) (B : Blt mg) :
    Ow P w K mg base "cut" ["pic", "x", "y", "wide", "high"] 3 z81 := by
  refine D.ow (D.F.ok sc_cut (fun vs H Q E h => ?_) (fun cdv A outer s H vs Q E hr h => ?_))
  . obtain ⟨p, x, y, w, h, rows, w', h', rfl, _⟩ := h
    rfl
  obtain ⟨p, x, y, wd, hg, rows, w', h', rfl, PC, R, w1, w2, h1, h2, q⟩ := h
  obtain ⟨pp, pm, g1, g2, g3⟩ := id PC
  refine ⟨_, (z04 (z1C (PW.pt (z5F (z0S z5R (pv 1) (z5K z4O (pv 3)) (z0Y _)) (z3A (z0S z8b (pv 1) (z0C z0J (pv 0) z01 (fun _ _ => rfl)) (z0Y _))))) (z07 (z0K (z7x Od2_filled hr rfl (z00 (pv 3) (z00 (pv 4) z03))))) z0Q)
    (z04 (z1J (i := 5) (locs := ["j"]) (ix := [0, 2, 1, 3]) rfl sc_cut.nd rfl rfl (BlkSc.look (dsc := z02 z37) (N := ["pic", "x", "y", "wide", "high", "paints", "masks"]) rfl rfl (by decide +kernel)) (z0e rfl B.f_range (z00 (pv 4) z03)) (fun _ _ _ _ _ _ => (z0I (i := 0) (by decide +kernel : (["j", "pic", "y", "x", "wide"] : List Str).Nodup) rfl (Or.inl rfl))) (fun _ _ _ _ _ _ => z0u) (fun _ _ _ _ _ _ => (z0A O_cutbits hr rfl (z00 (z0A O_bitsofrow hr rfl (z00 (z0C z1F (pv 1) z01 (fun _ _ => rfl)) (z00 (z0D z0c (pv 2) (pv 0)) z03))) (z00 (z0D z1P z01 (pv 3)) (z00 (z0D z1P z01 (pv 4)) z03))))) rfl)
    (z04 (z1J (i := 6) (locs := ["j"]) (ix := [0, 2, 1, 3]) rfl sc_cut.nd rfl rfl (BlkSc.look (dsc := z02 z37) (N := ["pic", "x", "y", "wide", "high", "paints", "masks"]) rfl rfl (by decide +kernel)) (z0e rfl B.f_range (z00 (pv 4) z03)) (fun _ _ _ _ _ _ => (z0I (i := 0) (by decide +kernel : (["j", "pic", "y", "x", "wide"] : List Str).Nodup) rfl (Or.inl rfl))) (fun _ _ _ _ _ _ => z0u) (fun _ _ _ _ _ _ => (z0A O_cutbits hr rfl (z00 (z0A O_bitsofrow hr rfl (z00 (z0C z1F (pv 1) z01 (fun _ _ => rfl)) (z00 (z0D z0c (pv 2) (pv 0)) z03))) (z00 (pv 3) (z00 (pv 4) z03))))) rfl)
    (z07 (z0K (z1Z (z00 (pv 3) (z00 (pv 4) (z00 (z0m z0R rfl B.f_tuple boot_tuple (z00 (pv 5) z03)) (z00 (z0m z0R rfl B.f_tuple boot_tuple (z00 (pv 6) z03)) z03)))))))))), ?_⟩
  have e1 : ((w'.toNat : Nat) : Int) = w' := by omega
  have e2 : ((h'.toNat : Nat) : Int) = h' := by omega
  have off : (x <= -w' \/ (wd : Int) <= x) -> zAO (z6k z2w [V.non] E0 (z7g (z9E 3) (z7g (z9E 4) zAS))) { nx := fun x H' => Q V.non H', rt := Q } (L2.start ["pic", "x", "y", "wide", "high", "paints", "masks"] [V.ref p, V.int x, V.int y, V.int w', V.int h']) H := fun hx => by
    refine ⟨_, rfl, _, rfl, w', h', none, rfl, w1, w2, h1, h2, (fun _ e => nomatch e), fun r H2 s2 PF => ?_⟩
    refine q r H2 s2 (PF.of ?_)
    rw [z80 R (by rw [e1]; exact hx)]
  walk_at "rs"
  refine z2Q (fun c => z8j (off (.inl c))) (fun c1 => ?_)
  refine ⟨_, rfl, _, rfl, p, _, 0, _, rfl, rfl, SqT.of g1, rfl, ?_⟩
  walk_at "rs"
  refine z2Q (fun c => off (.inr c)) (fun c2 => ?_)
  have hw2 := R.w2
  refine ⟨_, rfl, _, rfl, (z2a (by omega) (by omega)).1, (z2a (by omega) (by omega)).2, ?_⟩
  refine z0v (n := h'.toNat) (fun i σ zs H2 => ∃ v, σ = [v, some (.ref p), some (.int y), some (.int x), some (.int w')] /\ zs = ((List.range i).map fun (j : Nat) => z05 (z3S rows x (y + (j : Int)) w'.toNat)).map V.int /\ H2 = H)
    ⟨none, rfl, rfl, rfl⟩ (Nat.le_of_lt (z0G (by omega))) ?_ ?_ ?_ ?_ ?_
  . rintro i σ zs H2 ⟨v, _, rfl, _⟩
    rw [List.length_map, List.length_map, List.length_range]
  . rintro σ zs H2 _
    exact Nat.le_refl _
  . intro i σ zs H2 hi _
    exact hi
  . rintro i σ zs H2 z H' Z hi ⟨v, rfl, rfl, rfl⟩ ⟨rfl, rfl⟩ hZ
    have bd := z3V R (y + (0 + (i : Int)))
    refine ⟨_, rfl, p, _, 2, _, rfl, rfl, SqT.of g1, rfl, ?_⟩
    walk_at "rs"
    refine ⟨pp, _, _, rfl, g2, ?_⟩
    walk_at "rs"
    refine ⟨_, _, _, rfl, bd.1, bd.2, by omega, by omega, by omega, by omega, ?_⟩
    refine hZ _ _ _ ⟨_, rfl, ?_, rfl⟩
    rw [z2d, List.map_append, z4o R, e1]
    have e0 : y + (0 + (i : Int)) = y + (i : Int) := by omega
    rw [e0]
    rfl
  rintro σ zs H2 ⟨v, rfl, rfl, rfl⟩ l1 n1
  have s1 : Same H2 (upd H2 l1 (.lst (((List.range h'.toNat).map fun (j : Nat) => z05 (z3S rows x (y + (j : Int)) w'.toNat)).map V.int))) := Same.new n1
  have u1 : (upd H2 l1 (.lst (((List.range h'.toNat).map fun (j : Nat) => z05 (z3S rows x (y + (j : Int)) w'.toNat)).map V.int))) l1 = _ := upd_same
  generalize upd H2 l1 (.lst (((List.range h'.toNat).map fun (j : Nat) => z05 (z3S rows x (y + (j : Int)) w'.toNat)).map V.int)) = H3 at s1 u1
  refine ⟨_, rfl, _, rfl, (z2a (by omega) (by omega)).1, (z2a (by omega) (by omega)).2, ?_⟩
  refine z0v (n := h'.toNat) (fun i σ zs H4 => ∃ v, σ = [v, some (.ref p), some (.int y), some (.int x), some (.int w')] /\ zs = ((List.range i).map fun (j : Nat) => z09 (z3S rows x (y + (j : Int)) w'.toNat)).map V.int /\ H4 = H3)
    ⟨none, rfl, rfl, rfl⟩ (Nat.le_of_lt (z0G (by omega))) ?_ ?_ ?_ ?_ ?_
  . rintro i σ zs H4 ⟨v, _, rfl, _⟩
    rw [List.length_map, List.length_map, List.length_range]
  . rintro σ zs H4 _
    exact Nat.le_refl _
  . intro i σ zs H4 hi _
    exact hi
  . rintro i σ zs H4 z H' Z hi ⟨v, rfl, rfl, rfl⟩ ⟨rfl, rfl⟩ hZ
    have bd := z40 R (y + (0 + (i : Int)))
    refine ⟨_, rfl, p, _, 3, _, rfl, rfl, SqT.of (s1 _ _ g1), rfl, ?_⟩
    walk_at "rs"
    refine ⟨pm, _, _, rfl, s1 _ _ g3, ?_⟩
    walk_at "rs"
    refine ⟨_, _, _, rfl, bd.1, bd.2, by omega, by omega, by omega, by omega, ?_⟩
    refine hZ _ _ _ ⟨_, rfl, ?_, rfl⟩
    rw [z2d, List.map_append, z6B, e1]
    have e0 : y + (0 + (i : Int)) = y + (i : Int) := by omega
    rw [e0]
    rfl
  rintro σ zs H4 ⟨v, rfl, rfl, rfl⟩ l2 n2
  have n12 : l1 ≠ l2 := fun e => by rw [<- e, u1] at n2; cases n2
  refine ⟨_, rfl, _, rfl, _, rfl, l1, _, rfl, .inl ⟨SqL.of ((Same.new n2) _ _ u1), fun t1 m1 => ?_⟩⟩
  refine ⟨_, rfl, l2, _, rfl, .inl ⟨SqL.of ((Same.new m1) _ _ upd_same), fun t2 m2 => ?_⟩⟩
  walk_at "rs"
  intro t3 m3
  refine q t3 _ ((((s1.trans (Same.new n2)).trans (Same.new m1)).trans (Same.new m2)).trans (Same.new m3)) ⟨t1, t2, ?_, ?_, ?_⟩
  . rw [upd_same, z1K, e1, e2]
  . refine (Same.new m3) _ _ ((Same.new m2) _ _ (upd_same.trans ?_))
    unfold cutRows
    rw [List.map_map (g := z05)]
    rfl
  . refine (Same.new m3) _ _ (upd_same.trans ?_)
    unfold cutRows
    rw [List.map_map (g := z09)]
    rfl
theorem z3j : FnScope ["wide", "lower", "upper", "mask"] ["wide", "lower", "upper", "mask"] (z02 z0i) := ⟨rfl, rfl, rfl, by decide +kernel, rfl, by decide +kernel, by decide +kernel⟩
theorem z3k {f : Addr} {fd : FuncData} (D : Df K mg "laid_paint" z0i ["wide", "lower", "upper", "mask"] f fd)
    (O_paintroom : Ow P w K mg base "paint_room" ["wide", "mask"] 1 z7P) (B : Blt mg) :
    Ow P w K mg base "laid_paint" ["wide", "lower", "upper", "mask"] 2 z2C := by
  refine D.ow (D.F.ok z3j (fun vs H Q E h => ?_) (fun cdv A outer s H vs Q E hr h => ?_))
  . obtain ⟨w, lo, up, m, rfl, _⟩ := h
    rfl
  obtain ⟨w, lo, up, m, rfl, w0, w1, m0, q⟩ := h
  refine ⟨_, (z07 (z0K (z0D z5M (z0D z5L (pv 1) (z5K z8Z (z0A O_paintroom hr rfl (z00 (pv 0) (z00 (pv 3) z03))))) (pv 2)))), ?_⟩
  walk_at "rs"
  refine ⟨_, _, rfl, w0, w1, m0, ?_⟩
  walk_at "rs"
  exact q
theorem sc_laid : FnScope ["under", "over", "x", "y", "upper", "paints", "masks"] ["under", "over", "x", "y"] (z02 z1n) := ⟨rfl, rfl, rfl, by decide +kernel, rfl, by decide +kernel, by decide +kernel⟩
theorem z7D {f T : Addr} {fd : FuncData} (D : Df2 K mg "laid" z1n ["under", "over", "x", "y"] f fd T (0) (0))
    (O_cut : Ow P w K mg base "cut" ["pic", "x", "y", "wide", "high"] 3 z81)
    (O_laidpaint : Ow P w K mg base "laid_paint" ["wide", "lower", "upper", "mask"] 2 z2C) (B : Blt mg) :
    FnOk P w K mg base CX0 4 f fd ["under", "over", "x", "y"] z7T := by
  refine D.F.ok sc_laid (fun vs H Q E h => ?_) (fun cdv A outer s H vs Q E hr h => ?_)
  . obtain ⟨p, o, x, y, w, h, w2, h2, rows, rows2, rfl, _⟩ := h
    rfl
  obtain ⟨p, o, x, y, wd, hg, wo, ho, rows, rows2, rfl, PC, R, PO, RO, q⟩ := h
  obtain ⟨pp, pm, g1, g2, g3⟩ := id PC
  have hR := R.len
  have hR2 := R.h2
  have hw1 := R.w1
  have hw2 := R.w2
  have hh1 := R.h1
  rw [hR] at g1
  refine ⟨_, (z04 (z0H (i := 4) sc_laid.nd rfl (Or.inl rfl) (z0A O_cut hr rfl (z00 (pv 1) (z00 (z5K z4O (pv 2)) (z00 (z5K z4O (pv 3)) (z00 (z0C z0J (pv 0) z01 (fun _ _ => rfl)) (z00 (z0C z0J (pv 0) z01 (fun _ _ => rfl)) z03)))))))
    (z04 (z1J (i := 5) (locs := ["lower", "paint", "mask"]) (ix := [0]) rfl sc_laid.nd rfl rfl (BlkSc.look (dsc := z02 z1n) (N := ["under", "over", "x", "y", "upper", "paints", "masks"]) rfl rfl (by decide +kernel)) (z83 rfl B.f_zip (z00 (z0C z0J (pv 0) z01 (fun _ _ => rfl)) (z00 (z0C z0J (pv 4) z01 (fun _ _ => rfl)) (z00 (z0C z0J (pv 4) z01 (fun _ _ => rfl)) z03)))) (fun _ _ _ _ _ _ => (z3q (n := 3) rfl (z0d (z0I (i := 0) (by decide +kernel : (["lower", "paint", "mask", "under"] : List Str).Nodup) rfl (Or.inl rfl)) (z0d (z0I (i := 1) (by decide +kernel : (["lower", "paint", "mask", "under"] : List Str).Nodup) rfl (Or.inl rfl)) (z0d (z0I (i := 2) (by decide +kernel : (["lower", "paint", "mask", "under"] : List Str).Nodup) rfl (Or.inl rfl)) z22))))) (fun _ _ _ _ _ _ => z0u) (fun _ _ _ _ _ _ => (z0A O_laidpaint hr rfl (z00 (z0C z1F (pv 3) z01 (fun _ _ => rfl)) (z00 (pv 0) (z00 (pv 1) (z00 (pv 2) z03)))))) rfl)
    (z04 (z1J (i := 6) (locs := ["lower", "mask"]) (ix := []) rfl sc_laid.nd rfl rfl (BlkSc.look (dsc := z02 z1n) (N := ["under", "over", "x", "y", "upper", "paints", "masks"]) rfl rfl (by decide +kernel)) (z8o rfl B.f_zip (z00 (z0C z0J (pv 0) z01 (fun _ _ => rfl)) (z00 (z0C z0J (pv 4) z01 (fun _ _ => rfl)) z03))) (fun _ _ _ _ _ _ => (z3q (n := 2) rfl (z0d (z0I (i := 0) (by decide +kernel : (["lower", "mask"] : List Str).Nodup) rfl (Or.inl rfl)) (z0d (z0I (i := 1) (by decide +kernel : (["lower", "mask"] : List Str).Nodup) rfl (Or.inl rfl)) z22)))) (fun _ _ _ _ _ _ => z0u) (fun _ _ _ _ _ _ => (z0D z5M (pv 0) (pv 1))) rfl)
    (z07 (z0K (z1Z (z00 (z0C z0J (pv 0) z01 (fun _ _ => rfl)) (z00 (z0C z0J (pv 0) z01 (fun _ _ => rfl)) (z00 (z0m z0R rfl B.f_tuple boot_tuple (z00 (pv 5) z03)) (z00 (z0m z0R rfl B.f_tuple boot_tuple (z00 (pv 6) z03)) z03)))))))))), ?_⟩
  walk_at "rs"
  refine ⟨p, _, 0, _, rfl, rfl, SqT.of g1, rfl, _, rfl, p, _, 1, _, rfl, rfl, SqT.of g1, rfl, ?_⟩
  refine ⟨o, -x, -y, wo, ho, rows2, (wd : Int), (hg : Int), rfl, PO, RO, by omega, by omega, by omega, by omega, fun u H1 s1 PU => ?_⟩
  have ew : ((wd : Int)).toNat = wd := by omega
  have eh : ((hg : Int)).toNat = hg := by omega
  rw [ew, eh] at PU
  have RC := z6x RO (-x) (-y) (w' := wd) (h' := hg) hw1 hw2 hh1 hR2
  generalize cutRows rows2 (-x) (-y) wd hg = crows at PU RC q
  obtain ⟨up, um, k1, k2, k3⟩ := PU
  have hC := RC.len
  have hL := z2E (us := rows) (cs := crows) (by omega)
  have get : ∀ j, j < hg -> ∃ r c, rows[j]? = some r /\ crows[j]? = some c /\ (z0U rows crows)[j]? = some (layR r c) /\ r.length = wd /\ c.length = wd /\ Cells r /\ Cells c := fun j hj => by
    have a1 : j < rows.length := by omega
    have a2 : j < crows.length := by omega
    exact ⟨_, _, List.getElem?_eq_getElem a1, List.getElem?_eq_getElem a2, z2D (List.getElem?_eq_getElem a1) (List.getElem?_eq_getElem a2), (R.row0 a1).1, (RC.row0 a2).1, (R.row0 a1).2, (RC.row0 a2).2⟩
  have g1' := s1 _ _ g1
  have g2' := s1 _ _ g2
  have g3' := s1 _ _ g3
  refine ⟨_, rfl, p, _, 2, _, rfl, rfl, SqT.of g1', rfl, _, rfl, u, _, 2, _, rfl, rfl, SqT.of k1, rfl, _, rfl, u, _, 3, _, rfl, rfl, SqT.of k1, rfl, pp, up, um, _, _, _, rfl, SqT.of g2', SqT.of k2, SqT.of k3, ?_⟩
  refine z0v (n := hg) (fun i σ zs H2 => ∃ v0 v1 v2, σ = [v0, v1, v2, some (.ref p)] /\ zs = (((z0U rows crows).take i).map z05).map V.int /\ Same H1 H2 /\ i <= hg) ⟨none, none, none, rfl, rfl, Same.refl _, Nat.zero_le _⟩ (Nat.le_of_lt (z0G (by omega))) ?_ ?_ ?_ ?_ ?_
  . rintro i σ zs H2 ⟨_, _, _, _, rfl, _, hi⟩
    rw [List.length_map, List.length_map, List.length_take]
    omega
  . rintro σ zs H2 ⟨_, _, _, _, _, s2, _⟩
    exact ⟨SqT.of (s2 _ _ g2'), by rw [List.length_map, List.length_map]; omega⟩
  . rintro i σ zs H2 hi ⟨_, _, _, _, _, s2, _⟩
    exact ⟨SqT.of (s2 _ _ g2'), SqT.of (s2 _ _ k2), SqT.of (s2 _ _ k3), by rw [List.length_map, List.length_map]; omega, by rw [List.length_map, List.length_map]; omega, by rw [List.length_map, List.length_map]; omega⟩
  . rintro i σ zs H2 z H' Z hi ⟨v0, v1, v2, rfl, rfl, s2, _⟩ ⟨T, za, zb, zc, nT, rfl, rfl, ha, hb, hc⟩ hZ
    obtain ⟨r, c, er, ec, el, lr, lc, cr, cc⟩ := get i hi
    rw [List.getElem?_map, List.getElem?_map, er] at ha
    rw [List.getElem?_map, List.getElem?_map, ec] at hb
    rw [List.getElem?_map, List.getElem?_map, ec] at hc
    cases ha
    cases hb
    cases hc
    refine ⟨T, _, rfl, SqT.of upd_same, rfl, _, _, rfl, _, _, rfl, _, _, rfl, rfl, ?_⟩
    have s3 := s2.trans (Same.new (o := .tup [.int (z05 r), .int (z05 c), .int (z09 c)]) nT)
    refine ⟨_, rfl, p, _, 0, _, rfl, rfl, SqT.of (s3 _ _ g1'), rfl, _, rfl, _, rfl, _, rfl, _, _, _, _, rfl, by omega, by omega, (z1b c).1, ?_⟩
    have e := z3R r c (by omega) cr cc
    rw [lr] at e
    rw [ew, e]
    refine hZ _ _ _ ⟨_, _, _, rfl, ?_, s3, hi⟩
    rw [List.take_succ, el, List.map_append, List.map_append]
    rfl
  rintro σ zs H2 ⟨_, _, _, rfl, rfl, s2, _⟩ l1 n1
  have tk : (z0U rows crows).take hg = z0U rows crows := List.take_of_length_le (by omega)
  rw [tk]
  have s3 := s2.trans (Same.new (o := .lst (((z0U rows crows).map z05).map V.int)) n1)
  have u1 : (upd H2 l1 (.lst (((z0U rows crows).map z05).map V.int))) l1 = _ := upd_same
  generalize upd H2 l1 (.lst (((z0U rows crows).map z05).map V.int)) = H3 at s3 u1
  refine ⟨_, rfl, p, _, 3, _, rfl, rfl, SqT.of (s3 _ _ g1'), rfl, _, rfl, u, _, 3, _, rfl, rfl, SqT.of (s3 _ _ k1), rfl, pm, um, _, _, rfl, SqT.of (s3 _ _ g3'), SqT.of (s3 _ _ k3), ?_⟩
  refine z0v (n := hg) (fun i σ zs H4 => ∃ v0 v1, σ = [v0, v1] /\ zs = (((z0U rows crows).take i).map z09).map V.int /\ Same H3 H4 /\ i <= hg) ⟨none, none, rfl, rfl, Same.refl _, Nat.zero_le _⟩ (Nat.le_of_lt (z0G (by omega))) ?_ ?_ ?_ ?_ ?_
  . rintro i σ zs H4 ⟨_, _, _, rfl, _, hi⟩
    rw [List.length_map, List.length_map, List.length_take]
    omega
  . rintro σ zs H4 ⟨_, _, _, _, s4, _⟩
    exact ⟨SqT.of (s4 _ _ (s3 _ _ g3')), SqT.of (s4 _ _ (s3 _ _ k3)), .inl (by rw [List.length_map, List.length_map]; omega)⟩
  . rintro i σ zs H4 hi ⟨_, _, _, _, s4, _⟩
    exact ⟨SqT.of (s4 _ _ (s3 _ _ g3')), SqT.of (s4 _ _ (s3 _ _ k3)), by rw [List.length_map, List.length_map]; omega, by rw [List.length_map, List.length_map]; omega⟩
  . rintro i σ zs H4 z H' Z hi ⟨v0, v1, rfl, rfl, s4, _⟩ ⟨T, za, zb, nT, rfl, rfl, ha, hb⟩ hZ
    obtain ⟨r, c, er, ec, el, lr, lc, cr, cc⟩ := get i hi
    rw [List.getElem?_map, List.getElem?_map, er] at ha
    rw [List.getElem?_map, List.getElem?_map, ec] at hb
    cases ha
    cases hb
    refine ⟨T, _, rfl, SqT.of upd_same, rfl, _, _, rfl, _, _, rfl, rfl, ?_⟩
    have s5 := s4.trans (Same.new (o := .tup [.int (z09 r), .int (z09 c)]) nT)
    walk_at "rs"
    refine hZ _ _ _ ⟨_, _, rfl, ?_, s5, hi⟩
    rw [List.take_succ, el, List.map_append, List.map_append]
    show _ = _ ++ [V.int (z09 (layR r c))]
    rw [<- z4W r c (by omega)]
  rintro σ zs H4 ⟨_, _, rfl, rfl, s4, _⟩ l2 n2
  rw [tk]
  have t4 := s3.trans s4
  have t5 := t4.trans (Same.new (o := .lst (((z0U rows crows).map z09).map V.int)) n2)
  have u1' := (Same.new (o := .lst (((z0U rows crows).map z09).map V.int)) n2) _ _ (s4 _ _ u1)
  have u2 : (upd H4 l2 (.lst (((z0U rows crows).map z09).map V.int))) l2 = _ := upd_same
  generalize upd H4 l2 (.lst (((z0U rows crows).map z09).map V.int)) = H5 at t5 u1' u2
  refine ⟨_, rfl, p, _, 0, _, rfl, rfl, SqT.of (t5 _ _ g1'), rfl, _, rfl, p, _, 1, _, rfl, rfl, SqT.of (t5 _ _ g1'), rfl, _, rfl, l1, _, rfl, .inl ⟨SqL.of u1', fun t1 m1 => ?_⟩⟩
  refine ⟨_, rfl, l2, _, rfl, .inl ⟨SqL.of ((Same.new m1) _ _ u2), fun t2 m2 => ?_⟩⟩
  refine ⟨szV (by simp), fun t3 m3 => ?_⟩
  refine q t3 _ ((((s1.trans t5).trans (Same.new m1)).trans (Same.new m2)).trans (Same.new m3)) ⟨t1, t2, ?_, ?_, ?_⟩
  . rw [upd_same, hL, hR]
  . exact (Same.new m3) _ _ ((Same.new m2) _ _ upd_same)
  . exact (Same.new m3) _ _ upd_same
theorem z54 : FnScope ["pile"] ["pile"] (z02 z16) := ⟨rfl, rfl, rfl, by decide +kernel, rfl, by decide +kernel, by decide +kernel⟩
theorem z55 {f : Addr} {fd : FuncData} (D : Df K mg "order_of" z16 ["pile"] f fd) (hcode : fd.code = .ref tc) (BT : BaseT mg base tc tp) (B : Blt mg) :
    Ow P w K mg base "order_of" ["pile"] 1 (z6S tp z4e) := by
  refine D.ow (D.F.okc hcode z54 (fun vs H Q E h => ?_) (fun A outer s H vs Q E hr h => ?_))
  . obtain ⟨l, ts, Ls, rfl, _⟩ := h
    rfl
  obtain ⟨l, ts, Ls, rfl, PL, hn, TO, q⟩ := h
  refine ⟨_, (z07 (z0K (z4t hr BT rfl rfl rfl rfl (LamScope.one rfl rfl rfl rfl (by decide) rfl rfl rfl) (fun _ _ _ _ => rfl) rfl B.f_sorted rfl B.f_range (z0L z0E rfl B.f_len boot_len (z00 (pv 0) z03)) (fun _ _ _ _ _ => (z0C z88 (z0C z7A (pv 1) (pv 0) (fun _ _ => rfl)) z01 (fun _ _ => rfl)))))), ?_⟩
  have hl := PL.len
  refine ⟨_, rfl, l, _, rfl, .inl (SqL.of PL.lst), ?_⟩
  refine ⟨(ts.map V.ref).length, z0a Ls, rfl, by rw [List.length_map]; omega, TO, fun i hi H2 e2 => ?_, fun H2 m ms T2 e2 nm hO hm => ?_⟩
  . rw [List.length_map, hl] at hi
    obtain ⟨t, e1, ⟨p, h1, _, _⟩, e3⟩ := PL.get hi
    exact ⟨_, rfl, _, rfl, l, _, _, _, rfl, rfl, SqL.of (e2.lst TO PL.lst), e3, t, _, 0, _, rfl, rfl, SqT.of (e2.tup TO h1), rfl, by rw [z35 hi], rfl⟩
  . rw [List.length_map, hl] at hO
    exact q m ms H2 T2 e2 nm hO hm
theorem z56 : FnScope ["layer", "y"] ["layer", "y"] (z02 z17) := ⟨rfl, rfl, rfl, by decide +kernel, rfl, by decide +kernel, by decide +kernel⟩
theorem z57 {f : Addr} {fd : FuncData} (D : Df K mg "is_on_row" z17 ["layer", "y"] f fd) (B : Blt mg) :
    Ow P w K mg base "is_on_row" ["layer", "y"] 1 z7W := by
  refine D.ow (D.F.ok z56 (fun vs H Q E h => ?_) (fun cdv A outer s H vs Q E hr h => ?_))
  . obtain ⟨t, y, L, rfl, _⟩ := h
    rfl
  obtain ⟨t, y, L, rfl, PL, q⟩ := h
  obtain ⟨p, gt, ⟨pp, pm, g1, g2, g3⟩, R⟩ := id PL
  rw [R.len] at g1
  refine ⟨_, (z07 (z0K (z6j z5R z5Q (z0C z0J (pv 0) z01 (fun _ _ => rfl)) (pv 1) (z0D z0c (z0C z0J (pv 0) z01 (fun _ _ => rfl)) (z0C z0J (z0C z0J (pv 0) z01 (fun _ _ => rfl)) z01 (fun _ _ => rfl)))))), ?_⟩
  refine ⟨_, rfl, t, _, 3, _, rfl, rfl, SqT.of gt, rfl, ?_⟩
  walk_at "rs"
  refine z2Q (fun c => ?_) (fun c => ?_)
  . rw [decide_eq_true c, Bool.true_and] at q
    refine ⟨_, rfl, t, _, 3, _, rfl, rfl, SqT.of gt, rfl, ?_⟩
    refine ⟨_, rfl, t, _, 1, _, rfl, rfl, SqT.of gt, rfl, p, _, 1, _, rfl, rfl, SqT.of g1, rfl, ?_⟩
    walk_at "rs"
    exact q
  . rw [decide_eq_false c, Bool.false_and] at q
    exact q
theorem z2O : FnScope ["pile", "y"] ["pile", "y"] (z02 z0O) := ⟨rfl, rfl, rfl, by decide +kernel, rfl, by decide +kernel, by decide +kernel⟩
theorem z2P {f : Addr} {fd : FuncData} (D : Df K mg "numbers_on_row" z0O ["pile", "y"] f fd)
    (O_orderof : Ow P w K mg base "order_of" ["pile"] 1 (z6S tp z4e))
    (O_isonrow : Ow P w K mg base "is_on_row" ["layer", "y"] 1 z7W) (B : Blt mg) :
    Ow P w K mg base "numbers_on_row" ["pile", "y"] 2 (z7X tp z4e) := by
  refine D.ow (D.F.ok z2O (fun vs H Q E h => ?_) (fun cdv A outer s H vs Q E hr h => ?_))
  . obtain ⟨l, y, ts, Ls, rfl, _⟩ := h
    rfl
  obtain ⟨l, y, ts, Ls, rfl, PL, hn, TO, q⟩ := h
  refine ⟨_, (z07 (z0K (z1o (locs := ["number"]) (ix := [0, 1]) rfl (BlkSc.look (dsc := z02 z0O) (N := ["pile", "y"]) rfl rfl (by decide +kernel)) (z1I (z0A O_orderof hr rfl (z00 (pv 0) z03))) (fun _ _ _ _ _ _ => (z0I (i := 0) (by decide +kernel : (["number", "pile", "y"] : List Str).Nodup) rfl (Or.inl rfl))) (fun _ _ _ _ _ _ => (z2s (z1Y (z0A O_isonrow hr rfl (z00 (z0C z1U (pv 1) (pv 0) (fun _ _ => rfl)) (z00 (pv 2) z03)))))) (fun _ _ _ _ _ _ => (pv 0))))), ?_⟩
  walk_at "rs"
  refine ⟨l, ts, Ls, rfl, PL, hn, TO, fun m ms H1 T1 e1 nm hO gm => ?_⟩
  have hml := hO.len
  have PL1 := e1.pils TO PL
  refine ⟨m, rfl, ⟨_, SqL.of gm⟩, ?_⟩
  refine z2v (n := ms.length) (fun i σ ys H2 => ∃ v, σ = [v, some (.ref l), some (.int y)] /\ ys = z0l ((ms.take i).filter (onL Ls y)) /\ H2 = H1) ⟨none, rfl, rfl, rfl⟩ (z0G (by omega)) ?_ ?_ ?_ ?_ ?_
  . rintro i σ ys H2 ⟨v, _, rfl, _⟩
    unfold z0l
    rw [List.length_map]
    have h1 := List.length_filter_le (onL Ls y) (ms.take i)
    rw [List.length_take] at h1
    omega
  . rintro σ ys H2 ⟨v, _, _, rfl⟩
    exact ⟨_, SqL.of gm, by unfold z0l; rw [List.length_map]; exact Nat.le_refl _⟩
  . rintro i σ ys H2 hi ⟨v, _, _, rfl⟩
    exact ⟨_, .int ((ms[i] : Nat) : Int), SqL.of gm, by unfold z0l; rw [List.getElem?_map, List.getElem?_eq_getElem hi]; rfl⟩
  . rintro i σ ys H2 x H' Z hi ⟨v, rfl, rfl, rfl⟩ ⟨rfl, hx⟩ hZ
    have e := hx _ (SqL.of gm)
    unfold z0l at e
    rw [List.getElem?_map, List.getElem?_eq_getElem hi] at e
    cases e
    have hb := hO.lt hi
    obtain ⟨t, _, PT, f1⟩ := PL1.get hb
    have tk : (ms.take (i + 1)).filter (onL Ls y) = (ms.take i).filter (onL Ls y) ++ if onL Ls y ms[i] = true then [ms[i]] else [] := by
      rw [List.take_succ, List.getElem?_eq_getElem hi, List.filter_append]
      congr 1
      show [ms[i]].filter _ = _
      by_cases c : onL Ls y ms[i] = true
      . rw [if_pos c, List.filter_cons_of_pos c]
        rfl
      . rw [if_neg c, List.filter_cons_of_neg c]
        rfl
    refine ⟨_, rfl, _, rfl, l, _, _, _, rfl, rfl, SqL.of PL1.lst, f1, _, rfl, t, y, _, rfl, PT, ?_⟩
    rw [<- z3c hb]
    walk_at "rs"
    cases e : onL Ls y ms[i] with
    | false =>
      rw [e, if_neg Bool.false_ne_true, List.append_nil] at tk
      exact z7L (hZ _ _ _ ⟨_, rfl, by rw [tk], rfl⟩)
    | true =>
      rw [e, if_pos rfl] at tk
      refine z8j ⟨_, rfl, ?_⟩
      refine hZ _ _ _ ⟨_, rfl, ?_, rfl⟩
      rw [tk]
      unfold z0l
      rw [List.map_append]
      rfl
  rintro σ ys H2 ⟨v, rfl, rfl, rfl⟩ l2 nl2
  rw [List.take_length]
  exact q l2 ms _ (T1.keep (Same.new nl2)) (e1.trans (Same.new nl2).toP) (e1.freed T1 nl2) hO upd_same
theorem z2T : FnScope ["numbers", "most"] ["numbers", "most"] (z02 z0X) := ⟨rfl, rfl, rfl, by decide +kernel, rfl, by decide +kernel, by decide +kernel⟩
theorem z2U {f : Addr} {fd : FuncData} (D : Df K mg "many_lacking" z0X ["numbers", "most"] f fd) (B : Blt mg) :
    Ow P w K mg base "many_lacking" ["numbers", "most"] 1 z6X := by
  refine D.ow (D.F.ok z2T (fun vs H Q E h => ?_) (fun cdv A outer s H vs Q E hr h => ?_))
  . obtain ⟨m, xs, k, rfl, _⟩ := h
    rfl
  obtain ⟨m, xs, k, rfl, gm, q⟩ := h
  refine ⟨_, (z07 (z0K (z0L (z5T rfl) rfl B.f_max boot_max (z00 z01 (z00 (z0D z1S (z0L z0E rfl B.f_len boot_len (z00 (pv 0) z03)) (pv 1)) z03))))), ?_⟩
  walk_at "rs"
  refine ⟨m, _, rfl, .inl (SqL.of gm), ?_⟩
  walk_at "rs"
  refine ⟨_, _, rfl, ?_⟩
  rw [show (if (xs.length : Int) - (k : Int) > 0 then (xs.length : Int) - (k : Int) else 0) = ((xs.length - k : Nat) : Int) by split <;> omega]
  exact q
theorem sc_beamedrow : FnScope ["board", "pile", "most", "y", "row", "numbers", "number", "layer"] ["board", "pile", "most", "y"] (z02 z0j) := ⟨rfl, rfl, rfl, by decide +kernel, rfl, by decide +kernel, by decide +kernel⟩
theorem z3l {f : Addr} {fd : FuncData} (D : Df K mg "beamed_row" z0j ["board", "pile", "most", "y"] f fd)
    (O_cut : Ow P w K mg base "cut" ["pic", "x", "y", "wide", "high"] 3 z81)
    (O_laid : Ow P w K mg base "laid" ["under", "over", "x", "y"] 4 z7T)
    (O_numbersonrow : Ow P w K mg base "numbers_on_row" ["pile", "y"] 2 (z7X tp z4e))
    (O_manylacking : Ow P w K mg base "many_lacking" ["numbers", "most"] 1 z6X) (B : Blt mg) :
    Ow P w K mg base "beamed_row" ["board", "pile", "most", "y"] 5 (z7Z tp z4e) := by
  refine D.ow (D.F.ok sc_beamedrow (fun vs H Q E h => ?_) (fun cdv A outer s H vs Q E hr h => ?_))
  . obtain ⟨b, l, ts, Ls, m, y, w, h, brd, rfl, _⟩ := h
    rfl
  obtain ⟨b, l, ts, Ls, mo, y, wd, hg, brd, rfl, PB, R, hy, PL, hn, TO, q⟩ := h
  obtain ⟨bp, bm, g1, g2, g3⟩ := id PB
  have ok := PL.ok
  have w1 := R.w1
  have w2 := R.w2
  refine ⟨_, (z04 (z0H (i := 4) sc_beamedrow.nd rfl (Or.inl rfl) (z0A O_cut hr rfl (z00 (pv 0) (z00 z01 (z00 (pv 3) (z00 (z0C z0J (pv 0) z01 (fun _ _ => rfl)) (z00 z01 z03)))))))
    (z04 (z0H (i := 5) sc_beamedrow.nd rfl (Or.inl rfl) (z0A O_numbersonrow hr rfl (z00 (pv 1) (z00 (pv 3) z03))))
    (z04 (z1f PassesOwn.never rfl (z1I (z6l z7o (pv 5) (z7k (z0A O_manylacking hr rfl (z00 (pv 5) (z00 (pv 2) z03)))) z7j)) (z0I (i := 6) sc_beamedrow.nd rfl (Or.inl rfl)) (z04 (z0H (i := 7) sc_beamedrow.nd rfl (Or.inl rfl) (z0C z0P (pv 1) (pv 6) (fun _ _ => rfl)))
    (z07 (z0H (i := 4) sc_beamedrow.nd rfl (Or.inl rfl) (z0A O_laid hr rfl (z00 (pv 4) (z00 (z0C z0J (pv 7) z01 (fun _ _ => rfl)) (z00 (z0C z0J (pv 7) z01 (fun _ _ => rfl)) (z00 (z0D z1S (z0C z0J (pv 7) z01 (fun _ _ => rfl)) (pv 3)) z03)))))))))
    (z07 (z0K (pv 4)))))), ?_⟩
  walk_at "rs"
  refine ⟨b, _, 0, _, rfl, rfl, SqT.of g1, rfl, ?_⟩
  walk_at "rs"
  refine ⟨b, 0, _, wd, hg, brd, (wd : Int), 1, rfl, PB, R, by omega, by omega, by decide, by decide, fun r0 H1 s1 PR => ?_⟩
  rw [show ((wd : Int)).toNat = wd by omega, show ((1 : Int)).toNat = 1 from rfl, z6Y (Ls := Ls) R hy] at PR
  have T1 := TO.keep s1
  walk_at "rs"
  refine ⟨l, _, ts, Ls, rfl, PL.mono s1, hn, T1, fun m ms H2 T2 e2 nm hO gm => ?_⟩
  have nl : (z0l (ms.filter (onL Ls (y : Int)))).length = (ms.filter (onL Ls (y : Int))).length := by unfold z0l; rw [List.length_map]
  have PL2 := e2.pils T1 (PL.mono s1)
  have PR2 := e2.pic T1 PR
  have hml := hO.len
  walk_at "rs"
  refine ⟨m, _, mo, rfl, gm, ?_⟩
  rw [nl]
  walk_at "rs"
  refine ⟨m, _, rfl, SqL.of gm, fun p np => ?_⟩
  have ed : z7K (z0l (ms.filter (onL Ls (y : Int)))) (some (((ms.filter (onL Ls (y : Int))).length - mo : Nat) : Int)) none = z0l (ms.filter (rdB Ls mo (y : Int))) := by
    rw [z7C (by rw [nl]; omega)]
    unfold z0l rdB
    rw [<- List.map_drop, z8D hO.1 hO.2]
  rw [ed]
  have s3 := Same.new (o := .lst (z0l (ms.filter (rdB Ls mo (y : Int))))) np
  have g3' : (upd H2 p (.lst (z0l (ms.filter (rdB Ls mo (y : Int)))))) p = some (.lst (z0l (ms.filter (rdB Ls mo (y : Int))))) := upd_same
  have T3 := T2.keep s3
  have e3 : SameP tp H (upd H2 p (.lst (z0l (ms.filter (rdB Ls mo (y : Int)))))) := (s1.toP.trans e2).trans s3.toP
  have PL3 := PL2.mono s3
  have PR3 := PR2.mono s3
  generalize upd H2 p (.lst (z0l (ms.filter (rdB Ls mo (y : Int))))) = H3 at s3 g3' T3 e3 PL3 PR3
  have mem : ∀ i ∈ ms.filter (rdB Ls mo (y : Int)), i < Ls.length := fun i hi => List.mem_range.mp (hO.1.mem_iff.mp (List.mem_filter.mp hi).1)
  have fin : ∀ (r : Addr) (H' : Hp), TabOk tp z4e z34 H' -> SameP tp H H' -> PicAt H' r wd [z1t Ls brd wd y (ms.filter (rdB Ls mo (y : Int)))] -> Q (.ref r) H' := fun r H' T' e' P' => by
    rw [z4w hO] at P'
    exact q r H' T' e' P'
  generalize ms.filter (rdB Ls mo (y : Int)) = N at g3' mem fin
  have nvl : (z0l N).length = N.length := by unfold z0l; rw [List.length_map]
  refine ⟨p, rfl, ⟨_, SqL.of g3'⟩, ?_⟩
  refine z2k (K := K) (a := p) (xs := z0l N) (fun k σ H4 => Same H3 H4 /\ ∃ r v6 v7, σ = [some (.ref b), some (.ref l), some (.int (mo : Int)), some (.int (y : Int)), some (.ref r), some (.ref m), v6, v7] /\ PicAt H4 r wd [z1t Ls brd wd y (N.take k)]) ⟨Same.refl _, r0, none, none, rfl, PR3⟩ (fun k σ H4 _ ⟨s, _⟩ => SqL.of (s _ _ g3')) ?_ ?_
  . rintro k v σ H4 hk ⟨s4, r, v6, v7, rfl, P4⟩
    have hkl : k < N.length := by
      have := (List.getElem?_eq_some_iff.mp hk).1
      omega
    unfold z0l at hk
    rw [List.getElem?_map, List.getElem?_eq_getElem hkl] at hk
    cases hk
    have hi := mem _ (List.getElem_mem hkl)
    have PL4 := PL3.mono s4
    obtain ⟨t, _, ⟨lp, k1, PT, RT⟩, f1⟩ := PL4.get hi
    walk_at "rs"
    refine ⟨l, _, _, _, rfl, rfl, SqL.of PL4.lst, f1, ?_⟩
    walk_at "rs"
    refine ⟨t, _, 1, _, rfl, rfl, SqT.of k1, rfl, ?_⟩
    walk_at "rs"
    refine ⟨t, _, 2, _, rfl, rfl, SqT.of k1, rfl, ?_⟩
    walk_at "rs"
    refine ⟨t, _, 3, _, rfl, rfl, SqT.of k1, rfl, ?_⟩
    walk_at "rs"
    refine ⟨r, lp, _, _, wd, 1, _, _, _, _, rfl, P4, z2i ok R y _, PT, RT, fun r2 H5 s5 P5 => ?_⟩
    rw [z4v ok R _ hi] at P5
    refine ⟨s4.trans s5, r2, _, _, rfl, ?_⟩
    rw [List.take_succ, List.getElem?_eq_getElem hkl]
    exact P5
  . rintro σ H4 ⟨s4, r, v6, v7, rfl, P4⟩
    rw [nvl, List.take_length] at P4
    walk_at "rs"
    exact fin r H4 (T3.keep s4) (e3.trans s4.toP) P4
theorem sc_beamed : FnScope ["board", "pile", "most", "rows", "paints", "masks"] ["board", "pile", "most"] (z02 z0s) := ⟨rfl, rfl, rfl, by decide +kernel, rfl, by decide +kernel, by decide +kernel⟩
theorem z6d {f : Addr} {fd : FuncData} (D : Df K mg "beamed" z0s ["board", "pile", "most"] f fd)
    (O_beamedrow : Ow P w K mg base "beamed_row" ["board", "pile", "most", "y"] 5 (z7Z tp z4e)) (B : Blt mg) :
    Ow P w K mg base "beamed" ["board", "pile", "most"] 6 (z4d tp z4e) := by
  refine D.ow (D.F.ok sc_beamed (fun vs H Q E h => ?_) (fun cdv A outer s H vs Q E hr h => ?_))
  . obtain ⟨b, l, ts, Ls, m, w, h, brd, rfl, _⟩ := h
    rfl
  obtain ⟨b, l, ts, Ls, mo, wd, hg, brd, rfl, PB, R, PL, hn, TO, q⟩ := h
  obtain ⟨bp, bm, g1, g2, g3⟩ := id PB
  have h1 := R.h1
  have h2 := R.h2
  have hR := R.len
  refine ⟨_, (z04 (z1J (i := 3) (locs := ["y"]) (ix := [0, 1, 2]) rfl sc_beamed.nd rfl rfl (BlkSc.look (dsc := z02 z0s) (N := ["board", "pile", "most", "rows", "paints", "masks"]) rfl rfl (by decide +kernel)) (z0e rfl B.f_range (z00 (z0C z0J (pv 0) z01 (fun _ _ => rfl)) z03)) (fun _ _ _ _ _ _ => (z0I (i := 0) (by decide +kernel : (["y", "board", "pile", "most"] : List Str).Nodup) rfl (Or.inl rfl))) (fun _ _ _ _ _ _ => z0u) (fun _ _ _ _ _ _ => (z0A O_beamedrow hr rfl (z00 (pv 1) (z00 (pv 2) (z00 (pv 3) (z00 (pv 0) z03)))))) rfl)
    (z04 (z1J (i := 4) (locs := ["row"]) (ix := []) rfl sc_beamed.nd rfl rfl (BlkSc.look (dsc := z02 z0s) (N := ["board", "pile", "most", "rows", "paints", "masks"]) rfl rfl (by decide +kernel)) (z1I (pv 3)) (fun _ _ _ _ _ _ => (z0I (i := 0) (by decide +kernel : (["row"] : List Str).Nodup) rfl (Or.inl rfl))) (fun _ _ _ _ _ _ => z0u) (fun _ _ _ _ _ _ => (z0C z1F (z0C z1F (pv 0) z01 (fun _ _ => rfl)) z01 (fun _ _ => rfl))) rfl)
    (z04 (z1J (i := 5) (locs := ["row"]) (ix := []) rfl sc_beamed.nd rfl rfl (BlkSc.look (dsc := z02 z0s) (N := ["board", "pile", "most", "rows", "paints", "masks"]) rfl rfl (by decide +kernel)) (z1I (pv 3)) (fun _ _ _ _ _ _ => (z0I (i := 0) (by decide +kernel : (["row"] : List Str).Nodup) rfl (Or.inl rfl))) (fun _ _ _ _ _ _ => z0u) (fun _ _ _ _ _ _ => (z0C z1F (z0C z1F (pv 0) z01 (fun _ _ => rfl)) z01 (fun _ _ => rfl))) rfl)
    (z07 (z0K (z1Z (z00 (z0C z0J (pv 0) z01 (fun _ _ => rfl)) (z00 (z0C z0J (pv 0) z01 (fun _ _ => rfl)) (z00 (z0m z0R rfl B.f_tuple boot_tuple (z00 (pv 4) z03)) (z00 (z0m z0R rfl B.f_tuple boot_tuple (z00 (pv 5) z03)) z03)))))))))), ?_⟩
  walk_at "rs"
  refine ⟨b, _, 1, _, rfl, rfl, SqT.of g1, rfl, ?_⟩
  walk_at "rs"
  rw [hR]
  refine ⟨(z2a (by omega) (by omega)).1, (z2a (by omega) (by omega)).2, ?_⟩
  let rf : Nat -> List (Option Int) := fun y => (List.range wd).map fun x => z1s Ls (z0Z brd x y) mo (x : Int) (y : Int)
  have hrf : ∀ y, rf y = (List.range wd).map fun x => z1s Ls (z0Z brd x y) mo (x : Int) (y : Int) := fun y => rfl
  refine z0v (n := ((hg : Int)).toNat) (fun i σ zs H2 => ∃ v qs, σ = [v, some (.ref b), some (.ref l), some (.int (mo : Int))] /\ zs = (qs : List Addr).map V.ref /\ qs.length = i /\ TabOk tp z4e z34 H2 /\ SameP tp H H2 /\ ∀ (j : Nat) p, qs[j]? = some p -> PicAt H2 p wd [rf j]) ⟨none, [], rfl, rfl, rfl, TO, SameP.refl _ _, fun j p e => nomatch e⟩ (Nat.le_of_lt (z0G (by omega))) ?_ ?_ ?_ ?_ ?_
  . rintro i σ zs H2 ⟨v, qs, _, rfl, hq, _⟩
    rw [List.length_map, hq]
  . rintro σ zs H2 _
    show ((hg : Int)).toNat <= ((hg : Int)).toNat
    exact Nat.le_refl _
  . intro i σ zs H2 hi _
    show i < ((hg : Int)).toNat
    exact hi
  . rintro i σ zs H2 x H' Z hi ⟨v, qs, rfl, rfl, hq, T2, e2, QQ⟩ ⟨rfl, rfl⟩ hZ
    have ei : (0 : Int) + (i : Int) = ((i : Nat) : Int) := by omega
    walk_at "rs"
    refine ⟨b, l, ts, Ls, mo, i, wd, hg, brd, by rw [ei]; rfl, e2.pic TO PB, R, by omega, e2.pils TO PL, hn, T2, fun p H3 T3 e3 PP => ?_⟩
    refine hZ _ _ _ ⟨_, qs ++ [p], rfl, by rw [List.map_append]; rfl, by rw [List.length_append, hq]; rfl, T3, e2.trans e3, fun j u e1 => ?_⟩
    by_cases hj : j < qs.length
    . rw [List.getElem?_append_left hj] at e1
      exact e3.pic T2 (QQ j u e1)
    . rw [List.getElem?_append_right (by omega)] at e1
      cases hk : j - qs.length with
      | zero =>
        rw [hk] at e1
        cases e1
        rw [show j = i by omega]
        exact PP
      | succ n =>
        rw [hk] at e1
        cases e1
  rintro σ zs H2 ⟨v, qs, rfl, rfl, hq, T2, e2, QQ⟩ rl nrl
  rw [Int.toNat_natCast] at hq
  have s3 := Same.new (o := .lst (qs.map V.ref)) nrl
  have T3 := T2.keep s3
  have e3 := e2.trans s3.toP (P := tp)
  have Q3 : ∀ (j : Nat) p, qs[j]? = some p -> PicAt (upd H2 rl (.lst (qs.map V.ref))) p wd [rf j] := fun j p e => (QQ j p e).mono s3
  have g3' : (upd H2 rl (.lst (qs.map V.ref))) rl = some (.lst (qs.map V.ref)) := upd_same
  generalize upd H2 rl (.lst (qs.map V.ref)) = H3 at s3 T3 e3 Q3 g3'
  have PB3 := e3.pic TO PB
  walk_at "rs"
  refine ⟨⟨_, SqL.of g3'⟩, ?_⟩
  refine z0v (n := hg) (fun i σ zs H4 => ∃ v, σ = [v] /\ zs = (((List.range i).map rf).map z05).map V.int /\ H4 = H3) ⟨none, rfl, rfl, rfl⟩ (Nat.le_of_lt (z0G (by omega))) ?_ ?_ ?_ ?_ ?_
  . rintro i σ zs H4 ⟨v, _, rfl, _⟩
    rw [List.length_map, List.length_map, List.length_map, List.length_range]
  . rintro σ zs H4 ⟨v, _, _, rfl⟩
    exact ⟨_, SqL.of g3', by rw [List.length_map, hq]; exact Nat.le_refl _⟩
  . rintro i σ zs H4 hi ⟨v, _, _, rfl⟩
    exact ⟨_, .ref (qs[i]'(by omega)), SqL.of g3', by rw [List.getElem?_map, List.getElem?_eq_getElem (by omega)]; rfl⟩
  . rintro i σ zs H4 x H' Z hi ⟨v, rfl, rfl, rfl⟩ ⟨rfl, hx⟩ hZ
    have e := hx _ (SqL.of g3')
    rw [List.getElem?_map, List.getElem?_eq_getElem (by omega)] at e
    cases e
    obtain ⟨pp, pm, k1, k2, k3⟩ := Q3 i (qs[i]'(by omega)) (List.getElem?_eq_getElem _)
    refine ⟨_, rfl, _, _, 2, _, rfl, rfl, SqT.of k1, rfl, pp, _, 0, _, rfl, rfl, SqT.of k2, rfl, ?_⟩
    refine hZ _ _ _ ⟨_, rfl, ?_, rfl⟩
    rw [List.range_succ, List.map_append, List.map_append, List.map_append]
    rfl
  rintro σ zs H4 ⟨v, rfl, rfl, rfl⟩ la nla
  have s5 := Same.new (o := .lst ((((List.range hg).map rf).map z05).map V.int)) nla
  have T5 := T3.keep s5
  have e5 := e3.trans s5.toP (P := tp)
  have Q5 : ∀ (j : Nat) p, qs[j]? = some p -> PicAt (upd H4 la (.lst ((((List.range hg).map rf).map z05).map V.int))) p wd [rf j] := fun j p e => (Q3 j p e).mono s5
  have g5 := s5 _ _ g3'
  have a5 : (upd H4 la (.lst ((((List.range hg).map rf).map z05).map V.int))) la = some (.lst ((((List.range hg).map rf).map z05).map V.int)) := upd_same
  generalize upd H4 la (.lst ((((List.range hg).map rf).map z05).map V.int)) = H5 at s5 T5 e5 Q5 g5 a5
  walk_at "rs"
  refine ⟨⟨_, SqL.of g5⟩, ?_⟩
  refine z0v (n := hg) (fun i σ zs H6 => ∃ v, σ = [v] /\ zs = (((List.range i).map rf).map z09).map V.int /\ H6 = H5) ⟨none, rfl, rfl, rfl⟩ (Nat.le_of_lt (z0G (by omega))) ?_ ?_ ?_ ?_ ?_
  . rintro i σ zs H6 ⟨v, _, rfl, _⟩
    rw [List.length_map, List.length_map, List.length_map, List.length_range]
  . rintro σ zs H6 ⟨v, _, _, rfl⟩
    exact ⟨_, SqL.of g5, by rw [List.length_map, hq]; exact Nat.le_refl _⟩
  . rintro i σ zs H6 hi ⟨v, _, _, rfl⟩
    exact ⟨_, .ref (qs[i]'(by omega)), SqL.of g5, by rw [List.getElem?_map, List.getElem?_eq_getElem (by omega)]; rfl⟩
  . rintro i σ zs H6 x H' Z hi ⟨v, rfl, rfl, rfl⟩ ⟨rfl, hx⟩ hZ
    have e := hx _ (SqL.of g5)
    rw [List.getElem?_map, List.getElem?_eq_getElem (by omega)] at e
    cases e
    obtain ⟨pp, pm, k1, k2, k3⟩ := Q5 i (qs[i]'(by omega)) (List.getElem?_eq_getElem _)
    refine ⟨_, rfl, _, _, 3, _, rfl, rfl, SqT.of k1, rfl, pm, _, 0, _, rfl, rfl, SqT.of k3, rfl, ?_⟩
    refine hZ _ _ _ ⟨_, rfl, ?_, rfl⟩
    rw [List.range_succ, List.map_append, List.map_append, List.map_append]
    rfl
  rintro σ zs H6 ⟨v, rfl, rfl, rfl⟩ lm nlm
  have s7 := Same.new (o := .lst ((((List.range hg).map rf).map z09).map V.int)) nlm
  have T7 := T5.keep s7
  have e7 := e5.trans s7.toP (P := tp)
  have a7 := s7 _ _ a5
  have m7 : (upd H6 lm (.lst ((((List.range hg).map rf).map z09).map V.int))) lm = some (.lst ((((List.range hg).map rf).map z09).map V.int)) := upd_same
  generalize upd H6 lm (.lst ((((List.range hg).map rf).map z09).map V.int)) = H7 at s7 T7 e7 a7 m7
  obtain ⟨bp, bm, g17, _, _⟩ := e7.pic TO PB
  rw [hR] at g17
  walk_at "rs"
  refine ⟨b, _, 0, _, rfl, rfl, SqT.of g17, rfl, ?_⟩
  walk_at "rs"
  refine ⟨b, _, 1, _, rfl, rfl, SqT.of g17, rfl, ?_⟩
  walk_at "rs"
  refine ⟨la, _, rfl, .inl ⟨SqL.of a7, fun t1 n1 => ?_⟩⟩
  refine ⟨_, rfl, lm, _, rfl, .inl ⟨SqL.of ((Same.new n1) _ _ m7), fun t2 n2 => ?_⟩⟩
  refine ⟨szV (by simp), fun t3 n3 => ?_⟩
  have s8 := ((Same.new n1).trans (Same.new n2)).trans (Same.new (o := .tup [.int (wd : Int), .int (hg : Int), .ref t1, .ref t2]) n3)
  have eB : z1W Ls brd wd hg mo = (List.range hg).map rf := rfl
  refine q t3 _ (T7.keep s8) (e7.trans s8.toP) ?_
  rw [eB]
  refine ⟨t1, t2, ?_, ?_, ?_⟩
  . rw [upd_same, List.length_map, List.length_range]
  . exact (Same.new n3) _ _ ((Same.new n2) _ _ upd_same)
  . exact (Same.new n3) _ _ upd_same
theorem z6e : FnScope ["_law_script", "_law_k"] ["_law_script", "_law_k"] (z02 z1O) := ⟨rfl, rfl, rfl, by decide +kernel, rfl, by decide +kernel, by decide +kernel⟩
theorem z6f {f : Addr} {fd : FuncData} (D : Df K mg "_law_far" z1O ["_law_script", "_law_k"] f fd)
    (O_lawgreat : Ow P w K mg base "_law_great" ["_law_script", "_law_k", "_law_many"] 1 (z7N K)) (B : Blt mg) :
    Ow P w K mg base "_law_far" ["_law_script", "_law_k"] 2 (z7Y K) := by
  refine D.ow (D.F.ok z6e (fun vs H Q E h => ?_) (fun cdv A outer s H vs Q E hr h => ?_))
  . obtain ⟨a, ns, k, rfl, _⟩ := h
    rfl
  obtain ⟨a, ns, k, rfl, hS, k0, k1, q⟩ := h
  refine ⟨_, (z07 (z0K (z0D z1S (z0A O_lawgreat hr rfl (z00 (pv 0) (z00 (pv 1) (z00 (z0D z0c (z0D z1P z01 (z0D z4M z01 z01)) z01) z03)))) (z0D z4M z01 z01)))), ?_⟩
  walk_at "rs"
  refine ⟨a, ns, k, _, rfl, hS, by omega, by omega, (by decide), fun r2 b0 b1 => ?_⟩
  walk_at "rs"
  exact q _
theorem sc_lawlayer : FnScope ["_law_script", "_law_k", "_law_rank", "_law_wide", "_law_high", "_law_x", "_law_y", "_law_way"] ["_law_script", "_law_k"] (z02 z0r) := ⟨rfl, rfl, rfl, by decide +kernel, rfl, by decide +kernel, by decide +kernel⟩
theorem z4H {f : Addr} {fd : FuncData} (D : Df K mg "_law_layer" z0r ["_law_script", "_law_k"] f fd)
    (O_lawdraw : Ow P w K mg base "_law_draw" ["_law_script", "_law_k", "_law_prime", "_law_many"] 1 (z31 K))
    (O_lawrows : Ow P w K mg base "_law_rows" ["_law_script", "_law_k", "_law_wide", "_law_high"] 3 (z5u K))
    (O_lawfar : Ow P w K mg base "_law_far" ["_law_script", "_law_k"] 2 (z7Y K)) (B : Blt mg) :
    Ow P w K mg base "_law_layer" ["_law_script", "_law_k"] 4 (z3f K) := by
  refine D.ow (D.F.ok sc_lawlayer (fun vs H Q E h => ?_) (fun cdv A outer s H vs Q E hr h => ?_))
  . obtain ⟨a, ns, k, rfl, _⟩ := h
    rfl
  obtain ⟨a, ns, k, rfl, hS, k0, k1, q⟩ := h
  refine ⟨_, (z04 (z0H (i := 2) sc_lawlayer.nd rfl (Or.inl rfl) (z0D z1S (z0A O_lawdraw hr rfl (z00 (pv 0) (z00 (pv 1) (z00 z01 (z00 z01 z03))))) z01))
    (z28 (z1C (z0S z2l (z0A O_lawdraw hr rfl (z00 (pv 0) (z00 (pv 1) (z00 z01 (z00 z01 z03))))) z01 (z0Y _)) (z07 (z0H (i := 2) sc_lawlayer.nd rfl (Or.inl rfl) (z0A O_lawfar hr rfl (z00 (pv 0) (z00 (pv 1) z03))))) z0Q)
    (z04 (z0H (i := 3) sc_lawlayer.nd rfl (Or.inl rfl) (z0D z0c z01 (z0A O_lawdraw hr rfl (z00 (pv 0) (z00 (z0D z0c (pv 1) z01) (z00 z01 (z00 z01 z03)))))))
    (z04 (z0H (i := 4) sc_lawlayer.nd rfl (Or.inl rfl) (z0D z0c z01 (z0A O_lawdraw hr rfl (z00 (pv 0) (z00 (z0D z0c (pv 1) z01) (z00 z01 (z00 z01 z03)))))))
    (z04 (z0H (i := 5) sc_lawlayer.nd rfl (Or.inl rfl) (z0D z1S (z0A O_lawdraw hr rfl (z00 (pv 0) (z00 (z0D z0c (pv 1) z01) (z00 z01 (z00 z01 z03))))) z01))
    (z04 (z0H (i := 6) sc_lawlayer.nd rfl (Or.inl rfl) (z0D z1S (z0A O_lawdraw hr rfl (z00 (pv 0) (z00 (z0D z0c (pv 1) z01) (z00 z01 (z00 z01 z03))))) z01))
    (z04 (z0H (i := 7) sc_lawlayer.nd rfl (Or.inl rfl) (z0A O_lawdraw hr rfl (z00 (pv 0) (z00 (z0D z0c (pv 1) z01) (z00 z01 (z00 z01 z03))))))
    (z28 (z1C (z0S z2l (pv 7) z01 (z0Y _)) (z07 (z0H (i := 5) sc_lawlayer.nd rfl (Or.inl rfl) (z0A O_lawfar hr rfl (z00 (pv 0) (z00 (z0D z0c (pv 1) z01) z03))))) z0Q)
    (z28 (z1C (z0S z2l (pv 7) z01 (z0Y _)) (z07 (z0H (i := 6) sc_lawlayer.nd rfl (Or.inl rfl) (z0A O_lawfar hr rfl (z00 (pv 0) (z00 (z0D z0c (pv 1) z01) z03))))) z0Q)
    (z07 (z0K (z1Z (z00 (pv 2) (z00 (z0A O_lawrows hr rfl (z00 (pv 0) (z00 (z0D z1P z01 (pv 1)) (z00 (pv 3) (z00 (pv 4) z03))))) (z00 (pv 5) (z00 (pv 6) z03)))))))))))))))), ?_⟩
  walk_at "rs"
  refine ⟨a, ns, k, _, _, rfl, hS, by omega, by omega, (by decide), by omega, fun r0 ra rb => ?_⟩
  walk_at "rs"
  refine ⟨fun σ' H' => H' = H /\ ∃ rk : Int, σ' = [some (.ref a), some (.int k), some (.int rk), none, none, none, none, none], ?_, ?_⟩
  . walk_at "rs"
    refine ⟨a, ns, _, _, _, rfl, hS, by omega, by omega, (by decide), by decide, fun z1 _ _ => ?_⟩
    walk_at "rs"
    refine z2Q (fun c => ?_) (fun c => ?_)
    . walk_at "rs"
      refine ⟨a, ns, _, rfl, hS, by omega, by omega, fun z => ?_⟩
      exact ⟨rfl, _, rfl⟩
    . exact ⟨rfl, _, rfl⟩
  rintro σ0 H0 ⟨rfl, rk, rfl⟩
  walk_at "rs"
  refine ⟨a, ns, _, _, _, rfl, hS, by omega, by omega, (by decide), by decide, fun w0 wa wb => ?_⟩
  walk_at "rs"
  refine ⟨a, ns, _, _, _, rfl, hS, by omega, by omega, (by decide), by decide, fun h0 ha hb => ?_⟩
  walk_at "rs"
  refine ⟨a, ns, _, _, _, rfl, hS, by omega, by omega, (by decide), by decide, fun x0 xa xb => ?_⟩
  walk_at "rs"
  refine ⟨a, ns, _, _, _, rfl, hS, by omega, by omega, (by decide), by decide, fun y0 ya yb => ?_⟩
  walk_at "rs"
  refine ⟨a, ns, _, _, _, rfl, hS, by omega, by omega, (by decide), by decide, fun z0 za zb => ?_⟩
  walk_at "rs"
  refine ⟨fun σ' H' => H' = H0 /\ ∃ x : Int, σ' = [some (.ref a), some (.int k), some (.int rk), some (.int (1 + w0)), some (.int (1 + h0)), some (.int x), some (.int (y0 - 4)), some (.int z0)], ?_, ?_⟩
  . walk_at "rs"
    refine z2Q (fun c => ?_) (fun c => ?_)
    . walk_at "rs"
      refine ⟨a, ns, _, rfl, hS, by omega, by omega, fun z => ?_⟩
      exact ⟨rfl, _, rfl⟩
    . exact ⟨rfl, _, rfl⟩
  rintro σ1 H1 ⟨rfl, x, rfl⟩
  refine ⟨fun σ' H' => H' = H1 /\ ∃ y : Int, σ' = [some (.ref a), some (.int k), some (.int rk), some (.int (1 + w0)), some (.int (1 + h0)), some (.int x), some (.int y), some (.int z0)], ?_, ?_⟩
  . walk_at "rs"
    refine z2Q (fun c => ?_) (fun c => ?_)
    . walk_at "rs"
      refine ⟨a, ns, _, rfl, hS, by omega, by omega, fun z => ?_⟩
      exact ⟨rfl, _, rfl⟩
    . exact ⟨rfl, _, rfl⟩
  rintro σ2 H2 ⟨rfl, y, rfl⟩
  walk_at "rs"
  refine ⟨a, ns, _, _, _, rfl, hS, by omega, by omega, by omega, by omega, by omega, by omega, fun rl ps rows H5 s5 nrl nps RA R => ?_⟩
  walk_at "rs"
  intro t nt
  exact q t ⟨rk, (1 + w0).toNat, (1 + h0).toNat, rows, x, y⟩ _ (s5.trans (Same.new nt)) ⟨rl, ps, upd_same, RA.mono (Same.new nt), R⟩
theorem z58 : FnScope ["_law_pile", "_law_i", "_law_j"] ["_law_pile", "_law_i", "_law_j"] (z02 z1A) := ⟨rfl, rfl, rfl, by decide +kernel, rfl, by decide +kernel, by decide +kernel⟩
theorem z59 {f : Addr} {fd : FuncData} (D : Df K mg "_law_over" z1A ["_law_pile", "_law_i", "_law_j"] f fd) (B : Blt mg) :
    Ow P w K mg base "_law_over" ["_law_pile", "_law_i", "_law_j"] 1 z49 := by
  refine D.ow (D.F.ok z58 (fun vs H Q E h => ?_) (fun cdv A outer s H vs Q E hr h => ?_))
  . obtain ⟨l, i, j, ts, Ls, rfl, _⟩ := h
    rfl
  obtain ⟨l, i, j, ts, Ls, rfl, LA, hi, hj, q⟩ := h
  obtain ⟨t1, _, ⟨r1, ps1, k1, _, _⟩, f1⟩ := LA.get hi
  obtain ⟨t2, _, ⟨r2, ps2, k2, _, _⟩, f2⟩ := LA.get hj
  refine ⟨_, (z07 (z0K (z9Z (z2n z7e (z0C z0J (z0C z0P (pv 0) (pv 1) (fun _ _ => rfl)) z01 (fun _ _ => rfl)) (z0C z0J (z0C z0P (pv 0) (pv 2) (fun _ _ => rfl)) z01 (fun _ _ => rfl)) (z0Y _)) (z5G (z7E (z2n z2l (z0C z0J (z0C z0P (pv 0) (pv 1) (fun _ _ => rfl)) z01 (fun _ _ => rfl)) (z0C z0J (z0C z0P (pv 0) (pv 2) (fun _ _ => rfl)) z01 (fun _ _ => rfl)) (z0Y _)) (z5G (z2n z7e (pv 1) (pv 2) (z0Y _)))))))), ?_⟩
  unfold z0b at q
  rw [z35 hi, z35 hj] at q
  refine ⟨_, rfl, _, rfl, l, _, _, _, rfl, rfl, SqL.of LA.lst, f1, t1, _, 0, _, rfl, rfl, SqT.of k1, rfl, ?_⟩
  refine ⟨_, rfl, _, rfl, l, _, _, _, rfl, rfl, SqL.of LA.lst, f2, t2, _, 0, _, rfl, rfl, SqT.of k2, rfl, ?_⟩
  walk_at "rs"
  refine z2Q (fun c => ?_) (fun c => ?_)
  . rw [decide_eq_true c, Bool.true_or] at q
    exact q
  rw [decide_eq_false c, Bool.false_or] at q
  refine ⟨_, rfl, _, rfl, l, _, _, _, rfl, rfl, SqL.of LA.lst, f1, t1, _, 0, _, rfl, rfl, SqT.of k1, rfl, ?_⟩
  refine ⟨_, rfl, _, rfl, l, _, _, _, rfl, rfl, SqL.of LA.lst, f2, t2, _, 0, _, rfl, rfl, SqT.of k2, rfl, ?_⟩
  walk_at "rs"
  refine z2Q (fun c2 => ?_) (fun c2 => ?_)
  . rw [decide_eq_true (V.int.inj c2), Bool.true_and] at q
    walk_at "rs"
    have e : decide ((i : Int) > (j : Int)) = decide (j < i) := by
      by_cases h : j < i
      . rw [decide_eq_true h, decide_eq_true (by omega)]
      . rw [decide_eq_false h, decide_eq_false (by omega)]
    rw [<- e] at q
    exact q
  . rw [decide_eq_false (fun z => c2 (congrArg V.int z)), Bool.false_and] at q
    exact q
theorem sc_lawread : FnScope ["_law_pile", "_law_y", "_law_most", "_law_some"] ["_law_pile", "_law_y", "_law_most"] (z02 z0n) := ⟨rfl, rfl, rfl, by decide +kernel, rfl, by decide +kernel, by decide +kernel⟩
theorem z5A {f : Addr} {fd : FuncData} (D : Df K mg "_law_read" z0n ["_law_pile", "_law_y", "_law_most"] f fd)
    (O_lawover : Ow P w K mg base "_law_over" ["_law_pile", "_law_i", "_law_j"] 1 z49) (B : Blt mg) :
    Ow P w K mg base "_law_read" ["_law_pile", "_law_y", "_law_most"] 2 z7a := by
  refine D.ow (D.F.ok sc_lawread (fun vs H Q E h => ?_) (fun cdv A outer s H vs Q E hr h => ?_))
  . obtain ⟨l, ts, Ls, y, m, rfl, _⟩ := h
    rfl
  obtain ⟨l, ts, Ls, y, mo, rfl, LA, hn, q⟩ := h
  refine ⟨_, (z04 (z0H (i := 3) sc_lawread.nd rfl (Or.inr rfl) (z1o (locs := ["_law_n"]) (ix := [0, 1]) rfl (BlkSc.look (dsc := z02 z0n) (N := ["_law_pile", "_law_y", "_law_most", "_law_some"]) rfl rfl (by decide +kernel)) (z0e rfl B.f_range (z00 (z0L z0E rfl B.f_len boot_len (z00 (pv 0) z03)) z03)) (fun _ _ _ _ _ _ => (z0I (i := 0) (by decide +kernel : (["_law_n", "_law_pile", "_law_y"] : List Str).Nodup) rfl (Or.inl rfl))) (fun _ _ _ _ _ _ => (z2s (z2o z5R z5Q (z0C z1F (z0C z1U (pv 1) (pv 0) (fun _ _ => rfl)) z01 (fun _ _ => rfl)) (pv 2) (z0D z0c (z0C z1F (z0C z1U (pv 1) (pv 0) (fun _ _ => rfl)) z01 (fun _ _ => rfl)) (z0L z5r rfl B.f_len boot_len (z00 (z0C z1F (z0C z1U (pv 1) (pv 0) (fun _ _ => rfl)) z01 (fun _ _ => rfl)) z03)))))) (fun _ _ _ _ _ _ => (pv 0))))
    (z07 (z0K (z70 (locs := ["_law_j"]) (ix := [3, 0, 2]) rfl (BlkScD.look (dsc := z02 z0n) (N := ["_law_pile", "_law_y", "_law_most", "_law_some"]) rfl rfl (by decide +kernel)) (z1I (pv 3)) (fun _ _ _ _ _ _ => (z0I (i := 0) (by decide +kernel : (["_law_j", "_law_some", "_law_pile", "_law_most"] : List Str).Nodup) rfl (Or.inr rfl))) (fun _ _ _ _ _ _ => (z2s (z0S z5Q (z0L z4r rfl B.f_len boot_len (z00 (z1o (locs := ["_law_i"]) (ix := [2, 0]) rfl (BlkSc.lookD (N := ["_law_j", "_law_some", "_law_pile", "_law_most"]) rfl (by decide +kernel)) (z71 (pv 1)) (fun _ _ _ _ _ _ => (z0I (i := 0) (by decide +kernel : (["_law_i", "_law_pile", "_law_j"] : List Str).Nodup) rfl (Or.inl rfl))) (fun _ _ _ _ _ _ => (z2s (z1Y (z0A O_lawover hr rfl (z00 (pv 1) (z00 (pv 0) (z00 (pv 2) z03))))))) (fun _ _ _ _ _ _ => (pv 0))) z03)) (pv 3) (z0Y _)))) (fun _ _ _ _ _ _ => (pv 0)))))), ?_⟩
  have hl := LA.len
  walk_at "rs"
  refine ⟨l, _, rfl, .inl (SqL.of LA.lst), ?_⟩
  rw [List.length_map, hl]
  walk_at "rs"
  refine ⟨(z2a (by omega) (by omega)).1, (z2a (by omega) (by omega)).2, ?_⟩
  refine z2v (n := Ls.length) (fun i σ ys H3 => ∃ v, σ = [v, some (.ref l), some (.int y)] /\ ys = z0l (L2.onRow (onL Ls y) i) /\ H3 = H) ⟨none, rfl, rfl, rfl⟩ (z0G (by omega)) ?_ ?_ ?_ ?_ ?_
  . rintro i σ ys H3 ⟨v, _, rfl, _⟩
    unfold z0l
    rw [List.length_map]
    exact z3d _ _
  . rintro σ ys H3 _
    show ((Ls.length : Int)).toNat <= Ls.length
    omega
  . intro i σ ys H3 hi _
    show i < ((Ls.length : Int)).toNat
    omega
  . rintro i σ ys H3 x H' Z hi ⟨v, rfl, rfl, rfl⟩ ⟨rfl, rfl⟩ hZ
    have ei : (0 : Int) + (i : Int) = ((i : Nat) : Int) := by omega
    obtain ⟨t, _, ⟨rl, ps, k1, RA, R⟩, f1⟩ := LA.get hi
    rw [<- ei] at f1
    have rn : L2.onRow (onL Ls y) (i + 1) = L2.onRow (onL Ls y) i ++ if onL Ls y i = true then [i] else [] := by
      unfold L2.onRow
      rw [List.range_succ, List.filter_append]
      congr 1
      by_cases c : onL Ls y i = true
      . rw [if_pos c, List.filter_cons_of_pos c]
        rfl
      . rw [if_neg c, List.filter_cons_of_neg c]
        rfl
    have no : onL Ls y i = false -> z0l (L2.onRow (onL Ls y) i) = z0l (L2.onRow (onL Ls y) (i + 1)) := fun e => by
      rw [rn, e, if_neg Bool.false_ne_true, List.append_nil]
    have hl1 := RA.len
    have hl2 := R.len
    refine ⟨_, rfl, _, rfl, l, _, _, _, rfl, rfl, SqL.of LA.lst, f1, t, _, 3, _, rfl, rfl, SqT.of k1, rfl, ?_⟩
    walk_at "rs"
    refine z2Q (fun c1 => ?_) (fun c1 => ?_)
    . refine ⟨_, rfl, _, rfl, l, _, _, _, rfl, rfl, SqL.of LA.lst, f1, t, _, 3, _, rfl, rfl, SqT.of k1, rfl, ?_⟩
      refine ⟨_, rfl, _, rfl, l, _, _, _, rfl, rfl, SqL.of LA.lst, f1, t, _, 1, _, rfl, rfl, SqT.of k1, rfl, rl, _, rfl, .inl (SqL.of RA.lst), ?_⟩
      rw [List.length_map, hl1, hl2]
      walk_at "rs"
      refine z2Q (fun c2 => ?_) (fun c2 => ?_)
      . have on : onL Ls y i = true := by
          rw [z3c hi, decide_eq_true (by omega), decide_eq_true (by omega)]
          rfl
        refine ⟨_, rfl, hZ _ _ _ ⟨_, rfl, ?_, rfl⟩⟩
        rw [rn, on, if_pos rfl, ei]
        unfold z0l
        rw [List.map_append]
        rfl
      . exact hZ _ _ _ ⟨_, rfl, no (by rw [z3c hi, decide_eq_false (p := y < _) (by omega), Bool.and_false]), rfl⟩
    . exact ⟨_, rfl, z7L (hZ _ _ _ ⟨_, rfl, no (by rw [z3c hi, decide_eq_false (p := _ <= y) (by omega), Bool.false_and]), rfl⟩)⟩
  rintro σ ys H3 ⟨v, rfl, rfl, rfl⟩ so nso
  have s4 := Same.new (o := .lst (z0l (L2.onRow (onL Ls y) Ls.length))) nso
  have g4 : (upd H3 so (.lst (z0l (L2.onRow (onL Ls y) Ls.length)))) so = some (.lst (z0l (L2.onRow (onL Ls y) Ls.length))) := upd_same
  have LA4 := LA.mono s4
  generalize upd H3 so (.lst (z0l (L2.onRow (onL Ls y) Ls.length))) = H4 at s4 g4 LA4
  have hN := z3d (onL Ls y) Ls.length
  have memN : ∀ j ∈ L2.onRow (onL Ls y) Ls.length, j < Ls.length := fun j hj => List.mem_range.mp (List.mem_filter.mp hj).1
  have eR : (List.range Ls.length).filter (rdB Ls mo y) = (L2.onRow (onL Ls y) Ls.length).filter fun j => decide (((L2.onRow (onL Ls y) Ls.length).filter fun i => z0b (z0a Ls) i j).length < mo) := by
    have e : L2.onRow (onL Ls y) Ls.length = (List.range Ls.length).filter (onL Ls y) := rfl
    conv => rhs; rw [e]
    rw [List.filter_filter]
    refine List.filter_congr fun j _ => ?_
    unfold rdB z48
    rw [Bool.and_comm, <- e]
  rw [eR] at q
  generalize L2.onRow (onL Ls y) Ls.length = N at g4 hN memN q
  have nvl : (z0l N).length = N.length := by unfold z0l; rw [List.length_map]
  refine ⟨_, rfl, so, rfl, ⟨_, SqL.of g4⟩, ?_⟩
  refine z2v (n := N.length) (fun k σ ys H5 => ∃ v, σ = [v, some (.ref so), some (.ref l), some (.int (mo : Int))] /\ ys = z0l ((N.take k).filter fun j => decide ((N.filter fun i => z0b (z0a Ls) i j).length < mo)) /\ Same H4 H5) ⟨none, rfl, rfl, Same.refl _⟩ (z0G (by omega)) ?_ ?_ ?_ ?_ ?_
  . rintro k σ ys H5 ⟨v, _, rfl, _⟩
    unfold z0l
    rw [List.length_map]
    have h1 := List.length_filter_le (fun j => decide ((N.filter fun i => z0b (z0a Ls) i j).length < mo)) (N.take k)
    rw [List.length_take] at h1
    omega
  . rintro σ ys H5 ⟨v, _, _, s5⟩
    exact ⟨_, SqL.of (s5 _ _ g4), by rw [nvl]; exact Nat.le_refl _⟩
  . rintro k σ ys H5 hk ⟨v, _, _, s5⟩
    exact ⟨_, .int ((N[k] : Nat) : Int), SqL.of (s5 _ _ g4), by unfold z0l; rw [List.getElem?_map, List.getElem?_eq_getElem hk]; rfl⟩
  . rintro k σ ys H5 x H' Z hk ⟨v, rfl, rfl, s5⟩ ⟨rfl, hx⟩ hZ
    have e := hx _ (SqL.of (s5 _ _ g4))
    unfold z0l at e
    rw [List.getElem?_map, List.getElem?_eq_getElem hk] at e
    cases e
    have hj := memN _ (List.getElem_mem hk)
    have g5 := s5 _ _ g4
    have tk : (N.take (k + 1)).filter (fun j => decide ((N.filter fun i => z0b (z0a Ls) i j).length < mo)) = (N.take k).filter (fun j => decide ((N.filter fun i => z0b (z0a Ls) i j).length < mo)) ++ if decide ((N.filter fun i => z0b (z0a Ls) i N[k]).length < mo) = true then [N[k]] else [] := by
      rw [List.take_succ, List.getElem?_eq_getElem hk, List.filter_append]
      congr 1
      exact z2h (fun j => decide ((N.filter fun i => z0b (z0a Ls) i j).length < mo)) N[k]
    walk_at "rs"
    refine ⟨⟨_, SqL.of g5⟩, ?_⟩
    refine z2v (n := N.length) (fun i σ ys H7 => ∃ v, σ = [v, some (.ref l), some (.int ((N[k] : Nat) : Int))] /\ ys = z0l ((N.take i).filter fun i => z0b (z0a Ls) i N[k]) /\ H7 = H') ⟨none, rfl, rfl, rfl⟩ (z0G (by omega)) ?_ ?_ ?_ ?_ ?_
    . rintro i σ ys H7 ⟨v, _, rfl, _⟩
      unfold z0l
      rw [List.length_map]
      have h1 := List.length_filter_le (fun i => z0b (z0a Ls) i N[k]) (N.take i)
      rw [List.length_take] at h1
      omega
    . rintro σ ys H7 ⟨v, _, _, rfl⟩
      exact ⟨_, SqL.of g5, by rw [nvl]; exact Nat.le_refl _⟩
    . rintro i σ ys H7 hi ⟨v, _, _, rfl⟩
      exact ⟨_, .int ((N[i] : Nat) : Int), SqL.of g5, by unfold z0l; rw [List.getElem?_map, List.getElem?_eq_getElem hi]; rfl⟩
    . rintro i σ ys H7 x H'' Z' hi ⟨v, rfl, rfl, rfl⟩ ⟨rfl, hx⟩ hZ'
      have e := hx _ (SqL.of g5)
      unfold z0l at e
      rw [List.getElem?_map, List.getElem?_eq_getElem hi] at e
      cases e
      have tk2 : (N.take (i + 1)).filter (fun i => z0b (z0a Ls) i N[k]) = (N.take i).filter (fun i => z0b (z0a Ls) i N[k]) ++ if z0b (z0a Ls) N[i] N[k] = true then [N[i]] else [] := by
        rw [List.take_succ, List.getElem?_eq_getElem hi, List.filter_append]
        congr 1
        exact z2h (fun i => z0b (z0a Ls) i N[k]) N[i]
      walk_at "rs"
      refine ⟨l, N[i], N[k], ts, Ls, rfl, LA4.mono s5, memN _ (List.getElem_mem hi), hj, ?_⟩
      walk_at "rs"
      cases e : z0b (z0a Ls) N[i] N[k] with
      | false =>
        rw [e, if_neg Bool.false_ne_true, List.append_nil] at tk2
        exact z7L (hZ' _ _ _ ⟨_, rfl, by rw [tk2], rfl⟩)
      | true =>
        rw [e, if_pos rfl] at tk2
        refine z8j ⟨_, rfl, ?_⟩
        refine hZ' _ _ _ ⟨_, rfl, ?_, rfl⟩
        rw [tk2]
        unfold z0l
        rw [List.map_append]
        rfl
    rintro σ ys H7 ⟨v, rfl, rfl, rfl⟩ lc nlc
    rw [List.take_length]
    refine ⟨lc, _, rfl, .inl (SqL.of upd_same), ?_⟩
    have nvc : (z0l (N.filter fun i => z0b (z0a Ls) i N[k])).length = (N.filter fun i => z0b (z0a Ls) i N[k]).length := by unfold z0l; rw [List.length_map]
    rw [nvc]
    have s8 := s5.trans (Same.new (o := .lst (z0l (N.filter fun i => z0b (z0a Ls) i N[k]))) nlc)
    walk_at "rs"
    refine z2Q (fun c => ?_) (fun c => ?_)
    . rw [decide_eq_true (by omega), if_pos rfl] at tk
      refine ⟨_, rfl, ?_⟩
      refine hZ _ _ _ ⟨_, rfl, ?_, s8⟩
      rw [tk]
      unfold z0l
      rw [List.map_append]
      rfl
    . rw [decide_eq_false (by omega), if_neg Bool.false_ne_true, List.append_nil] at tk
      exact hZ _ _ _ ⟨_, rfl, by rw [tk], s8⟩
  rintro σ ys H5 ⟨v, rfl, rfl, s5⟩ l2 nl2
  rw [List.take_length]
  exact q l2 _ ((s4.trans s5).trans (Same.new nl2)) upd_same
theorem sc_lawcell : FnScope ["_law_pile", "_law_some", "_law_x", "_law_y", "_law_ground", "_law_best", "_law_n", "_law_i", "_law_j"] ["_law_pile", "_law_some", "_law_x", "_law_y", "_law_ground"] (z02 z1B) := ⟨rfl, rfl, rfl, by decide +kernel, rfl, by decide +kernel, by decide +kernel⟩
theorem z5B {f : Addr} {fd : FuncData} (D : Df K mg "_law_cell" z1B ["_law_pile", "_law_some", "_law_x", "_law_y", "_law_ground"] f fd)
    (O_lawover : Ow P w K mg base "_law_over" ["_law_pile", "_law_i", "_law_j"] 1 z49) (B : Blt mg) :
    Ow P w K mg base "_law_cell" ["_law_pile", "_law_some", "_law_x", "_law_y", "_law_ground"] 2 z6Z := by
  refine D.ow (D.F.ok sc_lawcell (fun vs H Q E h => ?_) (fun cdv A outer s H vs Q E hr h => ?_))
  . obtain ⟨l, d, ts, Ls, m, x, y, g, rfl, _⟩ := h
    rfl
  obtain ⟨l, d, ts, Ls, mo, x, y, g, rfl, LA, hn, gd, q⟩ := h
  have fin : ∀ r, BestS ((List.range Ls.length).filter (rdB Ls mo y)) (z1e Ls x y) (z0a Ls) r -> Q (z0M (cellAt Ls g x y r)) H := fun r hb => by
    have := q H (Same.refl _)
    rw [z4c hb.best] at this
    exact this
  have mem : ∀ n ∈ (List.range Ls.length).filter (rdB Ls mo y), n < Ls.length /\ onL Ls y n = true := fun n hn => by
    obtain ⟨h1, h2⟩ := List.mem_filter.mp hn
    refine ⟨List.mem_range.mp h1, ?_⟩
    unfold rdB z48 at h2
    exact (Bool.and_eq_true_iff.mp h2).1
  have cellOf : ∀ n (hn : n < Ls.length), onL Ls y n = true -> 0 <= x - Ls[n].x -> x - Ls[n].x < (Ls[n].w : Int) -> ∃ t rl ps pr c, atI (ts.map V.ref) ((n : Nat) : Int) = some (.ref t) /\ H t = some (.tup [.int Ls[n].rank, .ref rl, .int Ls[n].x, .int Ls[n].y]) /\ H rl = some (.lst ((ps : List Addr).map V.ref)) /\ atI (ps.map V.ref) (y - Ls[n].y) = some (.ref pr) /\ (∃ cs : List V, H pr = some (.lst cs) /\ atI cs (x - Ls[n].x) = some (z0M c)) /\ z1L Ls[n] x y = c := fun n hn on x0 x1 => by
    obtain ⟨t, _, ⟨rl, ps, k1, RA, R⟩, f1⟩ := LA.get hn
    rw [z3c hn] at on
    have on' : Ls[n].y <= y /\ y < Ls[n].y + (Ls[n].h : Int) := by simpa using on
    have hR := R.len
    have hy : (y - Ls[n].y).toNat < Ls[n].rows.length := by omega
    have hw := (R.row0 hy).1
    have hx : (x - Ls[n].x).toNat < (Ls[n].rows[(y - Ls[n].y).toNat]'hy).length := by omega
    obtain ⟨pr, epr, gpr⟩ := RA.at hy
    refine ⟨t, rl, ps, pr, _, f1, k1, RA.lst, ?_, ⟨_, gpr, ?_⟩, z7w x0 x1 (by omega) (by omega) hy hx⟩
    . have e : y - Ls[n].y = (((y - Ls[n].y).toNat : Nat) : Int) := by omega
      rw [e]
      exact z0y (by rw [List.getElem?_map, epr]; rfl)
    . have e : x - Ls[n].x = (((x - Ls[n].x).toNat : Nat) : Int) := by omega
      conv => lhs; rw [e]
      exact z0y (by rw [List.getElem?_map, List.getElem?_eq_getElem hx]; rfl)
  refine ⟨_, (z04 (z0H (i := 5) sc_lawcell.nd rfl (Or.inl rfl) z1q)
    (z04 (z1f PassesOwn.never rfl (z1I (pv 1)) (z0I (i := 6) sc_lawcell.nd rfl (Or.inl rfl)) (z04 (z0H (i := 7) sc_lawcell.nd rfl (Or.inl rfl) (z0D z1S (pv 2) (z0C z0J (z0C z0P (pv 0) (pv 6) (fun _ _ => rfl)) z01 (fun _ _ => rfl))))
    (z04 (z0H (i := 8) sc_lawcell.nd rfl (Or.inl rfl) (z0D z1S (pv 3) (z0C z0J (z0C z0P (pv 0) (pv 6) (fun _ _ => rfl)) z01 (fun _ _ => rfl))))
    (z07 (z1C (PW.pt (z8U (z2o z5R z5Q z01 (pv 7) (z0L z0E rfl B.f_len boot_len (z00 (z0C z0P (z0C z0J (z0C z0P (pv 0) (pv 6) (fun _ _ => rfl)) z01 (fun _ _ => rfl)) z01 (fun _ _ => rfl)) z03))) (z7d (z0S z2m (z0C z0P (z0C z0P (z0C z0J (z0C z0P (pv 0) (pv 6) (fun _ _ => rfl)) z01 (fun _ _ => rfl)) (pv 8) (fun _ _ => rfl)) (pv 7) (fun _ _ => rfl)) z1q (z0Y _))))) (z07 (z1C (PW.pt (z5F (z0S z7H (pv 5) z1q (z0Y _)) (z3A (z1Y (z0A O_lawover hr rfl (z00 (pv 0) (z00 (pv 6) (z00 (pv 5) z03)))))))) (z07 (z0H (i := 5) sc_lawcell.nd rfl (Or.inl rfl) (pv 6))) z0Q)) z0Q)))))
    (z04 (z1C (z0S z7H (pv 5) z1q (z0Y _)) (z07 (z0K (pv 4))) z0Q)
    (z07 (z0K (z0C z0P (z0C z0P (z0C z0J (z0C z0P (pv 0) (pv 5) (fun _ _ => rfl)) z01 (fun _ _ => rfl)) (z0D z1S (pv 3) (z0C z0J (z0C z0P (pv 0) (pv 5) (fun _ _ => rfl)) z01 (fun _ _ => rfl))) (fun _ _ => rfl)) (z0D z1S (pv 2) (z0C z0J (z0C z0P (pv 0) (pv 5) (fun _ _ => rfl)) z01 (fun _ _ => rfl))) (fun _ _ => rfl))))))), ?_⟩
  walk_at "rs"
  refine ⟨⟨_, SqL.of gd⟩, ?_⟩
  generalize (List.range Ls.length).filter (rdB Ls mo y) = S at gd fin mem
  have nvl : (z0l S).length = S.length := by unfold z0l; rw [List.length_map]
  refine z2k (K := K) (a := d) (xs := z0l S) (fun k σ H2 => H2 = H /\ ∃ r v6 v7 v8, σ = [some (.ref l), some (.ref d), some (.int x), some (.int y), some (z0M g), some (zAI r), v6, v7, v8] /\ BestS (S.take k) (z1e Ls x y) (z0a Ls) r) ⟨rfl, none, none, none, none, rfl, fun i hi => nomatch hi⟩ (fun k σ H2 _ ⟨e, _⟩ => by rw [e]; exact SqL.of gd) ?_ ?_
  . rintro k v σ H2 hk ⟨rfl, r, v6, v7, v8, rfl, hb⟩
    have hkl : k < S.length := by
      have := (List.getElem?_eq_some_iff.mp hk).1
      omega
    unfold z0l at hk
    rw [List.getElem?_map, List.getElem?_eq_getElem hkl] at hk
    cases hk
    obtain ⟨hN, on⟩ := mem _ (List.getElem_mem hkl)
    have tk : S.take (k + 1) = S.take k ++ [S[k]] := by
      rw [List.take_succ, List.getElem?_eq_getElem hkl]
      rfl
    have es := z36 (x := x) (y := y) hN
    obtain ⟨t0, _, ⟨rl0, ps0, k10, RA0, R0⟩, f10⟩ := LA.get hN
    have skip : z1e Ls x y S[k] = false -> BestS (S.take (k + 1)) (z1e Ls x y) (z0a Ls) r := fun e => by
      rw [tk]
      exact hb.skip e
    have off : ¬ (0 <= x - Ls[S[k]].x /\ x - Ls[S[k]].x < (Ls[S[k]].w : Int)) -> z1e Ls x y S[k] = false := fun n => by
      rw [es]
      unfold z1L look
      rw [if_neg (fun z => n ⟨z.1, z.2.1⟩)]
      rfl
    obtain ⟨p0, at0, gp0⟩ := RA0.atI (i := 0) (by have := R0.len; have := R0.h1; omega)
    have hw0 := (R0.row0 (i := 0) (by have := R0.len; have := R0.h1; omega)).1
    walk_at "rs"
    refine ⟨l, _, _, _, rfl, rfl, SqL.of LA.lst, f10, t0, _, 2, _, rfl, rfl, SqT.of k10, rfl, ?_⟩
    walk_at "rs"
    refine ⟨l, _, _, _, rfl, rfl, SqL.of LA.lst, f10, t0, _, 3, _, rfl, rfl, SqT.of k10, rfl, ?_⟩
    walk_at "rs"
    refine z2Q (fun c1 => ?_) (fun c1 => ?_)
    . refine ⟨_, rfl, _, rfl, l, _, _, _, rfl, rfl, SqL.of LA.lst, f10, t0, _, 1, _, rfl, rfl, SqT.of k10, rfl, rl0, _, 0, _, rfl, rfl, SqL.of RA0.lst, at0, p0, _, rfl, .inl (SqL.of gp0), ?_⟩
      rw [List.length_map, hw0]
      walk_at "rs"
      refine z2Q (fun c2 => ?_) (fun c2 => ?_)
      . obtain ⟨t, rl, ps, pr, c, f1, k1, g1, ar, ⟨cs, gcs, ac⟩, el⟩ := cellOf _ hN on c1 c2
        refine ⟨_, rfl, _, rfl, l, _, _, _, rfl, rfl, SqL.of LA.lst, f1, t, _, 1, _, rfl, rfl, SqT.of k1, rfl, _, rfl, rl, _, _, _, rfl, rfl, SqL.of g1, ar, _, rfl, pr, _, _, _, rfl, rfl, SqL.of gcs, ac, ?_⟩
        rw [el] at es
        cases c with
        | none =>
          walk_at "rs"
          exact ⟨r, _, _, _, rfl, skip es⟩
        | some z =>
          walk_at "rs"
          cases r with
          | none =>
            walk_at "rs"
            exact ⟨some S[k], _, _, _, rfl, by rw [tk]; exact hb.first es⟩
          | some b =>
            have hbm := (mem b (List.mem_of_mem_take hb.1)).1
            walk_at "rs"
            refine ⟨l, S[k], b, ts, Ls, rfl, LA, hN, hbm, ?_⟩
            walk_at "rs"
            cases eo : z0b (z0a Ls) S[k] b with
            | true => exact z8j ⟨_, rfl, rfl, some S[k], _, _, _, rfl, by rw [tk]; exact hb.over es eo⟩
            | false => exact z7L ⟨rfl, some b, _, _, _, rfl, by rw [tk]; exact hb.keep eo⟩
      . exact ⟨rfl, r, _, _, _, rfl, skip (off (by omega))⟩
    . exact ⟨_, rfl, z7L ⟨rfl, r, _, _, _, rfl, skip (off (by omega))⟩⟩
  . rintro σ H2 ⟨rfl, r, v6, v7, v8, rfl, hb⟩
    rw [nvl, List.take_length] at hb
    have hf := fin r hb
    cases r with
    | none =>
      walk_at "rs"
      exact hf
    | some b =>
      obtain ⟨hN, on⟩ := mem b hb.1
      have es := z36 (x := x) (y := y) hN
      rw [hb.2.1] at es
      have hl := z6J es.symm
      obtain ⟨t, rl, ps, pr, c, f1, k1, g1, ar, ⟨cs, gcs, ac⟩, el⟩ := cellOf _ hN on hl.1 hl.2.1
      walk_at "rs"
      refine ⟨l, _, _, _, rfl, rfl, SqL.of LA.lst, f1, t, _, 1, _, rfl, rfl, SqT.of k1, rfl, ?_⟩
      walk_at "rs"
      refine ⟨l, _, _, _, rfl, rfl, SqL.of LA.lst, f1, t, _, 3, _, rfl, rfl, SqT.of k1, rfl, ?_⟩
      walk_at "rs"
      refine ⟨rl, _, _, _, rfl, rfl, SqL.of g1, ar, ?_⟩
      walk_at "rs"
      refine ⟨l, _, _, _, rfl, rfl, SqL.of LA.lst, f1, t, _, 2, _, rfl, rfl, SqT.of k1, rfl, ?_⟩
      walk_at "rs"
      refine ⟨pr, _, _, _, rfl, rfl, SqL.of gcs, ac, ?_⟩
      have ec : cellAt Ls g x y (some b) = c := by
        show ((Ls[b]?).map fun L => z1L L x y).join = c
        rw [List.getElem?_eq_getElem hN]
        exact el
      rw [ec] at hf
      exact hf
theorem sc_lawdue : FnScope ["_law_board", "_law_pile", "_law_most", "_law_rows_here", "_law_y", "_law_some"] ["_law_board", "_law_pile", "_law_most"] (z02 z1E) := ⟨rfl, rfl, rfl, by decide +kernel, rfl, by decide +kernel, by decide +kernel⟩
theorem z6g {f : Addr} {fd : FuncData} (D : Df K mg "_law_due" z1E ["_law_board", "_law_pile", "_law_most"] f fd)
    (O_lawbits : Ow P w K mg base "_law_bits" ["_law_rows_here"] 1 z2u)
    (O_lawread : Ow P w K mg base "_law_read" ["_law_pile", "_law_y", "_law_most"] 2 z7a)
    (O_lawcell : Ow P w K mg base "_law_cell" ["_law_pile", "_law_some", "_law_x", "_law_y", "_law_ground"] 2 z6Z) (B : Blt mg) :
    Ow P w K mg base "_law_due" ["_law_board", "_law_pile", "_law_most"] 3 z6a := by
  refine D.ow (D.F.ok sc_lawdue (fun vs H Q E h => ?_) (fun cdv A outer s H vs Q E hr h => ?_))
  . obtain ⟨b, l, ps, ts, Ls, m, w, h, brd, rfl, _⟩ := h
    rfl
  obtain ⟨b, l, ps, ts, Ls, mo, wd, hg, brd, rfl, RA, R, LA, hn, q⟩ := h
  have h1 := R.h1
  have h2 := R.h2
  have w2 := R.w2
  have hR := R.len
  have hpl := RA.len
  have ok := LA.ok
  obtain ⟨p0, at0, gp0⟩ := RA.atI (i := 0) (by omega)
  have hw0 := (R.row0 (i := 0) (by omega)).1
  refine ⟨_, (z04 (z0H (i := 3) sc_lawdue.nd rfl (Or.inl rfl) (z3B z03))
    (z04 (z1f PassesOwn.never rfl (z0e rfl B.f_range (z00 (z0L z0E rfl B.f_len boot_len (z00 (pv 0) z03)) z03)) (z0I (i := 4) sc_lawdue.nd rfl (Or.inr rfl)) (z04 (z0H (i := 5) sc_lawdue.nd rfl (Or.inr rfl) (z0A O_lawread hr rfl (z00 (pv 1) (z00 (pv 4) (z00 (pv 2) z03)))))
    (z07 (z2j (z6m PySem.F.plainAttrs_list PySem.F.slot_list_append PySem.F.type_list_append z1g (pv 3) (z00 (z1o (locs := ["_law_x"]) (ix := [1, 5, 4, 0]) rfl (BlkSc.look (dsc := z02 z1E) (N := ["_law_board", "_law_pile", "_law_most", "_law_rows_here", "_law_y", "_law_some"]) rfl rfl (by decide +kernel)) (z0e rfl B.f_range (z00 (z0L z0E rfl B.f_len boot_len (z00 (z0C z0P (pv 0) z01 (fun _ _ => rfl)) z03)) z03)) (fun _ _ _ _ _ _ => (z0I (i := 0) (by decide +kernel : (["_law_x", "_law_pile", "_law_some", "_law_y", "_law_board"] : List Str).Nodup) rfl (Or.inl rfl))) (fun _ _ _ _ _ _ => z0u) (fun _ _ _ _ _ _ => (z0A O_lawcell hr rfl (z00 (pv 1) (z00 (pv 2) (z00 (pv 0) (z00 (pv 3) (z00 (z0C z1U (z0C z1U (pv 4) (pv 3) (fun _ _ => rfl)) (pv 0) (fun _ _ => rfl)) z03)))))))) z03))))))
    (z07 (z0K (z0A O_lawbits hr rfl (z00 (pv 3) z03)))))), ?_⟩
  walk_at "rs"
  intro d nd
  have RB0 := z5w (Same.refl H) nd
  generalize upd H d (.lst []) = H1 at RB0
  walk_at "rs"
  refine ⟨b, _, rfl, .inl (SqL.of (RB0.same _ _ RA.lst)), ?_⟩
  rw [List.length_map, hpl, hR]
  walk_at "rs"
  refine ⟨(z2a (by omega) (by omega)).1, (z2a (by omega) (by omega)).2, ?_⟩
  refine z23 (n := ((hg : Int)).toNat) (fun y σ H2 => ∃ qs v4 v5, σ = [some (.ref b), some (.ref l), some (.int (mo : Int)), some (.ref d), v4, v5] /\ RowsB H H2 d qs (z1G wd y fun x y => z1s Ls (z0Z brd x y) mo (x : Int) (y : Int))) ⟨[], none, none, rfl, RB0⟩ ?_ ?_
  . rintro y σ H2 hy ⟨qs, v4, v5, rfl, RB⟩
    have ey : (0 : Int) + (y : Int) = ((y : Nat) : Int) := by omega
    walk_at "rs"
    refine ⟨l, ts, Ls, _, mo, rfl, LA.mono RB.same, hn, fun so H3 s3 gso => ?_⟩
    have RB3 := RB.mono s3
    have RA3 := RA.mono RB3.same
    have LA3 := LA.mono RB3.same
    rw [ey] at gso
    have hyl : y < brd.length := by omega
    obtain ⟨pr, epr, gpr⟩ := RA3.at hyl
    have hwr := (R.row0 hyl).1
    have ar : atI (ps.map V.ref) (0 + (y : Int)) = some (.ref pr) := by
      rw [ey]
      exact z0y (by rw [List.getElem?_map, epr]; rfl)
    walk_at "rs"
    refine ⟨.inl ⟨rfl, _, SqL.of RB3.rat.lst⟩, ?_⟩
    refine ⟨_, rfl, b, _, 0, _, rfl, rfl, SqL.of RA3.lst, at0, p0, _, rfl, .inl (SqL.of (RB3.same _ _ gp0)), ?_⟩
    rw [List.length_map, hw0]
    walk_at "rs"
    refine ⟨(z2a (by omega) (by omega)).1, (z2a (by omega) (by omega)).2, ?_⟩
    refine z0v (n := ((wd : Int)).toNat) (fun i σ zs H4 => ∃ v, σ = [v, some (.ref l), some (.ref so), some (.int (0 + (y : Int))), some (.ref b)] /\ zs = ((List.range i).map fun x => z1s Ls (z0Z brd x y) mo (x : Int) (y : Int)).map z0M /\ Same H3 H4) ⟨none, rfl, rfl, Same.refl _⟩ (Nat.le_of_lt (z0G (by omega))) ?_ ?_ ?_ ?_ ?_
    . rintro i σ zs H4 ⟨v, _, rfl, _⟩
      rw [List.length_map, List.length_map, List.length_range]
    . rintro σ zs H4 _
      show ((wd : Int)).toNat <= ((wd : Int)).toNat
      exact Nat.le_refl _
    . intro i σ zs H4 hi _
      show i < ((wd : Int)).toNat
      exact hi
    . rintro i σ zs H4 x H' Z hi ⟨v, rfl, rfl, s4⟩ ⟨rfl, rfl⟩ hZ
      have ei : (0 : Int) + (i : Int) = ((i : Nat) : Int) := by omega
      have hxr : i < (brd[y]'hyl).length := by omega
      have ac : atI ((brd[y]'hyl).map z0M) (0 + (i : Int)) = some (z0M ((brd[y]'hyl)[i]'hxr)) := by
        rw [ei]
        exact z0y (by rw [List.getElem?_map, List.getElem?_eq_getElem hxr]; rfl)
      have e1 : z0Z brd i y = (brd[y]'hyl)[i]'hxr := by
        unfold z0Z
        rw [List.getElem?_eq_getElem hyl]
        show ((brd[y]'hyl)[i]?).join = _
        rw [List.getElem?_eq_getElem hxr]
        rfl
      rw [<- e1] at ac
      walk_at "rs"
      refine ⟨b, _, _, _, rfl, rfl, SqL.of (s4 _ _ RA3.lst), ar, _, rfl, pr, _, _, _, rfl, rfl, SqL.of (s4 _ _ gpr), ac, ?_⟩
      refine ⟨l, so, ts, Ls, mo, ((i : Nat) : Int), ((y : Nat) : Int), z0Z brd i y, by rw [ei, ey]; rfl, LA3.mono s4, hn, s4 _ _ gso, fun H5 s5 => ?_⟩
      refine hZ _ _ _ ⟨_, rfl, ?_, s4.trans s5⟩
      rw [List.range_succ, List.map_append, List.map_append]
      rfl
    rintro σ zs H4 ⟨v, rfl, rfl, s4⟩ p np
    have np3 : H p = none := (RB3.same.trans s4).free np
    have npd : p ≠ d := fun e => by
      have := (RB3.mono s4).rat.lst
      rw [<- e, np] at this
      cases this
    have npp : p ∉ qs := fun hp => by
      obtain ⟨i, hi, e⟩ := List.mem_iff_getElem.mp hp
      have hq := RB3.rat.len
      have := (RB3.mono s4).rat.row i p _ (by rw [List.getElem?_eq_getElem hi, e]) (List.getElem?_eq_getElem (by omega))
      rw [np] at this
      cases this
    rw [Int.toNat_natCast]
    have RB5 := (RB3.mono s4).put (o := .lst (((List.range wd).map fun x => z1s Ls (z0Z brd x y) mo (x : Int) (y : Int)).map z0M)) np3 npd npp
    have hq := RB5.rat.len
    rw [z2z] at hq
    refine ⟨d, _, _, rfl, rfl, RB5.rat.lst, by rw [List.length_map]; exact z0G (by omega), ?_⟩
    refine ⟨qs ++ [p], _, _, rfl, ?_⟩
    rw [z6A]
    exact RB5.push np3 npd upd_same
  . rintro σ H2 ⟨qs, v4, v5, rfl, RB⟩
    rw [Int.toNat_natCast] at RB
    walk_at "rs"
    refine ⟨d, qs, _, wd, hg, rfl, RB.rat, z3e ok R, fun p H3 s3 PP => ?_⟩
    exact q p H3 (RB.same.trans s3) PP
theorem sc_law : FnScope ["_law_script", "_law_wide", "_law_board", "_law_pile", "_law_most", "_law_handed", "_law_beside", "_law_due_here"] ["_law_script"] (z02 z1u) := ⟨rfl, rfl, rfl, by decide +kernel, rfl, by decide +kernel, by decide +kernel⟩
theorem z9D {f : Addr} {fd : FuncData} (D : Df K mg "law" z1u ["_law_script"] f fd)
    (O_beamed : Ow P w K mg base "beamed" ["board", "pile", "most"] 6 (z4d tp z4e))
    (O_lawdraw : Ow P w K mg base "_law_draw" ["_law_script", "_law_k", "_law_prime", "_law_many"] 1 (z31 K))
    (O_lawrows : Ow P w K mg base "_law_rows" ["_law_script", "_law_k", "_law_wide", "_law_high"] 3 (z5u K))
    (O_lawbits : Ow P w K mg base "_law_bits" ["_law_rows_here"] 1 z2u)
    (O_lawispic : Ow P w K mg base "_law_is_pic" ["_law_found", "_law_due_here"] 2 z6H)
    (O_lawlayer : Ow P w K mg base "_law_layer" ["_law_script", "_law_k"] 4 (z3f K))
    (O_lawdue : Ow P w K mg base "_law_due" ["_law_board", "_law_pile", "_law_most"] 3 z6a) (B : Blt mg) :
    FnOk P w K mg base CX0 7 f fd ["_law_script"] (z4b K tp z4e) := by
  refine D.F.ok sc_law (fun vs H Q E h => ?_) (fun cdv A outer s H vs Q E hr h => ?_)
  . obtain ⟨a, ns, rfl, _⟩ := h
    rfl
  obtain ⟨a, ns, rfl, hS, hn, TO, q⟩ := h
  refine ⟨_, (z04 (z0H (i := 1) sc_law.nd rfl (Or.inl rfl) (z0D z0c z01 (z0A O_lawdraw hr rfl (z00 (pv 0) (z00 z01 (z00 z01 (z00 z01 z03)))))))
    (z28 (z1C (z0S z2l (z0A O_lawdraw hr rfl (z00 (pv 0) (z00 z01 (z00 z01 (z00 z01 z03))))) z01 (z0Y _)) (z07 (z0H (i := 1) sc_law.nd rfl (Or.inl rfl) z01)) z0Q)
    (z04 (z0H (i := 2) sc_law.nd rfl (Or.inl rfl) (z0A O_lawrows hr rfl (z00 (pv 0) (z00 z01 (z00 (pv 1) (z00 (z0D z0c z01 (z0A O_lawdraw hr rfl (z00 (pv 0) (z00 z01 (z00 z01 (z00 z01 z03)))))) z03))))))
    (z04 (z1J (i := 3) (locs := ["_law_n"]) (ix := [0]) rfl sc_law.nd rfl rfl (BlkSc.look (dsc := z02 z1u) (N := ["_law_script", "_law_wide", "_law_board", "_law_pile", "_law_most", "_law_handed", "_law_beside", "_law_due_here"]) rfl rfl (by decide +kernel)) (z0e rfl B.f_range (z00 (z0A O_lawdraw hr rfl (z00 (pv 0) (z00 z01 (z00 z01 (z00 z01 z03))))) z03)) (fun _ _ _ _ _ _ => (z0I (i := 0) (by decide +kernel : (["_law_n", "_law_script"] : List Str).Nodup) rfl (Or.inl rfl))) (fun _ _ _ _ _ _ => z0u) (fun _ _ _ _ _ _ => (z0A O_lawlayer hr rfl (z00 (pv 1) (z00 (z0D z0c z01 (z0D z1P z01 (pv 0))) z03)))) rfl)
    (z04 (z0H (i := 4) sc_law.nd rfl (Or.inl rfl) (z0A O_lawdraw hr rfl (z00 (pv 0) (z00 z01 (z00 z01 (z00 z01 z03))))))
    (z28 (z1C (z0S z2l (z0A O_lawdraw hr rfl (z00 (pv 0) (z00 z01 (z00 z01 (z00 z01 z03))))) z01 (z0Y _)) (z07 (z0H (i := 4) sc_law.nd rfl (Or.inl rfl) (z0A O_lawdraw hr rfl (z00 (pv 0) (z00 z01 (z00 z01 (z00 z01 z03))))))) z0Q)
    (z04 (z1J (i := 5) (locs := ["_law_rank", "_law_rows_here", "_law_x", "_law_y"]) (ix := []) rfl sc_law.nd rfl rfl (BlkSc.look (dsc := z02 z1u) (N := ["_law_script", "_law_wide", "_law_board", "_law_pile", "_law_most", "_law_handed", "_law_beside", "_law_due_here"]) rfl rfl (by decide +kernel)) (z1I (pv 3)) (fun _ _ _ _ _ _ => (z3q (n := 4) rfl (z0d (z0I (i := 0) (by decide +kernel : (["_law_rank", "_law_rows_here", "_law_x", "_law_y"] : List Str).Nodup) rfl (Or.inl rfl)) (z0d (z0I (i := 1) (by decide +kernel : (["_law_rank", "_law_rows_here", "_law_x", "_law_y"] : List Str).Nodup) rfl (Or.inl rfl)) (z0d (z0I (i := 2) (by decide +kernel : (["_law_rank", "_law_rows_here", "_law_x", "_law_y"] : List Str).Nodup) rfl (Or.inl rfl)) (z0d (z0I (i := 3) (by decide +kernel : (["_law_rank", "_law_rows_here", "_law_x", "_law_y"] : List Str).Nodup) rfl (Or.inl rfl)) z22)))))) (fun _ _ _ _ _ _ => z0u) (fun _ _ _ _ _ _ => (z1Z (z00 (pv 0) (z00 (z0A O_lawbits hr rfl (z00 (pv 1) z03)) (z00 (pv 2) (z00 (pv 3) z03)))))) rfl)
    (z04 (z0H (i := 6) sc_law.nd rfl (Or.inl rfl) (z0m z3H rfl B.f_list boot_list (z00 (pv 5) z03)))
    (z04 (z0H (i := 7) sc_law.nd rfl (Or.inl rfl) (z0A O_lawdue hr rfl (z00 (pv 2) (z00 (pv 3) (z00 (pv 4) z03)))))
    (z04 (z1C (PW.pt (z5F (z21 (z1Y (z0A O_lawispic hr rfl (z00 (z0A O_beamed hr rfl (z00 (z0A O_lawbits hr rfl (z00 (pv 2) z03)) (z00 (pv 5) (z00 (pv 4) z03)))) (z00 (pv 7) z03))))) (z3A (z0S (z90 (n := 0) (z8y hr)) (pv 5) (pv 6) (z0Y _))))) (z07 (z0K z4g)) z0Q)
    (z04 (z1C (z21 (z1Y (z0A O_lawispic hr rfl (z00 (z0A O_beamed hr rfl (z00 (z0A O_lawbits hr rfl (z00 (pv 2) z03)) (z00 (pv 5) (z00 z01 z03)))) (z00 (z0A O_lawdue hr rfl (z00 (pv 2) (z00 (pv 3) (z00 z01 z03)))) z03))))) (z07 (z0K z4g)) z0Q)
    (z04 (z1C (z21 (z1Y (z0A O_lawispic hr rfl (z00 (z0A O_beamed hr rfl (z00 (z0A O_lawbits hr rfl (z00 (pv 2) z03)) (z00 (pv 5) (z00 z01 z03)))) (z00 (z0A O_lawbits hr rfl (z00 (pv 2) z03)) z03))))) (z07 (z0K z4g)) z0Q)
    (z07 (z0K (z0A O_lawispic hr rfl (z00 (z0A O_beamed hr rfl (z00 (z0A O_lawbits hr rfl (z00 (pv 2) z03)) (z00 (pv 5) (z00 (pv 4) z03)))) (z00 (pv 7) z03))))))))))))))))), ?_⟩
  walk_at "rs"
  refine ⟨a, ns, _, _, _, rfl, hS, by decide, by decide, (by decide), by decide, fun w0 wa wb => ?_⟩
  walk_at "rs"
  refine ⟨fun σ' H' => H' = H /\ ∃ wd : Int, 1 <= wd /\ wd <= 64 /\ σ' = [some (.ref a), some (.int wd), none, none, none, none, none, none], ?_, ?_⟩
  . walk_at "rs"
    refine ⟨a, ns, _, _, _, rfl, hS, by decide, by decide, (by decide), by decide, fun z1 _ _ => ?_⟩
    walk_at "rs"
    refine z2Q (fun c => ?_) (fun c => ?_)
    . exact ⟨rfl, 64, by decide, by decide, rfl⟩
    . exact ⟨rfl, _, by omega, by omega, rfl⟩
  rintro σ1 H0 ⟨rfl, wd, w1, w2, rfl⟩
  walk_at "rs"
  refine ⟨a, ns, _, _, _, rfl, hS, by decide, by decide, (by decide), by decide, fun h0 ha hb => ?_⟩
  walk_at "rs"
  refine ⟨a, ns, _, _, _, rfl, hS, by decide, by decide, w1, w2, by omega, by omega, fun bl ps brd H1 s1 nbl nps RA R => ?_⟩
  generalize wd.toNat = W at R
  generalize (1 + h0).toNat = Hg at R
  walk_at "rs"
  refine ⟨a, ns, _, _, _, rfl, s1.seq hS, by decide, by decide, (by decide), by decide, fun mn m0 m1 => ?_⟩
  walk_at "rs"
  refine ⟨(z2a (by omega) (by omega)).1, (z2a (by omega) (by omega)).2, ?_⟩
  refine z0v (n := mn.toNat) (fun i σ zs H2 => ∃ v ts Ls, σ = [v, some (.ref a)] /\ zs = (ts : List Addr).map V.ref /\ ts.length = i /\ (Ls : List Lay).length = i /\ Same H1 H2 /\ ∀ (j : Nat) t L, ts[j]? = some t -> Ls[j]? = some L -> LayAt H2 t L) ⟨none, [], [], rfl, rfl, rfl, rfl, Same.refl _, fun j t L e => nomatch e⟩ (Nat.le_of_lt (z0G (by omega))) ?_ ?_ ?_ ?_ ?_
  . rintro i σ zs H2 ⟨v, ts, Ls, _, rfl, ht, _⟩
    rw [List.length_map, ht]
  . rintro σ zs H2 _
    show mn.toNat <= mn.toNat
    exact Nat.le_refl _
  . intro i σ zs H2 hi _
    show i < mn.toNat
    exact hi
  . rintro i σ zs H2 x H' Z hi ⟨v, ts, Ls, rfl, rfl, ht, hL, s2, LL⟩ ⟨rfl, rfl⟩ hZ
    walk_at "rs"
    refine ⟨a, ns, _, rfl, (s1.trans s2).seq hS, by omega, by omega, fun t L H3 s3 LA => ?_⟩
    refine hZ _ _ _ ⟨_, ts ++ [t], Ls ++ [L], rfl, by rw [List.map_append]; rfl, by rw [List.length_append, ht]; rfl, by rw [List.length_append, hL]; rfl, s2.trans s3, ?_⟩
    intro j u M e1 e2
    by_cases hj : j < ts.length
    . rw [List.getElem?_append_left hj] at e1
      rw [List.getElem?_append_left (by omega)] at e2
      exact (LL j u M e1 e2).mono s3
    . rw [List.getElem?_append_right (by omega)] at e1
      rw [List.getElem?_append_right (by omega)] at e2
      cases hk : j - ts.length with
      | zero =>
        rw [hk] at e1
        rw [show j - Ls.length = 0 by omega] at e2
        cases e1
        cases e2
        exact LA
      | succ n =>
        rw [hk] at e1
        cases e1
  rintro σ zs H2 ⟨v, ts, Ls, rfl, rfl, ht, hL', s2, LL⟩ l nl
  have hL : Ls.length <= 60 := by omega
  have s2' : Same H0 (upd H2 l (.lst (ts.map V.ref))) := (s1.trans s2).trans (Same.new nl)
  have RA := RA.mono (s2.trans (Same.new (o := .lst (ts.map V.ref)) nl))
  have LA : LaysAt (upd H2 l (.lst (ts.map V.ref))) l ts Ls := ⟨upd_same, by omega, fun j t L e1 e2 => (LL j t L e1 e2).mono (Same.new nl)⟩
  generalize upd H2 l (.lst (ts.map V.ref)) = H1 at s2' RA LA
  have s1 := s2'
  have T1 := TO.keep s1
  have hlen := LA.len
  walk_at "rs"
  refine ⟨a, ns, _, _, _, rfl, s1.seq hS, by decide, by decide, (by decide), by decide, fun m0 ma mb => ?_⟩
  refine ⟨fun σ' H' => H' = H1 /\ ∃ mo : Nat, σ' = [some (.ref a), some (.int wd), some (.ref bl), some (.ref l), some (.int (mo : Int)), none, none, none], ?_, ?_⟩
  . walk_at "rs"
    refine ⟨a, ns, _, _, _, rfl, s1.seq hS, by decide, by decide, (by decide), by decide, fun z1 _ _ => ?_⟩
    walk_at "rs"
    refine z2Q (fun c => ?_) (fun c => ?_)
    . walk_at "rs"
      refine ⟨a, ns, _, _, _, rfl, s1.seq hS, by decide, by decide, (by decide), by decide, fun z2 za zb => ?_⟩
      refine ⟨rfl, z2.toNat, ?_⟩
      rw [show ((z2.toNat : Nat) : Int) = z2 by omega]
      rfl
    . refine ⟨rfl, m0.toNat, ?_⟩
      rw [show ((m0.toNat : Nat) : Int) = m0 by omega]
      rfl
  rintro σ2 H1 ⟨rfl, mo, rfl⟩
  walk_at "rs"
  refine ⟨⟨_, SqL.of LA.lst⟩, ?_⟩
  refine z0v (n := Ls.length) (fun i σ zs H2 => ∃ v1 v2 v3 v4 us, σ = [v1, v2, v3, v4] /\ zs = us.map V.ref /\ us.length = i /\ Same H1 H2 /\ ∀ (j : Nat) u L, us[j]? = some u -> Ls[j]? = some L -> PilAt H2 u L) ⟨none, none, none, none, [], rfl, rfl, rfl, Same.refl _, fun j u A e => nomatch e⟩ (Nat.le_of_lt (z0G (by omega))) ?_ ?_ ?_ ?_ ?_
  . rintro i σ zs H2 ⟨v1, v2, v3, v4, us, _, rfl, hu, _⟩
    rw [List.length_map, hu]
  . rintro σ zs H2 ⟨v1, v2, v3, v4, us, _, _, hu, s2, _⟩
    exact ⟨_, SqL.of (s2 _ _ LA.lst), by rw [List.length_map, hlen]; exact Nat.le_refl _⟩
  . rintro i σ zs H2 hi ⟨v1, v2, v3, v4, us, _, _, hu, s2, _⟩
    exact ⟨_, .ref (ts[i]'(by omega)), SqL.of (s2 _ _ LA.lst), by rw [List.getElem?_map, List.getElem?_eq_getElem (by omega)]; rfl⟩
  . rintro i σ zs H2 x H' Z hi ⟨v1, v2, v3, v4, us, rfl, rfl, hu, s2, PP⟩ ⟨rfl, hx⟩ hZ
    have e := hx _ (SqL.of (s2 _ _ LA.lst))
    rw [List.getElem?_map, List.getElem?_eq_getElem (by omega)] at e
    cases e
    obtain ⟨rl, ps, g1, RA, R⟩ := (LA.at' i (ts[i]'(by omega)) (Ls[i]'hi) (List.getElem?_eq_getElem _) (List.getElem?_eq_getElem hi)).mono s2
    refine ⟨_, _, rfl, SqT.of g1, rfl, _, _, rfl, _, _, rfl, _, _, rfl, _, _, rfl, rfl, ?_⟩
    walk_at "rs"
    refine ⟨rl, ps, _, _, _, rfl, RA, R, fun p H3 s3 PC => ?_⟩
    walk_at "rs"
    intro t nt
    refine hZ _ _ _ ⟨_, _, _, _, us ++ [t], rfl, by rw [List.map_append]; rfl, by rw [List.length_append, hu]; rfl, (s2.trans s3).trans (Same.new nt), fun j u A e1 e2 => ?_⟩
    by_cases hj : j < us.length
    . rw [List.getElem?_append_left hj] at e1
      exact ((PP j u A e1 e2).mono s3).mono (Same.new nt)
    . rw [List.getElem?_append_right (by omega)] at e1
      cases hk : j - us.length with
      | zero =>
        rw [hk] at e1
        cases e1
        have ej : j = i := by omega
        rw [ej, List.getElem?_eq_getElem hi] at e2
        cases e2
        exact ⟨p, upd_same, PC.mono (Same.new nt), R⟩
      | succ n =>
        rw [hk] at e1
        cases e1
  rintro σ zs H2 ⟨v1, v2, v3, v4, us, rfl, rfl, hu, s2, PP⟩ hd nhd
  have P3 : PilsAt (upd H2 hd (.lst (us.map V.ref))) hd us Ls := ⟨upd_same, by omega, fun j u A e1 e2 => (PP j u A e1 e2).mono (Same.new nhd)⟩
  have s3 : Same H1 (upd H2 hd (.lst (us.map V.ref))) := s2.trans (Same.new nhd)
  generalize upd H2 hd (.lst (us.map V.ref)) = H3 at P3 s3
  have T3 := T1.keep s3
  walk_at "rs"
  refine ⟨hd, _, rfl, .inl (SqL.of P3.lst), fun b nb => ?_⟩
  have s4 : Same H3 (upd H3 b (.lst (us.map V.ref))) := Same.new nb
  have gb : (upd H3 b (.lst (us.map V.ref))) b = some (.lst (us.map V.ref)) := upd_same
  generalize upd H3 b (.lst (us.map V.ref)) = H4 at s4 gb
  have T4 := T3.keep s4
  have scu : ∀ x ∈ us.map V.ref, Sc x := fun x hx => by
    obtain ⟨u, _, rfl⟩ := List.mem_map.mp hx
    exact Sc.ref u
  have RB4 := RA.mono (s3.trans s4)
  have LA4 := LA.mono (s3.trans s4)
  walk_at "rs"
  refine ⟨bl, l, ps, ts, Ls, mo, W, Hg, brd, rfl, RB4, R, LA4, by omega, fun dp H5 s5 PD => ?_⟩
  have T5 := T4.keep s5
  have P5 := P3.mono (s4.trans s5)
  have R5 := RB4.mono s5
  have L5 := LA4.mono s5
  have gb5 := s5 _ _ gb
  have BR := fun m => z3e (m := m) L5.ok R
  walk_at "rs"
  refine ⟨bl, ps, brd, W, Hg, rfl, R5, R, fun b6 H6 s6 PB6 => ?_⟩
  have T6 := T5.keep s6
  walk_at "rs"
  refine ⟨b6, hd, us, Ls, mo, W, Hg, brd, rfl, PB6, R, P5.mono s6, by omega, T6, fun f7 H7 T7 e7 PF => ?_⟩
  have PD7 := e7.pic T6 (PD.mono s6)
  walk_at "rs"
  refine ⟨f7, dp, W, Hg, _, rfl, PF, PD7, BR mo, fun H8 s8 => ?_⟩
  have T8 := T7.keep s8
  have e8 : SameP tp H5 H8 := (s6.toP.trans e7).trans s8.toP
  have P8 := e8.pils T5 P5
  walk_at "rs"
  refine ⟨EqT.copy P8.lst (e8.lst T5 gb5) scu, ?_⟩
  walk_at "rs"
  refine ⟨bl, ps, brd, W, Hg, rfl, e8.rows T5 R5, R, fun b9 H9 s9 PB9 => ?_⟩
  have T9 := T8.keep s9
  walk_at "rs"
  refine ⟨b9, hd, us, Ls, 60, W, Hg, brd, rfl, PB9, R, P8.mono s9, by omega, T9, fun f10 H10 T10 e10 PF10 => ?_⟩
  have e10' : SameP tp H5 H10 := (e8.trans s9.toP).trans e10
  walk_at "rs"
  refine ⟨bl, l, ps, ts, Ls, 60, W, Hg, brd, rfl, e10'.rows T5 R5, R, e10'.lays T5 L5, by omega, fun d11 H11 s11 PD11 => ?_⟩
  walk_at "rs"
  refine ⟨f10, d11, W, Hg, _, rfl, PF10.mono s11, PD11, BR 60, fun H12 s12 => ?_⟩
  have s1012 := s11.trans s12
  have T12 := T10.keep s1012
  have e12 : SameP tp H5 H12 := e10'.trans s1012.toP
  walk_at "rs"
  refine ⟨bl, ps, brd, W, Hg, rfl, e12.rows T5 R5, R, fun b13 H13 s13 PB13 => ?_⟩
  have T13 := T12.keep s13
  have e13 := e12.trans s13.toP (P := tp)
  walk_at "rs"
  refine ⟨b13, hd, us, Ls, 0, W, Hg, brd, rfl, PB13, R, e13.pils T5 P5, by omega, T13, fun f14 H14 T14 e14 PF14 => ?_⟩
  rw [z6b R] at PF14
  have e14' := e13.trans e14
  walk_at "rs"
  refine ⟨bl, ps, brd, W, Hg, rfl, e14'.rows T5 R5, R, fun b15 H15 s15 PB15 => ?_⟩
  walk_at "rs"
  refine ⟨f14, b15, W, Hg, _, rfl, PF14.mono s15, PB15, R, fun H16 s16 => ?_⟩
  have s1416 := s15.trans s16
  have T16 := T14.keep s1416
  have e16 : SameP tp H5 H16 := e14'.trans s1416.toP
  walk_at "rs"
  refine ⟨bl, ps, brd, W, Hg, rfl, e16.rows T5 R5, R, fun b17 H17 s17 PB17 => ?_⟩
  have T17 := T16.keep s17
  have e17 := e16.trans s17.toP (P := tp)
  walk_at "rs"
  refine ⟨b17, hd, us, Ls, mo, W, Hg, brd, rfl, PB17, R, e17.pils T5 P5, by omega, T17, fun f18 H18 T18 e18 PF18 => ?_⟩
  walk_at "rs"
  refine ⟨f18, dp, W, Hg, _, rfl, PF18, (e17.trans e18).pic T5 PD, BR mo, fun H19 s19 => ?_⟩
  exact q _
end
theorem all_mk {l : PySem.W.OpenLaw} {w : World} {K : PySem.W.Frag} {h : Heap} {mg : Str -> Option Value} {fa f1 f2 f3 f4 f5 f6 f7 f8 f9 f10 f11 f12 f13 f14 f15 f16 f17 f18 f19 f20 f21 f22 f23 f24 f25 f26 f27 f28 f29 : Addr} (X : K.In h) (G : h.Ns mainGlobals mg) (hfa : mg "law" = some (.ref fa))
    {od1 an1 : Option Addr} {sl1 : Array (Option Value)} {oc1 kV1 dc1 pm1 cd1 ct1 : Value}
    {od2 an2 : Option Addr} {sl2 : Array (Option Value)} {oc2 kV2 dc2 pm2 cd2 ct2 : Value}
    {od3 an3 : Option Addr} {sl3 : Array (Option Value)} {oc3 kV3 dc3 pm3 cd3 ct3 : Value}
    {od4 an4 ot4 : Option Addr} {sl4 st4 : Array (Option Value)} {oc4 kV4 dc4 pm4 cd4 ct4 ov4 : Value} {T4 : Addr} {nt4 : Nat}
    {od5 an5 : Option Addr} {sl5 : Array (Option Value)} {oc5 kV5 dc5 pm5 cd5 ct5 : Value}
    {od6 an6 : Option Addr} {sl6 : Array (Option Value)} {oc6 kV6 dc6 pm6 cd6 ct6 : Value}
    {od7 an7 : Option Addr} {sl7 : Array (Option Value)} {oc7 kV7 dc7 pm7 cd7 ct7 : Value}
    {od8 an8 : Option Addr} {sl8 : Array (Option Value)} {oc8 kV8 dc8 pm8 cd8 ct8 : Value}
    {od9 an9 ot9 : Option Addr} {sl9 st9 : Array (Option Value)} {oc9 kV9 dc9 pm9 cd9 ct9 ov9 : Value} {T9 : Addr} {nt9 : Nat} {ka9 kb9 : Tok}
    {od10 an10 : Option Addr} {sl10 : Array (Option Value)} {oc10 kV10 dc10 pm10 cd10 ct10 : Value}
    {od11 an11 : Option Addr} {sl11 : Array (Option Value)} {oc11 kV11 dc11 pm11 cd11 ct11 : Value}
    {od12 an12 : Option Addr} {sl12 : Array (Option Value)} {oc12 kV12 dc12 pm12 cd12 ct12 : Value}
    {od13 an13 : Option Addr} {sl13 : Array (Option Value)} {oc13 kV13 dc13 pm13 cd13 ct13 : Value}
    {od14 an14 : Option Addr} {sl14 : Array (Option Value)} {oc14 kV14 dc14 pm14 cd14 ct14 : Value}
    {od15 an15 : Option Addr} {sl15 : Array (Option Value)} {oc15 kV15 dc15 pm15 cd15 ct15 : Value}
    {od16 an16 : Option Addr} {sl16 : Array (Option Value)} {oc16 kV16 dc16 pm16 cd16 ct16 : Value}
    {od17 an17 : Option Addr} {sl17 : Array (Option Value)} {oc17 kV17 dc17 pm17 cd17 ct17 : Value}
    {od18 an18 : Option Addr} {sl18 : Array (Option Value)} {oc18 kV18 dc18 pm18 cd18 ct18 : Value}
    {od19 an19 : Option Addr} {sl19 : Array (Option Value)} {oc19 kV19 dc19 pm19 cd19 ct19 : Value}
    {od20 an20 : Option Addr} {sl20 : Array (Option Value)} {oc20 kV20 dc20 pm20 cd20 ct20 : Value}
    {od21 an21 : Option Addr} {sl21 : Array (Option Value)} {oc21 kV21 dc21 pm21 cd21 ct21 : Value}
    {od22 an22 : Option Addr} {sl22 : Array (Option Value)} {oc22 kV22 dc22 pm22 cd22 ct22 : Value}
    {od23 an23 : Option Addr} {sl23 : Array (Option Value)} {oc23 kV23 dc23 pm23 cd23 ct23 : Value}
    {od24 an24 : Option Addr} {sl24 : Array (Option Value)} {oc24 kV24 dc24 pm24 cd24 ct24 : Value}
    {od25 an25 : Option Addr} {sl25 : Array (Option Value)} {oc25 kV25 dc25 pm25 cd25 ct25 : Value}
    {od26 an26 : Option Addr} {sl26 : Array (Option Value)} {oc26 kV26 dc26 pm26 cd26 ct26 : Value}
    {od27 an27 : Option Addr} {sl27 : Array (Option Value)} {oc27 kV27 dc27 pm27 cd27 ct27 : Value}
    {od28 an28 : Option Addr} {sl28 : Array (Option Value)} {oc28 kV28 dc28 pm28 cd28 ct28 : Value}
    {od29 an29 : Option Addr} {sl29 : Array (Option Value)} {oc29 kV29 dc29 pm29 cd29 ct29 : Value}
    {tc tp : Addr} {octt : Value} {odtt : Option Addr} {sltt : Array (Option Value)} {vstt : Array Value}
    (a1 : PySem.W.nsIn K mainGlobals "paint_room" = some (some (.ref f1))) (l1 : K.lookup f1 = some ⟨oc1, od1, .func (PySem.W.fnOf "paint_room" "paint_room" (z0F z0g) (z0B z0g) (z02 z0g) .none kV1 dc1 pm1 an1 cd1 ct1), sl1⟩) (c1 : PySem.W.codeIn K cd1 "paint_room" = true) (k1 : PySem.W.keepIn K (.ref f1) = true)
    (a2 : PySem.W.nsIn K mainGlobals "paint_of" = some (some (.ref f2))) (l2 : K.lookup f2 = some ⟨oc2, od2, .func (PySem.W.fnOf "paint_of" "paint_of" (z0F z14) (z0B z14) (z02 z14) .none kV2 dc2 pm2 an2 cd2 ct2), sl2⟩) (c2 : PySem.W.codeIn K cd2 "paint_of" = true) (k2 : PySem.W.keepIn K (.ref f2) = true)
    (a3 : PySem.W.nsIn K mainGlobals "mask_of" = some (some (.ref f3))) (l3 : K.lookup f3 = some ⟨oc3, od3, .func (PySem.W.fnOf "mask_of" "mask_of" (z0F z1M) (z0B z1M) (z02 z1M) .none kV3 dc3 pm3 an3 cd3 ct3), sl3⟩) (c3 : PySem.W.codeIn K cd3 "mask_of" = true) (k3 : PySem.W.keepIn K (.ref f3) = true)
    (a4 : PySem.W.nsIn K mainGlobals "filled" = some (some (.ref f4))) (l4 : K.lookup f4 = some ⟨oc4, od4, .func (PySem.W.fnOf "filled" "filled" (z0F z1N) (z0B z1N) (z02 z1N) (.ref T4) kV4 dc4 pm4 an4 cd4 ct4), sl4⟩) (c4 : PySem.W.codeIn K cd4 "filled" = true) (k4 : PySem.W.keepIn K (.ref f4) = true) (t4 : K.lookup T4 = some ⟨ov4, ot4, .seq #[.none] nt4, st4⟩)
    (a5 : PySem.W.nsIn K mainGlobals "bits_of_row" = some (some (.ref f5))) (l5 : K.lookup f5 = some ⟨oc5, od5, .func (PySem.W.fnOf "bits_of_row" "bits_of_row" (z0F z0h) (z0B z0h) (z02 z0h) .none kV5 dc5 pm5 an5 cd5 ct5), sl5⟩) (c5 : PySem.W.codeIn K cd5 "bits_of_row" = true) (k5 : PySem.W.keepIn K (.ref f5) = true)
    (a6 : PySem.W.nsIn K mainGlobals "cut_bits" = some (some (.ref f6))) (l6 : K.lookup f6 = some ⟨oc6, od6, .func (PySem.W.fnOf "cut_bits" "cut_bits" (z0F z15) (z0B z15) (z02 z15) .none kV6 dc6 pm6 an6 cd6 ct6), sl6⟩) (c6 : PySem.W.codeIn K cd6 "cut_bits" = true) (k6 : PySem.W.keepIn K (.ref f6) = true)
    (a7 : PySem.W.nsIn K mainGlobals "cut" = some (some (.ref f7))) (l7 : K.lookup f7 = some ⟨oc7, od7, .func (PySem.W.fnOf "cut" "cut" (z0F z37) (z0B z37) (z02 z37) .none kV7 dc7 pm7 an7 cd7 ct7), sl7⟩) (c7 : PySem.W.codeIn K cd7 "cut" = true) (k7 : PySem.W.keepIn K (.ref f7) = true)
    (a8 : PySem.W.nsIn K mainGlobals "laid_paint" = some (some (.ref f8))) (l8 : K.lookup f8 = some ⟨oc8, od8, .func (PySem.W.fnOf "laid_paint" "laid_paint" (z0F z0i) (z0B z0i) (z02 z0i) .none kV8 dc8 pm8 an8 cd8 ct8), sl8⟩) (c8 : PySem.W.codeIn K cd8 "laid_paint" = true) (k8 : PySem.W.keepIn K (.ref f8) = true)
    (a9 : PySem.W.nsIn K mainGlobals "laid" = some (some (.ref f9))) (l9 : K.lookup f9 = some ⟨oc9, od9, .func (PySem.W.fnOf "laid" "laid" (z0F z1n) (z0B z1n) (z02 z1n) (.ref T9) kV9 dc9 pm9 an9 cd9 ct9), sl9⟩) (c9 : PySem.W.codeIn K cd9 "laid" = true) (k9 : PySem.W.keepIn K (.ref f9) = true) (t9 : K.lookup T9 = some ⟨ov9, ot9, .seq #[.int 0 ka9, .int 0 kb9] nt9, st9⟩)
    (a10 : PySem.W.nsIn K mainGlobals "order_of" = some (some (.ref f10))) (l10 : K.lookup f10 = some ⟨oc10, od10, .func (PySem.W.fnOf "order_of" "order_of" (z0F z16) (z0B z16) (z02 z16) .none kV10 dc10 pm10 an10 cd10 ct10), sl10⟩) (c10 : PySem.W.codeIn K cd10 "order_of" = true) (k10 : PySem.W.keepIn K (.ref f10) = true)
    (a11 : PySem.W.nsIn K mainGlobals "is_on_row" = some (some (.ref f11))) (l11 : K.lookup f11 = some ⟨oc11, od11, .func (PySem.W.fnOf "is_on_row" "is_on_row" (z0F z17) (z0B z17) (z02 z17) .none kV11 dc11 pm11 an11 cd11 ct11), sl11⟩) (c11 : PySem.W.codeIn K cd11 "is_on_row" = true) (k11 : PySem.W.keepIn K (.ref f11) = true)
    (a12 : PySem.W.nsIn K mainGlobals "numbers_on_row" = some (some (.ref f12))) (l12 : K.lookup f12 = some ⟨oc12, od12, .func (PySem.W.fnOf "numbers_on_row" "numbers_on_row" (z0F z0O) (z0B z0O) (z02 z0O) .none kV12 dc12 pm12 an12 cd12 ct12), sl12⟩) (c12 : PySem.W.codeIn K cd12 "numbers_on_row" = true) (k12 : PySem.W.keepIn K (.ref f12) = true)
    (a13 : PySem.W.nsIn K mainGlobals "many_lacking" = some (some (.ref f13))) (l13 : K.lookup f13 = some ⟨oc13, od13, .func (PySem.W.fnOf "many_lacking" "many_lacking" (z0F z0X) (z0B z0X) (z02 z0X) .none kV13 dc13 pm13 an13 cd13 ct13), sl13⟩) (c13 : PySem.W.codeIn K cd13 "many_lacking" = true) (k13 : PySem.W.keepIn K (.ref f13) = true)
    (a14 : PySem.W.nsIn K mainGlobals "beamed_row" = some (some (.ref f14))) (l14 : K.lookup f14 = some ⟨oc14, od14, .func (PySem.W.fnOf "beamed_row" "beamed_row" (z0F z0j) (z0B z0j) (z02 z0j) .none kV14 dc14 pm14 an14 cd14 ct14), sl14⟩) (c14 : PySem.W.codeIn K cd14 "beamed_row" = true) (k14 : PySem.W.keepIn K (.ref f14) = true)
    (a15 : PySem.W.nsIn K mainGlobals "beamed" = some (some (.ref f15))) (l15 : K.lookup f15 = some ⟨oc15, od15, .func (PySem.W.fnOf "beamed" "beamed" (z0F z0s) (z0B z0s) (z02 z0s) .none kV15 dc15 pm15 an15 cd15 ct15), sl15⟩) (c15 : PySem.W.codeIn K cd15 "beamed" = true) (k15 : PySem.W.keepIn K (.ref f15) = true)
    (a16 : PySem.W.nsIn K mainGlobals "_law_draw" = some (some (.ref f16))) (l16 : K.lookup f16 = some ⟨oc16, od16, .func (PySem.W.fnOf "_law_draw" "_law_draw" (z0F z18) (z0B z18) (z02 z18) .none kV16 dc16 pm16 an16 cd16 ct16), sl16⟩) (c16 : PySem.W.codeIn K cd16 "_law_draw" = true) (k16 : PySem.W.keepIn K (.ref f16) = true)
    (a17 : PySem.W.nsIn K mainGlobals "_law_great" = some (some (.ref f17))) (l17 : K.lookup f17 = some ⟨oc17, od17, .func (PySem.W.fnOf "_law_great" "_law_great" (z0F z0o) (z0B z0o) (z02 z0o) .none kV17 dc17 pm17 an17 cd17 ct17), sl17⟩) (c17 : PySem.W.codeIn K cd17 "_law_great" = true) (k17 : PySem.W.keepIn K (.ref f17) = true)
    (a18 : PySem.W.nsIn K mainGlobals "_law_whole" = some (some (.ref f18))) (l18 : K.lookup f18 = some ⟨oc18, od18, .func (PySem.W.fnOf "_law_whole" "_law_whole" (z0F z0p) (z0B z0p) (z02 z0p) .none kV18 dc18 pm18 an18 cd18 ct18), sl18⟩) (c18 : PySem.W.codeIn K cd18 "_law_whole" = true) (k18 : PySem.W.keepIn K (.ref f18) = true)
    (a19 : PySem.W.nsIn K mainGlobals "_law_shade" = some (some (.ref f19))) (l19 : K.lookup f19 = some ⟨oc19, od19, .func (PySem.W.fnOf "_law_shade" "_law_shade" (z0F z0q) (z0B z0q) (z02 z0q) .none kV19 dc19 pm19 an19 cd19 ct19), sl19⟩) (c19 : PySem.W.codeIn K cd19 "_law_shade" = true) (k19 : PySem.W.keepIn K (.ref f19) = true)
    (a20 : PySem.W.nsIn K mainGlobals "_law_rows" = some (some (.ref f20))) (l20 : K.lookup f20 = some ⟨oc20, od20, .func (PySem.W.fnOf "_law_rows" "_law_rows" (z0F z0t) (z0B z0t) (z02 z0t) .none kV20 dc20 pm20 an20 cd20 ct20), sl20⟩) (c20 : PySem.W.codeIn K cd20 "_law_rows" = true) (k20 : PySem.W.keepIn K (.ref f20) = true)
    (a21 : PySem.W.nsIn K mainGlobals "_law_bits" = some (some (.ref f21))) (l21 : K.lookup f21 = some ⟨oc21, od21, .func (PySem.W.fnOf "_law_bits" "_law_bits" (z0F z19) (z0B z19) (z02 z19) .none kV21 dc21 pm21 an21 cd21 ct21), sl21⟩) (c21 : PySem.W.codeIn K cd21 "_law_bits" = true) (k21 : PySem.W.keepIn K (.ref f21) = true)
    (a22 : PySem.W.nsIn K mainGlobals "_law_is_pic" = some (some (.ref f22))) (l22 : K.lookup f22 = some ⟨oc22, od22, .func (PySem.W.fnOf "_law_is_pic" "_law_is_pic" (z0F z0k) (z0B z0k) (z02 z0k) .none kV22 dc22 pm22 an22 cd22 ct22), sl22⟩) (c22 : PySem.W.codeIn K cd22 "_law_is_pic" = true) (k22 : PySem.W.keepIn K (.ref f22) = true)
    (a23 : PySem.W.nsIn K mainGlobals "_law_far" = some (some (.ref f23))) (l23 : K.lookup f23 = some ⟨oc23, od23, .func (PySem.W.fnOf "_law_far" "_law_far" (z0F z1O) (z0B z1O) (z02 z1O) .none kV23 dc23 pm23 an23 cd23 ct23), sl23⟩) (c23 : PySem.W.codeIn K cd23 "_law_far" = true) (k23 : PySem.W.keepIn K (.ref f23) = true)
    (a24 : PySem.W.nsIn K mainGlobals "_law_layer" = some (some (.ref f24))) (l24 : K.lookup f24 = some ⟨oc24, od24, .func (PySem.W.fnOf "_law_layer" "_law_layer" (z0F z0r) (z0B z0r) (z02 z0r) .none kV24 dc24 pm24 an24 cd24 ct24), sl24⟩) (c24 : PySem.W.codeIn K cd24 "_law_layer" = true) (k24 : PySem.W.keepIn K (.ref f24) = true)
    (a25 : PySem.W.nsIn K mainGlobals "_law_over" = some (some (.ref f25))) (l25 : K.lookup f25 = some ⟨oc25, od25, .func (PySem.W.fnOf "_law_over" "_law_over" (z0F z1A) (z0B z1A) (z02 z1A) .none kV25 dc25 pm25 an25 cd25 ct25), sl25⟩) (c25 : PySem.W.codeIn K cd25 "_law_over" = true) (k25 : PySem.W.keepIn K (.ref f25) = true)
    (a26 : PySem.W.nsIn K mainGlobals "_law_read" = some (some (.ref f26))) (l26 : K.lookup f26 = some ⟨oc26, od26, .func (PySem.W.fnOf "_law_read" "_law_read" (z0F z0n) (z0B z0n) (z02 z0n) .none kV26 dc26 pm26 an26 cd26 ct26), sl26⟩) (c26 : PySem.W.codeIn K cd26 "_law_read" = true) (k26 : PySem.W.keepIn K (.ref f26) = true)
    (a27 : PySem.W.nsIn K mainGlobals "_law_cell" = some (some (.ref f27))) (l27 : K.lookup f27 = some ⟨oc27, od27, .func (PySem.W.fnOf "_law_cell" "_law_cell" (z0F z1B) (z0B z1B) (z02 z1B) .none kV27 dc27 pm27 an27 cd27 ct27), sl27⟩) (c27 : PySem.W.codeIn K cd27 "_law_cell" = true) (k27 : PySem.W.keepIn K (.ref f27) = true)
    (a28 : PySem.W.nsIn K mainGlobals "_law_due" = some (some (.ref f28))) (l28 : K.lookup f28 = some ⟨oc28, od28, .func (PySem.W.fnOf "_law_due" "_law_due" (z0F z1E) (z0B z1E) (z02 z1E) .none kV28 dc28 pm28 an28 cd28 ct28), sl28⟩) (c28 : PySem.W.codeIn K cd28 "_law_due" = true) (k28 : PySem.W.keepIn K (.ref f28) = true)
    (a29 : PySem.W.nsIn K mainGlobals "law" = some (some (.ref f29))) (l29 : K.lookup f29 = some ⟨oc29, od29, .func (PySem.W.fnOf "law" "law" (z0F z1u) (z0B z1u) (z02 z1u) .none kV29 dc29 pm29 an29 cd29 ct29), sl29⟩) (c29 : PySem.W.codeIn K cd29 "law" = true) (k29 : PySem.W.keepIn K (.ref f29) = true)
    (z1 : PySem.W.nsIn K mainGlobals "len" = some none)
    (z2 : PySem.W.nsIn K mainGlobals "range" = some none)
    (z3 : PySem.W.nsIn K mainGlobals "enumerate" = some none)
    (z4 : PySem.W.nsIn K mainGlobals "zip" = some none)
    (z5 : PySem.W.nsIn K mainGlobals "reversed" = some none)
    (z6 : PySem.W.nsIn K mainGlobals "isinstance" = some none)
    (z7 : PySem.W.nsIn K mainGlobals "int" = some none)
    (z8 : PySem.W.nsIn K mainGlobals "bool" = some none)
    (z9 : PySem.W.nsIn K mainGlobals "list" = some none)
    (z10 : PySem.W.nsIn K mainGlobals "tuple" = some none)
    (z11 : PySem.W.nsIn K mainGlobals "all" = some none)
    (z12 : PySem.W.nsIn K mainGlobals "max" = some none)
    (z13 : PySem.W.nsIn K mainGlobals "sorted" = some none)
    (qt : cd10 = .ref tc) (lt : K.lookup tc = some ⟨octt, odtt, .fields vstt, sltt⟩) (vt : vstt[11]? = some (.ref tp)) (nt : PySem.W.noTabs K = true)
    : ∃ (fd : FuncData) (c t : Addr), PySem.W.tabIn K "order_of" = some (c, t) /\ PySem.W.noTabs K = true /\ (∀ (s : Shared) (v : Value), BindsTo s fd ⟨[v], []⟩ [("_law_script", v)]) /\ ∀ base : Heap, K.In base -> base.Ns mainGlobals mg -> BaseT mg base c t -> FnOk l.prog w K mg base CX0 7 fa fd ["_law_script"] (z4b K t z4e) := by
  have e := hfa.symm.trans (PySem.W.mg_of X G a29)
  cases e
  have B : Blt mg := ⟨PySem.W.mg_none_of X G z1, PySem.W.mg_none_of X G z2, PySem.W.mg_none_of X G z3, PySem.W.mg_none_of X G z4, PySem.W.mg_none_of X G z5, PySem.W.mg_none_of X G z6, PySem.W.mg_none_of X G z7, PySem.W.mg_none_of X G z8, PySem.W.mg_none_of X G z9, PySem.W.mg_none_of X G z10, PySem.W.mg_none_of X G z11, PySem.W.mg_none_of X G z12, PySem.W.mg_none_of X G z13⟩
  have F1 := z0T (st := z0g) l1 c1 k1
  have D1 : Df K mg "paint_room" z0g ["wide", "mask"] _ _ := ⟨F1, F1.binds (ps := ["wide", "mask"]) fun _ _ _ _ _ _ us hl => match us, hl with | [_, _], _ => rfl, PySem.W.mg_of X G a1⟩
  have F2 := z0T (st := z14) l2 c2 k2
  have D2 : Df K mg "paint_of" z14 ["row"] _ _ := ⟨F2, F2.binds (ps := ["row"]) fun _ _ _ _ _ _ us hl => match us, hl with | [_], _ => rfl, PySem.W.mg_of X G a2⟩
  have F3 := z0T (st := z1M) l3 c3 k3
  have D3 : Df K mg "mask_of" z1M ["row"] _ _ := ⟨F3, F3.binds (ps := ["row"]) fun _ _ _ _ _ _ us hl => match us, hl with | [_], _ => rfl, PySem.W.mg_of X G a3⟩
  have F4 := z5z (st := z1N) l4 c4 k4
  have D4 : DfD K mg "filled" z1N ["wide", "high", "cell"] _ _ _ := ⟨F4, fun s us X hl => match us, hl with | [_, _, _], _ => PySem.W.binds_K X rfl t4 rfl rfl rfl, fun s us X hl => match us, (by simpa using hl : us.length = 2) with | [_, _], _ => PySem.W.binds_K X rfl t4 rfl rfl rfl, PySem.W.mg_of X G a4⟩
  have F5 := z0T (st := z0h) l5 c5 k5
  have D5 : Df K mg "bits_of_row" z0h ["rows", "y"] _ _ := ⟨F5, F5.binds (ps := ["rows", "y"]) fun _ _ _ _ _ _ us hl => match us, hl with | [_, _], _ => rfl, PySem.W.mg_of X G a5⟩
  have F6 := z0T (st := z15) l6 c6 k6
  have D6 : Df K mg "cut_bits" z15 ["bits", "at", "many"] _ _ := ⟨F6, F6.binds (ps := ["bits", "at", "many"]) fun _ _ _ _ _ _ us hl => match us, hl with | [_, _, _], _ => rfl, PySem.W.mg_of X G a6⟩
  have F7 := z0T (st := z37) l7 c7 k7
  have D7 : Df K mg "cut" z37 ["pic", "x", "y", "wide", "high"] _ _ := ⟨F7, F7.binds (ps := ["pic", "x", "y", "wide", "high"]) fun _ _ _ _ _ _ us hl => match us, hl with | [_, _, _, _, _], _ => rfl, PySem.W.mg_of X G a7⟩
  have F8 := z0T (st := z0i) l8 c8 k8
  have D8 : Df K mg "laid_paint" z0i ["wide", "lower", "upper", "mask"] _ _ := ⟨F8, F8.binds (ps := ["wide", "lower", "upper", "mask"]) fun _ _ _ _ _ _ us hl => match us, hl with | [_, _, _, _], _ => rfl, PySem.W.mg_of X G a8⟩
  have F9 := z5z (st := z1n) l9 c9 k9
  have D9 : Df2 K mg "laid" z1n ["under", "over", "x", "y"] _ _ _ (0) (0) := ⟨F9, fun s us X hl => match us, hl with | [_, _, _, _], _ => PySem.W.binds_K X rfl t9 rfl rfl rfl, ⟨_, fun s us X hl => match us, (by simpa using hl : us.length = 3) with | [_, _, _], _ => PySem.W.binds_K X rfl t9 rfl rfl rfl⟩, ⟨_, _, fun s us X hl => match us, (by simpa using hl : us.length = 2) with | [_, _], _ => PySem.W.binds_K X rfl t9 rfl rfl rfl⟩, PySem.W.mg_of X G a9⟩
  have F10 := z0T (st := z16) l10 c10 k10
  have D10 : Df K mg "order_of" z16 ["pile"] _ _ := ⟨F10, F10.binds (ps := ["pile"]) fun _ _ _ _ _ _ us hl => match us, hl with | [_], _ => rfl, PySem.W.mg_of X G a10⟩
  have F11 := z0T (st := z17) l11 c11 k11
  have D11 : Df K mg "is_on_row" z17 ["layer", "y"] _ _ := ⟨F11, F11.binds (ps := ["layer", "y"]) fun _ _ _ _ _ _ us hl => match us, hl with | [_, _], _ => rfl, PySem.W.mg_of X G a11⟩
  have F12 := z0T (st := z0O) l12 c12 k12
  have D12 : Df K mg "numbers_on_row" z0O ["pile", "y"] _ _ := ⟨F12, F12.binds (ps := ["pile", "y"]) fun _ _ _ _ _ _ us hl => match us, hl with | [_, _], _ => rfl, PySem.W.mg_of X G a12⟩
  have F13 := z0T (st := z0X) l13 c13 k13
  have D13 : Df K mg "many_lacking" z0X ["numbers", "most"] _ _ := ⟨F13, F13.binds (ps := ["numbers", "most"]) fun _ _ _ _ _ _ us hl => match us, hl with | [_, _], _ => rfl, PySem.W.mg_of X G a13⟩
  have F14 := z0T (st := z0j) l14 c14 k14
  have D14 : Df K mg "beamed_row" z0j ["board", "pile", "most", "y"] _ _ := ⟨F14, F14.binds (ps := ["board", "pile", "most", "y"]) fun _ _ _ _ _ _ us hl => match us, hl with | [_, _, _, _], _ => rfl, PySem.W.mg_of X G a14⟩
  have F15 := z0T (st := z0s) l15 c15 k15
  have D15 : Df K mg "beamed" z0s ["board", "pile", "most"] _ _ := ⟨F15, F15.binds (ps := ["board", "pile", "most"]) fun _ _ _ _ _ _ us hl => match us, hl with | [_, _, _], _ => rfl, PySem.W.mg_of X G a15⟩
  have F16 := z0T (st := z18) l16 c16 k16
  have D16 : Df K mg "_law_draw" z18 ["_law_script", "_law_k", "_law_prime", "_law_many"] _ _ := ⟨F16, F16.binds (ps := ["_law_script", "_law_k", "_law_prime", "_law_many"]) fun _ _ _ _ _ _ us hl => match us, hl with | [_, _, _, _], _ => rfl, PySem.W.mg_of X G a16⟩
  have F17 := z0T (st := z0o) l17 c17 k17
  have D17 : Df K mg "_law_great" z0o ["_law_script", "_law_k", "_law_many"] _ _ := ⟨F17, F17.binds (ps := ["_law_script", "_law_k", "_law_many"]) fun _ _ _ _ _ _ us hl => match us, hl with | [_, _, _], _ => rfl, PySem.W.mg_of X G a17⟩
  have F18 := z0T (st := z0p) l18 c18 k18
  have D18 : Df K mg "_law_whole" z0p ["_law_found"] _ _ := ⟨F18, F18.binds (ps := ["_law_found"]) fun _ _ _ _ _ _ us hl => match us, hl with | [_], _ => rfl, PySem.W.mg_of X G a18⟩
  have F19 := z0T (st := z0q) l19 c19 k19
  have D19 : Df K mg "_law_shade" z0q ["_law_script", "_law_k"] _ _ := ⟨F19, F19.binds (ps := ["_law_script", "_law_k"]) fun _ _ _ _ _ _ us hl => match us, hl with | [_, _], _ => rfl, PySem.W.mg_of X G a19⟩
  have F20 := z0T (st := z0t) l20 c20 k20
  have D20 : Df K mg "_law_rows" z0t ["_law_script", "_law_k", "_law_wide", "_law_high"] _ _ := ⟨F20, F20.binds (ps := ["_law_script", "_law_k", "_law_wide", "_law_high"]) fun _ _ _ _ _ _ us hl => match us, hl with | [_, _, _, _], _ => rfl, PySem.W.mg_of X G a20⟩
  have F21 := z0T (st := z19) l21 c21 k21
  have D21 : Df K mg "_law_bits" z19 ["_law_rows_here"] _ _ := ⟨F21, F21.binds (ps := ["_law_rows_here"]) fun _ _ _ _ _ _ us hl => match us, hl with | [_], _ => rfl, PySem.W.mg_of X G a21⟩
  have F22 := z0T (st := z0k) l22 c22 k22
  have D22 : Df K mg "_law_is_pic" z0k ["_law_found", "_law_due_here"] _ _ := ⟨F22, F22.binds (ps := ["_law_found", "_law_due_here"]) fun _ _ _ _ _ _ us hl => match us, hl with | [_, _], _ => rfl, PySem.W.mg_of X G a22⟩
  have F23 := z0T (st := z1O) l23 c23 k23
  have D23 : Df K mg "_law_far" z1O ["_law_script", "_law_k"] _ _ := ⟨F23, F23.binds (ps := ["_law_script", "_law_k"]) fun _ _ _ _ _ _ us hl => match us, hl with | [_, _], _ => rfl, PySem.W.mg_of X G a23⟩
  have F24 := z0T (st := z0r) l24 c24 k24
  have D24 : Df K mg "_law_layer" z0r ["_law_script", "_law_k"] _ _ := ⟨F24, F24.binds (ps := ["_law_script", "_law_k"]) fun _ _ _ _ _ _ us hl => match us, hl with | [_, _], _ => rfl, PySem.W.mg_of X G a24⟩
  have F25 := z0T (st := z1A) l25 c25 k25
  have D25 : Df K mg "_law_over" z1A ["_law_pile", "_law_i", "_law_j"] _ _ := ⟨F25, F25.binds (ps := ["_law_pile", "_law_i", "_law_j"]) fun _ _ _ _ _ _ us hl => match us, hl with | [_, _, _], _ => rfl, PySem.W.mg_of X G a25⟩
  have F26 := z0T (st := z0n) l26 c26 k26
  have D26 : Df K mg "_law_read" z0n ["_law_pile", "_law_y", "_law_most"] _ _ := ⟨F26, F26.binds (ps := ["_law_pile", "_law_y", "_law_most"]) fun _ _ _ _ _ _ us hl => match us, hl with | [_, _, _], _ => rfl, PySem.W.mg_of X G a26⟩
  have F27 := z0T (st := z1B) l27 c27 k27
  have D27 : Df K mg "_law_cell" z1B ["_law_pile", "_law_some", "_law_x", "_law_y", "_law_ground"] _ _ := ⟨F27, F27.binds (ps := ["_law_pile", "_law_some", "_law_x", "_law_y", "_law_ground"]) fun _ _ _ _ _ _ us hl => match us, hl with | [_, _, _, _, _], _ => rfl, PySem.W.mg_of X G a27⟩
  have F28 := z0T (st := z1E) l28 c28 k28
  have D28 : Df K mg "_law_due" z1E ["_law_board", "_law_pile", "_law_most"] _ _ := ⟨F28, F28.binds (ps := ["_law_board", "_law_pile", "_law_most"]) fun _ _ _ _ _ _ us hl => match us, hl with | [_, _, _], _ => rfl, PySem.W.mg_of X G a28⟩
  have F29 := z0T (st := z1u) l29 c29 k29
  have D29 : Df K mg "law" z1u ["_law_script"] _ _ := ⟨F29, F29.binds (ps := ["_law_script"]) fun _ _ _ _ _ _ us hl => match us, hl with | [_], _ => rfl, PySem.W.mg_of X G a29⟩
  refine ⟨PySem.W.fnOf "law" "law" (z0F z1u) (z0B z1u) (z02 z1u) .none kV29 dc29 pm29 an29 cd29 ct29, tc, tp, z97 a10 l10 qt lt vt, nt, fun s v => .of_eq rfl, fun base _ _ BT => ?_⟩
  have O_paintroom := z3g (P := l.prog) (w := w) (base := base) D1  B
  have O_paintof := z51 (P := l.prog) (w := w) (base := base) D2  B
  have O_maskof := z6c (P := l.prog) (w := w) (base := base) D3  B
  have Ff4 := z52 (P := l.prog) (w := w) (base := base) D4 O_paintof O_maskof B
  have O_filled := D4.ow Ff4
  have Od2_filled := D4.owd Ff4
  have O_bitsofrow := z3i (P := l.prog) (w := w) (base := base) D5  B
  have O_cutbits := z53 (P := l.prog) (w := w) (base := base) D6  B
  have O_cut := z9C (P := l.prog) (w := w) (base := base) D7 Od2_filled O_bitsofrow O_cutbits B
  have O_laidpaint := z3k (P := l.prog) (w := w) (base := base) D8 O_paintroom B
  have Ff9 := z7D (P := l.prog) (w := w) (base := base) D9 O_cut O_laidpaint B
  have O_laid := D9.ow Ff9
  have Od3_laid := D9.owd1 Ff9
  have Od2_laid := D9.owd2 Ff9
  have O_orderof := z55 (P := l.prog) (w := w) (base := base) (tp := tp) D10 qt BT  B
  have O_isonrow := z57 (P := l.prog) (w := w) (base := base) D11  B
  have O_numbersonrow := z2P (P := l.prog) (w := w) (base := base) (tp := tp) D12 O_orderof O_isonrow B
  have O_manylacking := z2U (P := l.prog) (w := w) (base := base) D13  B
  have O_beamedrow := z3l (P := l.prog) (w := w) (base := base) (tp := tp) D14 O_cut O_laid O_numbersonrow O_manylacking B
  have O_beamed := z6d (P := l.prog) (w := w) (base := base) (tp := tp) D15 O_beamedrow B
  have O_lawdraw := z4y (P := l.prog) (w := w) (base := base) D16  B
  have O_lawgreat := z4B (P := l.prog) (w := w) (base := base) D17  B
  have O_lawwhole := z4D (P := l.prog) (w := w) (base := base) D18  B
  have O_lawshade := z4E (P := l.prog) (w := w) (base := base) D19 O_lawdraw B
  have O_lawrows := z4z (P := l.prog) (w := w) (base := base) D20 O_lawshade B
  have O_lawbits := z50 (P := l.prog) (w := w) (base := base) D21  B
  have O_lawispic := z4G (P := l.prog) (w := w) (base := base) D22 O_lawwhole B
  have O_lawfar := z6f (P := l.prog) (w := w) (base := base) D23 O_lawgreat B
  have O_lawlayer := z4H (P := l.prog) (w := w) (base := base) D24 O_lawdraw O_lawrows O_lawfar B
  have O_lawover := z59 (P := l.prog) (w := w) (base := base) D25  B
  have O_lawread := z5A (P := l.prog) (w := w) (base := base) D26 O_lawover B
  have O_lawcell := z5B (P := l.prog) (w := w) (base := base) D27 O_lawover B
  have O_lawdue := z6g (P := l.prog) (w := w) (base := base) D28 O_lawbits O_lawread O_lawcell B
  exact z9D D29 O_beamed O_lawdraw O_lawrows O_lawbits O_lawispic O_lawlayer O_lawdue B
theorem walk {l : PySem.W.OpenLaw} {q : Program} {loose : List Str} {XP : (Str -> Option Value) -> Heap -> Prop} {YP : World -> Heap -> Prop} {d dd : DefRec} {K : Params -> PySem.W.Frag} (hn : l.most = some 63) (hdf : d.params.defaults = [])
    (hY : ∀ (w : World) (h : Heap), YP w h -> (K w.params).In h) (hrec : (recsOf q).find? (fun e => e.name == ("order_of" : Str)) = some dd)
    (F : ∀ (w : World) (mg : Str -> Option Value) (fa : Addr) (h : Heap), (K w.params).In h -> h.Ns mainGlobals mg -> mg d.name = some (.ref fa) ->
      ∃ (fd : FuncData) (c t : Addr), PySem.W.tabIn (K w.params) "order_of" = some (c, t) /\ PySem.W.noTabs (K w.params) = true /\ (∀ (s : Shared) (u : Value), BindsTo s fd ⟨[u], []⟩ [("_law_script", u)]) /\ ∀ base : Heap, (K w.params).In base -> base.Ns mainGlobals mg -> BaseT mg base c t -> FnOk l.prog w (K w.params) mg base CX0 7 fa fd ["_law_script"] (z4b (K w.params) t z4e)) :
    PySem.W.WalkO q loose XP YP l.row.toRowW d [] (fun f vs => PySem.call f vs) :=
  L2.walk_ofT (n := 63) (k := 7) (x := "_law_script") (fn := "order_of") (sp := fun w t => z4b (K w.params) t z4e) hn (by decide) hdf ⟨rfl, by decide, by decide⟩ hY hrec F fun _ _ _ a ns hl hT hS => ⟨a, ns, rfl, hS, hl, .inl hT, fun _ => rfl⟩
end K51
namespace PySem.W.Fast
theorem tw2898674728402665417 : True := trivial
theorem tw6222585171773587810 : True := trivial
theorem tw6862341392147181320 : True := trivial
theorem tw9874541194824397837 : True := trivial
theorem tw4381670469900278158 : True := trivial
theorem tw16064603680870687698 : True := trivial
theorem tw14624347670251422390 : True := trivial
theorem tw10009337213307577431 : True := trivial
end PySem.W.Fast
open PySem PySem.W PyProof.Rows
set_option maxRecDepth 100000 in
set_option maxHeartbeats 0 in
theorem PySem.Challenge.cw_glowboard_k51_boards_beamed_holds : PySem.Challenge.rw_glowboard_k51_boards_beamed.Holds := by
  w_on; o_law; k_head; (case hw => w_witness2)
  k_fill
  refine K51.walk (l := PySem.Challenge.rw_glowboard_k51_boards_beamed) rfl rfl (fun w h Y => PySem.W.km_in_of Y) rfl ?F
  case F =>
    intro w mg fa h KX G hmg
    refine' K51.all_mk KX G hmg ?a1 ?l1 ?c1 ?k1 ?a2 ?l2 ?c2 ?k2 ?a3 ?l3 ?c3 ?k3 ?a4 ?l4 ?c4 ?k4 ?t4 ?a5 ?l5 ?c5 ?k5 ?a6 ?l6 ?c6 ?k6 ?a7 ?l7 ?c7 ?k7 ?a8 ?l8 ?c8 ?k8 ?a9 ?l9 ?c9 ?k9 ?t9 ?a10 ?l10 ?c10 ?k10 ?a11 ?l11 ?c11 ?k11 ?a12 ?l12 ?c12 ?k12 ?a13 ?l13 ?c13 ?k13 ?a14 ?l14 ?c14 ?k14 ?a15 ?l15 ?c15 ?k15 ?a16 ?l16 ?c16 ?k16 ?a17 ?l17 ?c17 ?k17 ?a18 ?l18 ?c18 ?k18 ?a19 ?l19 ?c19 ?k19 ?a20 ?l20 ?c20 ?k20 ?a21 ?l21 ?c21 ?k21 ?a22 ?l22 ?c22 ?k22 ?a23 ?l23 ?c23 ?k23 ?a24 ?l24 ?c24 ?k24 ?a25 ?l25 ?c25 ?k25 ?a26 ?l26 ?c26 ?k26 ?a27 ?l27 ?c27 ?k27 ?a28 ?l28 ?c28 ?k28 ?a29 ?l29 ?c29 ?k29 ?z1 ?z2 ?z3 ?z4 ?z5 ?z6 ?z7 ?z8 ?z9 ?z10 ?z11 ?z12 ?z13 ?qt ?lt ?vt ?nt
    (case a1 => k_is); (case l1 => k_is); (case c1 => k_is); (case k1 => k_is)
    (case a2 => k_is); (case l2 => k_is); (case c2 => k_is); (case k2 => k_is)
    (case a3 => k_is); (case l3 => k_is); (case c3 => k_is); (case k3 => k_is)
    (case a4 => k_is); (case l4 => k_is); (case c4 => k_is); (case k4 => k_is)
    (case t4 => k_is); (case a5 => k_is); (case l5 => k_is); (case c5 => k_is)
    (case k5 => k_is); (case a6 => k_is); (case l6 => k_is); (case c6 => k_is)
    (case k6 => k_is); (case a7 => k_is); (case l7 => k_is); (case c7 => k_is)
    (case k7 => k_is); (case a8 => k_is); (case l8 => k_is); (case c8 => k_is)
    (case k8 => k_is); (case a9 => k_is); (case l9 => k_is); (case c9 => k_is)
    (case k9 => k_is); (case t9 => k_is); (case a10 => k_is); (case l10 => k_is)
    (case c10 => k_is); (case k10 => k_is); (case a11 => k_is); (case l11 => k_is)
    (case c11 => k_is); (case k11 => k_is); (case a12 => k_is); (case l12 => k_is)
    (case c12 => k_is); (case k12 => k_is); (case a13 => k_is); (case l13 => k_is)
    (case c13 => k_is); (case k13 => k_is); (case a14 => k_is); (case l14 => k_is)
    (case c14 => k_is); (case k14 => k_is); (case a15 => k_is); (case l15 => k_is)
    (case c15 => k_is); (case k15 => k_is); (case a16 => k_is); (case l16 => k_is)
    (case c16 => k_is); (case k16 => k_is); (case a17 => k_is); (case l17 => k_is)
    (case c17 => k_is); (case k17 => k_is); (case a18 => k_is); (case l18 => k_is)
    (case c18 => k_is); (case k18 => k_is); (case a19 => k_is); (case l19 => k_is)
    (case c19 => k_is); (case k19 => k_is); (case a20 => k_is); (case l20 => k_is)
    (case c20 => k_is); (case k20 => k_is); (case a21 => k_is); (case l21 => k_is)
    (case c21 => k_is); (case k21 => k_is); (case a22 => k_is); (case l22 => k_is)
    (case c22 => k_is); (case k22 => k_is); (case a23 => k_is); (case l23 => k_is)
    (case c23 => k_is); (case k23 => k_is); (case a24 => k_is); (case l24 => k_is)
    (case c24 => k_is); (case k24 => k_is); (case a25 => k_is); (case l25 => k_is)
    (case c25 => k_is); (case k25 => k_is); (case a26 => k_is); (case l26 => k_is)
    (case c26 => k_is); (case k26 => k_is); (case a27 => k_is); (case l27 => k_is)
    (case c27 => k_is); (case k27 => k_is); (case a28 => k_is); (case l28 => k_is)
    (case c28 => k_is); (case k28 => k_is); (case a29 => k_is); (case l29 => k_is)
    (case c29 => k_is); (case k29 => k_is); (case z1 => k_is); (case z2 => k_is)
    (case z3 => k_is); (case z4 => k_is); (case z5 => k_is); (case z6 => k_is)
    (case z7 => k_is); (case z8 => k_is); (case z9 => k_is); (case z10 => k_is)
    (case z11 => k_is); (case z12 => k_is); (case z13 => k_is); (case qt => exact rfl)
    (case lt => k_is); (case vt => exact rfl); (case nt => kernel_rfl)
#print axioms PySem.Challenge.cw_glowboard_k51_boards_beamed_holds