import PyProof.Rows.All
import Wide.All
import OpenK.AllK
import Wide.FinOn
import Lean
import PyProof.EqAt
import PyProof.EqKinds
import PyProof.TupleCall
import PySem.Challenge.RW_glowboard_k53_whole_beams
set_option Elab.async false
set_option linter.all false
set_option maxRecDepth 100000
namespace L2
open PySem PySem.Spec PyProof.Rows
abbrev Key := Sum Int Str
def z4V : Key -> Value -> Bool
  | .inl k, v => Value.isInt k v
  | .inr x, v => Value.isStrOf x v
def z77 (w : World) : Key -> Int
  | .inl k => hashInt k
  | .inr x => hashStr w x
theorem z0D : ∀ {k : Key} {v : Value}, z4V k v = true -> (∃ i t, k = Sum.inl i /\ v = Value.int i t) \/ (∃ x t, k = Sum.inr x /\ v = Value.str x t)
  | .inl i, v, h => by
    obtain ⟨t, e⟩ := Value.isInt_shape (k := i) (v := v) h
    exact .inl ⟨i, t, rfl, e⟩
  | .inr x, v, h => by
    obtain ⟨t, e⟩ := Value.isStrOf_shape (x := x) (v := v) h
    exact .inr ⟨x, t, rfl, e⟩
theorem z4W (a b : Int) : decide ((Sum.inl a : Key) = Sum.inl b) = (a == b) := by
  by_cases e : a = b
  . subst e; simp
  . have h : ¬ (Sum.inl a : Key) = Sum.inl b := fun q => e (Sum.inl.inj q)
    rw [decide_eq_false h]
    exact (beq_eq_false_iff_ne.mpr e).symm
theorem z4X (a b : Str) : decide ((Sum.inr a : Key) = Sum.inr b) = decide (a = b) := by
  by_cases e : a = b
  . subst e; simp
  . have h : ¬ (Sum.inr a : Key) = Sum.inr b := fun q => e (Sum.inr.inj q)
    rw [decide_eq_false h, decide_eq_false e]
theorem z4Y (a : Int) (b : Str) : decide ((Sum.inl a : Key) = Sum.inr b) = false := decide_eq_false (fun q => nomatch q)
theorem z4Z (a : Str) (b : Int) : decide ((Sum.inr a : Key) = Sum.inl b) = false := decide_eq_false (fun q => nomatch q)
def z2v (prog : Program) (w : World) : PySem.KeyKind prog w Key where
  is := z4V
  hash := z77 w
  inj := fun v a b ha hb => by
    rcases z0D ha with ⟨i, t, rfl, rfl⟩ | ⟨x, t, rfl, rfl⟩
    . rcases z0D hb with ⟨j, u, rfl, e⟩ | ⟨y, u, rfl, e⟩
      . injection e with e1 _; rw [e1]
      . exact nomatch e
    . rcases z0D hb with ⟨j, u, rfl, e⟩ | ⟨y, u, rfl, e⟩
      . exact nomatch e
      . injection e with e1 _; rw [e1]
  byValue := fun k v h => by
    rcases z0D h with ⟨i, t, rfl, rfl⟩ | ⟨x, t, rfl, rfl⟩ <;> rfl
  pyHash := fun hv h => by
    rcases z0D hv with ⟨i, t, rfl, rfl⟩ | ⟨x, t, rfl, rfl⟩
    . exact wpAny_pyHash_int h
    . exact wpAny_pyHash_str h
  eqBool := fun hu hv h => by
    rcases z0D hu with ⟨i, t, rfl, rfl⟩ | ⟨x, t, rfl, rfl⟩
    . rcases z0D hv with ⟨j, u, rfl, rfl⟩ | ⟨y, u, rfl, rfl⟩
      . rw [z4W] at h; exact wpAny_eqBool_int h
      . rw [z4Y] at h; exact SeqAt.EqAt.int_str i t y u _ _ _ _ h
    . rcases z0D hv with ⟨j, u, rfl, rfl⟩ | ⟨y, u, rfl, rfl⟩
      . rw [z4Z] at h; exact SeqAt.EqAt.str_int x t j u _ _ _ _ h
      . rw [z4X] at h; exact wpAny_eqBool_str h
  «strs» := fun k x t v h => by
    rcases z0D h with ⟨i, u, rfl, e⟩ | ⟨y, u, rfl, e⟩
    . exact nomatch e
    . injection e with e1 _
      subst e1
      cases v <;> rfl
inductive V where
  | non | bl (b : Bool) | int (i : Int) | str (x : Str) | byt (b : Array UInt8) | flt (b : UInt64) | ref (a : Addr) | ty (n : String)
  deriving DecidableEq
def RelV : V -> Value -> Prop
  | .non, u => u = Value.none
  | .bl b, u => u = Value.bool b
  | .int i, u => ∃ t, u = Value.int i t
  | .str x, u => ∃ t, u = Value.str x t
  | .byt b, u => ∃ t, u = Value.bytes b t
  | .flt b, u => ∃ t, u = Value.float b t
  | .ref a, u => u = Value.ref a
  | .ty n, u => u = Value.type n
abbrev Vals : List V -> List Value -> Prop := Paired RelV
theorem Vals.length {xs : List V} {us : List Value} (r : Vals xs us) : xs.length = us.length := Paired.length r
theorem Vals.get : ∀ {xs : List V} {us : List Value} {i : Nat} {x : V}, Vals xs us -> xs[i]? = some x -> ∃ u, us[i]? = some u /\ RelV x u
  | _, _, _, _, .nil, e => by simp at e
  | _, _, 0, _, .cons r _, e => by simp at e; subst e; exact ⟨_, rfl, r⟩
  | _, _, i + 1, x, .cons _ t, e => by
    obtain ⟨u, h1, h2⟩ := Vals.get (i := i) (x := x) t (by simpa using e)
    exact ⟨u, by simpa using h1, h2⟩
theorem Vals.set {x : V} {u : Value} (r : RelV x u) : ∀ {xs : List V} {us : List Value} (i : Nat), Vals xs us -> Vals (xs.set i x) (us.set i u)
  | _, _, _, .nil => .nil
  | _, _, 0, .cons _ t => .cons r t
  | _, _, i + 1, .cons q t => .cons q (Vals.set r i t)
theorem Vals.append : ∀ {xs ys : List V} {us ws : List Value}, Vals xs us -> Vals ys ws -> Vals (xs ++ ys) (us ++ ws)
  | _, _, _, _, .nil, s => s
  | _, _, _, _, .cons r t, s => .cons r (Vals.append t s)
theorem Vals.take : ∀ {xs : List V} {us : List Value} (n : Nat), Vals xs us -> Vals (xs.take n) (us.take n)
  | _, _, 0, _ => .nil
  | _, _, _ + 1, .nil => .nil
  | _, _, n + 1, .cons r t => .cons r (Vals.take n t)
theorem Vals.drop : ∀ {xs : List V} {us : List Value} (n : Nat), Vals xs us -> Vals (xs.drop n) (us.drop n)
  | _, _, 0, r => r
  | _, _, _ + 1, .nil => .nil
  | _, _, n + 1, .cons _ t => Vals.drop n t
theorem Vals.none_of : ∀ {xs : List V} {us : List Value} {i : Nat}, Vals xs us -> xs[i]? = none -> us[i]? = none := fun {xs us i} r e => by
  have h1 := r.length
  have h2 : xs.length <= i := List.getElem?_eq_none_iff.mp e
  exact List.getElem?_eq_none_iff.mpr (by omega)
def RelO : Option V -> Option Value -> Prop
  | some v, some u => RelV v u
  | none, none => True
  | _, _ => False
def KV {κ : Type} : List (κ × V) -> List (κ × Value) -> Prop := Paired fun (p : κ × V) (q : κ × Value) => p.1 = q.1 /\ RelV p.2 q.2
def kV : Key -> V
  | .inl i => .int i
  | .inr x => .str x
inductive HO where
  | lst (xs : List V)
  | tup (xs : List V)
  | dK (kvs : List (Key × V)) | dT (kvs : List (List Key × V))
  | set (S : Int -> Bool) (n : Nat)
  | ins (C dx : Addr) (fs : List (Str × V))
  | own (x : Addr)
  | xd (fs : List (Str × V))
  | met (f x : Addr)
  | rng (lo hi : Int)
  | frz (o : Obj) (u : HO)
  | tbl (ps : Array Value)
  | ext (φ : Heap -> Prop)
abbrev Hp := Addr -> Option HO
def upd (H : Hp) (a : Addr) (o : HO) : Hp := fun b => if b = a then some o else H b
theorem z01 {H : Hp} {a : Addr} {o : HO} : upd H a o a = some o := by unfold upd; rw [if_pos rfl]
theorem z04 {H : Hp} {a b : Addr} {o : HO} (h : b ≠ a) : upd H a o b = H b := by unfold upd; rw [if_neg h]
theorem z0f {H : Hp} {a : Addr} {o u : HO} : upd (upd H a o) a u = upd H a u := by
  funext b; unfold upd; split <;> rfl
theorem z1P {H : Hp} {a b : Addr} {o u : HO} (h : H a = some o) (h' : H b = some u) (d : o ≠ u) : a ≠ b := by
  intro e; subst e; rw [h] at h'; exact d (Option.some.inj h')
theorem z0G {H : Hp} {a b : Addr} {o : HO} (h : H a = some o) (h' : H b = none) : a ≠ b := by
  intro e; subst e; rw [h] at h'; cases h'
section
variable (P : Program) (w : World)
def ObjOk (H : Hp) (h : Heap) (a : Addr) : HO -> Prop
  | .lst xs => xs.length <= sizeLine /\ ∃ (its : List Value) (n : Nat), Vals xs its /\ h.get? a = some { cls := .type "list", data := .seq its.toArray n }
  | .tup xs => xs.length <= sizeLine /\ ∃ its : List Value, Vals xs its /\ IsTup h a its.toArray
  | .dK kvs => kvs.length <= sizeLine /\ (a == sysModules) = false /\ ∃ vs, KV kvs vs /\ h.DictOf (z2v P w) a vs
  | .dT kvs => kvs.length <= sizeLine /\ (a == sysModules) = false /\ ∃ xs : List (List Key × Addr × Value),
      Paired (fun (p : List Key × V) (q : List Key × Addr × Value) => p.1 = q.1 /\ H q.2.1 = some (.tup (p.1.map kV)) /\ RelV p.2 q.2.2) kvs xs /\
      ∃ o es ep, h.get? a = some o /\ o.ExactDict /\ o.data = .dict es ep /\ es.toList = xs.map (entryOfKey (tupleKind (z2v P w))) /\ (xs.map (·.1)).Nodup
  | .set S n => h.SetOf (intKind P w) a S n
  | .ins C dx fs => H dx = some (.own a) /\ fs.length <= 1000 /\ dx ≠ a /\ h.get? a = some (PySem.W.instObj C dx) /\
      ∃ mA, h.Ns1 dx mA /\ (∀ f, RelO (fs.lookup f) (mA f)) /\ PySem.Within mA (fs.map (·.1))
  | .own _ => ∃ o, h.get? a = some o
  | .xd fs => ∃ mA, h.Ns1 a mA /\ ∀ f, RelO (fs.lookup f) (mA f)
  | .rng lo hi => ∃ t u v, h.get? a = some { cls := .type "range", data := .fields #[.int lo t, .int hi u, .int 1 v] }
  | .frz o u => h.get? a = some o /\ ObjOk H h a u
  | .tbl ps => h.get? a = some { cls := .none, data := .fields ps }
  | .met f x => h.get? a = some (PySem.W.methodObj (.ref f) (.ref x))
  | .ext φ => φ h /\ (∃ o, h.get? a = some o) /\ ∀ h1 h2 : Heap, φ h1 -> (∀ o, h1.get? a = some o -> h2.get? a = some o) -> φ h2
def HOk (H : Hp) (h : Heap) : Prop := ∀ a o, H a = some o -> ObjOk P w H h a o
end
section
variable {P : Program} {w : World} {H H' : Hp} {h h' : Heap} {a : Addr} {o : HO}
theorem ObjOk.lt (x : ObjOk P w H h a o) : a < h.objs.size := by
  cases o with
  | lst xs => obtain ⟨_, _, _, _, e⟩ := x; exact Heap.lt_size e
  | tup xs => obtain ⟨_, _, _, p⟩ := x; exact p.lt
  | dK kvs => obtain ⟨_, _, _, _, o, _, _, e, _⟩ := x; exact Heap.lt_size e
  | dT kvs => obtain ⟨_, _, _, _, o, _, _, e, _⟩ := x; exact Heap.lt_size e
  | set S n => obtain ⟨o, _, _, _, e, _⟩ := x; exact Heap.lt_size e
  | ins C dx fs => obtain ⟨_, _, _, e, _⟩ := x; exact Heap.lt_size e
  | own y => obtain ⟨_, e⟩ := x; exact Heap.lt_size e
  | xd fs => obtain ⟨_, ⟨_, _, _, e, _⟩, _⟩ := x; exact Heap.lt_size e
  | rng lo hi => obtain ⟨_, _, _, e⟩ := x; exact Heap.lt_size e
  | frz ob u => obtain ⟨e, _⟩ := x; exact Heap.lt_size e
  | tbl ps => exact Heap.lt_size (show h.get? a = some _ from x)
  | met f y => exact Heap.lt_size (show h.get? a = some _ from x)
  | ext φ => obtain ⟨_, ⟨_, e⟩, _⟩ := x; exact Heap.lt_size e
theorem Paired.mapP {α β : Type} {F G : α -> β -> Prop} : ∀ {l₁ : List α} {l₂ : List β}, Paired F l₁ l₂ -> (∀ a b, F a b -> G a b) -> Paired G l₁ l₂
  | _, _, .nil, _ => .nil
  | _, _, .cons r t, f => .cons (f _ _ r) (Paired.mapP t f)
theorem ObjOk.stay (x : ObjOk P w H h a o) (k : ∀ b u, (b = a \/ H b = some (.own a)) -> h.get? b = some u -> h'.get? b = some u)
    (ho : ∀ b, H b = some (.own a) -> H' b = some (.own a)) (ht : ∀ b xs, H b = some (.tup xs) -> H' b = some (.tup xs)) : ObjOk P w H' h' a o := by
  induction o with
  | lst xs => obtain ⟨z, its, n, r, e⟩ := x; exact ⟨z, its, n, r, k _ _ (.inl rfl) e⟩
  | tup xs => obtain ⟨z, its, r, ob, e, c⟩ := x; exact ⟨z, its, r, ob, k _ _ (.inl rfl) e, c⟩
  | dK kvs => obtain ⟨z, y, vs, r, ob, es, ep, e, c⟩ := x; exact ⟨z, y, vs, r, ob, es, ep, k _ _ (.inl rfl) e, c⟩
  | dT kvs =>
    obtain ⟨z, y, xs, r, ob, es, ep, e, c⟩ := x
    exact ⟨z, y, xs, Paired.mapP r fun p q z => ⟨z.1, ht _ _ z.2.1, z.2.2⟩, ob, es, ep, k _ _ (.inl rfl) e, c⟩
  | set S n => obtain ⟨ob, es, ep, t, e, c⟩ := x; exact ⟨ob, es, ep, t, k _ _ (.inl rfl) e, c⟩
  | ins C dx fs =>
    obtain ⟨d, z, ne, e, mA, ⟨od, es, ep, e2, c⟩, r⟩ := x
    exact ⟨ho _ d, z, ne, k _ _ (.inl rfl) e, mA, ⟨od, es, ep, k _ _ (.inr d) e2, c⟩, r⟩
  | own y => obtain ⟨ob, e⟩ := x; exact ⟨ob, k _ _ (.inl rfl) e⟩
  | xd fs => obtain ⟨mA, ⟨od, es, ep, e, c⟩, r⟩ := x; exact ⟨mA, ⟨od, es, ep, k _ _ (.inl rfl) e, c⟩, r⟩
  | rng lo hi => obtain ⟨t, u, v, e⟩ := x; exact ⟨t, u, v, k _ _ (.inl rfl) e⟩
  | frz ob u ih => obtain ⟨e, q⟩ := x; exact ⟨k _ _ (.inl rfl) e, ih q⟩
  | tbl ps =>
    have e : h.get? a = some { cls := .none, data := .fields ps } := x
    show h'.get? a = some { cls := .none, data := .fields ps }
    exact k a _ (.inl rfl) e
  | met f y =>
    have e : h.get? a = some (PySem.W.methodObj (.ref f) (.ref y)) := x
    show h'.get? a = some (PySem.W.methodObj (.ref f) (.ref y))
    exact k a _ (.inl rfl) e
  | ext φ => obtain ⟨p, ⟨o, e⟩, st⟩ := x; exact ⟨st _ _ p fun o q => k _ _ (.inl rfl) q, ⟨o, k _ _ (.inl rfl) e⟩, st⟩
theorem HOk.lt (x : HOk P w H h) (e : H a = some o) : a < h.objs.size := (x a o e).lt
theorem HOk.fresh (x : HOk P w H h) (e : h.objs.size <= a) : H a = none := by
  cases q : H a with
  | none => rfl
  | some u => exact absurd (Nat.lt_of_lt_of_le (x.lt q) e) (Nat.lt_irrefl _)
theorem HOk.kept (x : HOk P w H h) (k : ∀ b u, h.get? b = some u -> h'.get? b = some u) : HOk P w H h' := fun a o e =>
  (x a o e).stay (fun b u _ q => k b u q) (fun _ q => q) fun _ _ q => q
theorem HOk.laid (x : HOk P w H h) (k : ∀ b u, h.get? b = some u -> h'.get? b = some u) (hp : h.objs.size <= a) (new : ObjOk P w (upd H a o) h' a o) : HOk P w (upd H a o) h' := fun b u e => by
  have hn := x.fresh hp
  by_cases hb : b = a
  . subst hb; rw [z01] at e; cases e; exact new
  . rw [z04 hb] at e
    exact (x b u e).stay (fun c v _ q => k c v q) (fun c q => by rw [z04 (z0G q hn)]; exact q) fun c xs q => by rw [z04 (z0G q hn)]; exact q
end
def Rd (H : Hp) (a : Addr) (u : HO) : Prop := H a = some u \/ ∃ o, H a = some (.frz o u)
theorem Rd.of {H : Hp} {a : Addr} {u : HO} (h : H a = some u) : Rd H a u := .inl h
theorem Rd.ok {P : Program} {w : World} {H : Hp} {h : Heap} {a : Addr} {u : HO} (r : Rd H a u) (x : HOk P w H h) : ObjOk P w H h a u := by
  rcases r with r | ⟨o, r⟩
  . exact x a u r
  . obtain ⟨_, q⟩ := x a _ r
    exact q
def Mut : Option HO -> Prop
  | some (.lst _) => True
  | some (.dK _) => True
  | some (.dT _) => True
  | some (.set _ _) => True
  | some (.ins _ _ _) => True
  | some (.ext _) => True
  | _ => False
section
variable {P : Program} {w : World} {H : Hp} {h h' : Heap} {x e : Addr} {o' : HO}
theorem HOk.write (ok : HOk P w H h) (mu : Mut (H x)) (he : e = x \/ H e = some (.own x)) (k : ∀ b u, b ≠ e -> h.get? b = some u -> h'.get? b = some u) (heo : ∃ u, h'.get? e = some u)
    (new : ObjOk P w (upd H x o') h' x o') : HOk P w (upd H x o') h' := fun b u q => by
  have nown : ∀ c y, H c = some (.own y) -> c ≠ x := fun c y r z => by subst z; rw [r] at mu; exact mu
  have ntup : ∀ c xs, H c = some (.tup xs) -> c ≠ x := fun c xs r z => by subst z; rw [r] at mu; exact mu
  by_cases hb : b = x
  . subst hb; rw [z01] at q; cases q; exact new
  . rw [z04 hb] at q
    by_cases hbe : b = e
    . have q' : H b = some (.own x) := by
        rcases he with z | z
        . exact absurd (hbe.trans z) hb
        . rw [hbe]; exact z
      rw [q] at q'; cases q'
      obtain ⟨v, hv⟩ := heo
      exact ⟨v, by rw [hbe]; exact hv⟩
    . refine (ok b u q).stay (fun c v hc r => k c v ?_ r) (fun c r => by rw [z04 (nown c b r)]; exact r) fun c xs r => by rw [z04 (ntup c xs r)]; exact r
      rcases hc with rfl | hc
      . exact hbe
      . rintro rfl
        rcases he with z | z
        . exact nown c b hc z
        . rw [hc] at z; cases z; exact hb rfl
end
structure Un (fs ex : List Addr) (H H' : Hp) (h h' : Heap) : Prop where
  keep : ∀ b o, h.get? b = some o -> H b = none -> b ∉ fs -> b ∉ ex -> h'.get? b = some o
  slot : ∀ b o, h.get? b = some o -> H b = none -> b ∈ fs -> b ∉ ex -> ∃ sl, h'.get? b = some { o with slots := sl }
  free : ∀ b o, h.get? b = some o -> H b = none -> b ∉ ex -> H' b = none
  there : ∀ b o, h.get? b = some o -> b ∉ ex -> ∃ o', h'.get? b = some o'
  tups : ∀ b xs, H b = some (.tup xs) -> H' b = some (.tup xs)
  frzs : ∀ b o u, H b = some (.frz o u) -> H' b = some (.frz o u)
  tbls : ∀ b ps, H b = some (.tbl ps) -> ∃ more, H' b = some (.tbl (ps ++ more))
section
variable {fs fs' ex ex' : List Addr} {H H1 H2 : Hp} {h h1 h2 h' : Heap} {a x e : Addr} {o : HO}
theorem Un.any (u : Un fs ex H H1 h h1) {b : Addr} {ob : Obj} (q : h.get? b = some ob) (n : H b = none) (hx : b ∉ ex) : ∃ sl, h1.get? b = some { ob with slots := sl } := by
  by_cases hb : b ∈ fs
  . exact u.slot b ob q n hb hx
  . exact ⟨ob.slots, u.keep b ob q n hb hx⟩
theorem Un.trans (a : Un fs ex H H1 h h1) (b : Un fs ex H1 H2 h1 h2) : Un fs ex H H2 h h2 where
  keep := fun c ob q n hc hx => b.keep c ob (a.keep c ob q n hc hx) (a.free c ob q n hx) hc hx
  slot := fun c ob q n hc hx => by
    obtain ⟨sl, e1⟩ := a.slot c ob q n hc hx
    obtain ⟨sl', e2⟩ := b.slot c _ e1 (a.free c ob q n hx) hc hx
    exact ⟨sl', e2⟩
  free := fun c ob q n hx => by
    obtain ⟨o', e1⟩ := a.there c ob q hx
    exact b.free c o' e1 (a.free c ob q n hx) hx
  there := fun c ob q hx => by
    obtain ⟨o', e1⟩ := a.there c ob q hx
    exact b.there c o' e1 hx
  tups := fun c xs q => b.tups c xs (a.tups c xs q)
  frzs := fun c ob xs q => b.frzs c ob xs (a.frzs c ob xs q)
  tbls := fun c ps q => by
    obtain ⟨m1, e1⟩ := a.tbls c ps q
    obtain ⟨m2, e2⟩ := b.tbls c _ e1
    exact ⟨m1 ++ m2, by rw [e2, Array.append_assoc]⟩
theorem Un.kept (k : ∀ b u, h.get? b = some u -> h'.get? b = some u) : Un fs ex H H h h' :=
  ⟨fun b ob q _ _ _ => k b ob q, fun b ob q _ _ _ => ⟨ob.slots, k b ob q⟩, fun _ _ _ n _ => n, fun b ob q _ => ⟨ob, k b ob q⟩, fun _ _ q => q, fun _ _ _ q => q, fun _ ps q => ⟨#[], by rw [q]; simp⟩⟩
theorem Un.refl : Un fs ex H H h h := Un.kept fun _ _ q => q
theorem Un.laid (k : ∀ b u, h.get? b = some u -> h'.get? b = some u) (hp : h.objs.size <= a) (hn : H a = none) : Un fs ex H (upd H a o) h h' where
  keep := fun b u q _ _ _ => k b u q
  slot := fun b u q _ _ _ => ⟨u.slots, k b u q⟩
  free := fun b u q n _ => by rw [z04 (Nat.ne_of_lt (Nat.lt_of_lt_of_le (Heap.lt_size q) hp))]; exact n
  there := fun b u q _ => ⟨u, k b u q⟩
  tups := fun b xs q => by rw [z04 (z0G q hn)]; exact q
  frzs := fun b u xs q => by rw [z04 (z0G q hn)]; exact q
  tbls := fun b ps q => ⟨#[], by rw [z04 (z0G q hn), q]; simp⟩
theorem Un.write (mu : Mut (H x)) (he : e = x \/ H e = some (.own x)) (k : ∀ b u, b ≠ e -> h.get? b = some u -> h'.get? b = some u) (heo : ∃ u, h'.get? e = some u) : Un fs ex H (upd H x o) h h' := by
  have hx : ∀ b, H b = none -> b ≠ x := fun b n z => by subst z; rw [n] at mu; exact mu
  have hb : ∀ b, H b = none -> b ≠ e := fun b n z => by
    subst z
    rcases he with r | r
    . exact hx b n r
    . rw [n] at r; cases r
  have hm : ∀ b u, H b = some u -> ¬ Mut (some u) -> b ≠ x := fun b u q nm z => by subst z; rw [q] at mu; exact nm mu
  refine ⟨fun b u q n _ _ => k b u (hb b n) q, fun b u q n _ _ => ⟨u.slots, k b u (hb b n) q⟩, fun b u q n _ => by rw [z04 (hx b n)]; exact n, fun b u q _ => ?_,
    fun b xs q => by rw [z04 (hm b _ q fun z => z)]; exact q, fun b u xs q => by rw [z04 (hm b _ q fun z => z)]; exact q, fun b ps q => ⟨#[], by rw [z04 (hm b _ q fun z => z), q]; simp⟩⟩
  by_cases hbe : b = e
  . subst hbe; exact heo
  . exact ⟨u, k b u hbe q⟩
theorem Un.mono (u : Un fs ex H H1 h h1) (hs : ∀ b ∈ fs, b ∈ fs') (hx : ∀ b ∈ ex, b ∈ ex') : Un fs' ex' H H1 h h1 :=
  ⟨fun b ob q n hb he => u.keep b ob q n (fun z => hb (hs b z)) fun z => he (hx b z), fun _ _ q n _ he => u.any q n fun z => he (hx _ z), fun b ob q n he => u.free b ob q n fun z => he (hx b z), fun b ob q he => u.there b ob q fun z => he (hx b z), u.tups, u.frzs, u.tbls⟩
end
def trk (h : Heap) (H : Hp) : List Addr := (List.range h.objs.size).filter fun a => (H a).isSome
def z3c (h : Heap) (H : Hp) : Heap := PySem.W.hideAll h (trk h H)
theorem z2w (h : Heap) (H : Hp) : (z3c h H).objs.size = h.objs.size := PySem.W.hideAll_size _ _
theorem z3d {h : Heap} {H : Hp} {b : Addr} {o : Obj} (e : h.get? b = some o) (n : H b = none) : (z3c h H).get? b = some o :=
  PySem.W.hideAll_get _ e fun hm => by
    have q : (H b).isSome = true := (List.mem_filter.mp hm).2
    rw [n] at q; simp at q
theorem z42 {h : Heap} {H : Hp} {b : Addr} {o : Obj} (e : (z3c h H).get? b = some o) : h.get? b = some o /\ H b = none := by
  have e' : h.get? b = some o := PySem.W.of_hideAll (trk h H) e
  refine ⟨e', ?_⟩
  cases q : H b with
  | none => rfl
  | some x =>
    have hm : b ∈ trk h H := List.mem_filter.mpr ⟨List.mem_range.mpr (Heap.lt_size e'), by simp [q]⟩
    have z : (z3c h H).get? b = none := PySem.W.hideAll_none (trk h H) hm
    rw [z] at e; cases e
def z43 (g h : Heap) (L : Addr) : List (Addr × Obj) := (List.range h.objs.size).filterMap fun a => if a = L \/ (g.get? a).isSome = true then none else (h.get? a).map fun o => (a, o)
def rest (g h : Heap) (L d : Addr) : List (Addr × Obj) := (z43 g h L).filter fun p => decide (p.1 ≠ d)
structure Mod (K : PySem.W.Frag) (mg : Str -> Option Value) (base : Heap) : Prop where
  kin : K.In base
  glob : base.Ns mainGlobals mg
  blt : ∃ mb, base.Ns builtinsNs mb /\ ∀ x : Str, x ≠ "__name__" -> mb x = bootBuiltins x
  nolimit : base.NoLimit
structure Cx where
  prog : Program
  w : World
  K : PySem.W.Frag
  mg : Str -> Option Value
  base : Heap
  A : Around
  N : List Str
  s₀ : Shared
  H₀ : Hp
  env : Env
  outer : List Env
  stack : List Env
  ex : List Addr
  fn : Str -> Bool
  calm : Bool
  pn : List (Addr × Obj)
  xe : Value -> Shared -> Prop
def frs (l : List Env) : List Addr := l.filterMap (·.frame)
abbrev Cx.fs (X : Cx) : List Addr := frs X.outer
def Vis (sc : Scope) (x : Str) : Prop := sc.names.lookup x = some .local \/ sc.names.lookup x = some .cell \/ sc.names.lookup x = some .free
def Loc (sc : Scope) (x : Str) : Prop := sc.names.lookup x = some .local \/ sc.names.lookup x = some .cell
def Look (env : Env) (h : Heap) (m : Str -> Option Value) (x : Str) (u : Value) : Prop :=
  (env.kindOf x = some .local /\ m x = some u) \/ ((env.kindOf x = some .cell \/ env.kindOf x = some .free) /\ ∃ c, env.cells.lookup x = some c /\ h.IsCell c (some u))
structure Cx.Ok (X : Cx) : Prop where
  mod : Mod X.K X.mg X.base
  kind : X.env.scope.kind = .function
  glob : X.env.globals = mainGlobals
  blt : X.env.builtins = builtinsNs
  above : X.s₀.heap.objs.size <= X.env.locals
  inj : ∀ x y c, X.env.cells.lookup x = some c -> X.env.cells.lookup y = some c -> x = y
  has : ∀ x, (X.env.kindOf x = some .cell \/ X.env.kindOf x = some .free) -> ∃ c, X.env.cells.lookup x = some c
  cab : ∀ x c, X.fn x = true -> X.env.cells.lookup x = some c -> X.s₀.heap.objs.size <= c
  hd : X.calm = true -> X.A.handled = none
  frames : X.A.frames = some X.stack
  stk : X.stack = X.outer \/ (X.stack = X.env :: X.outer /\ X.env.frame = some X.env.locals)
  exf : ∀ b ∈ X.ex, b ≠ X.env.locals /\ ∀ x c, X.env.cells.lookup x = some c -> c ≠ b
  bs : ∀ b o, X.base.get? b = some o -> X.s₀.heap.get? b = some o /\ X.H₀ b = none
  bsz : X.base.objs.size <= X.s₀.heap.objs.size
  noex : ∀ b o, X.base.get? b = some o -> b ∉ X.ex
  exfs : ∀ b ∈ X.ex, b ∉ X.fs
  funs : X.s₀.heap.FunFrames X.base X.outer
  frf : ∀ b ∈ X.fs, X.H₀ b = none
structure Inv (X : Cx) (pins : List (Addr × Obj)) (σ : List (Option V)) (H : Hp) (s : Shared) : Prop where
  ok : X.Ok
  os : s.os = X.s₀.os
  bare : AllBare s.gens
  base : Un X.fs X.ex X.H₀ H X.s₀.heap s.heap
  loc : ∃ m, s.heap.Ns X.env.locals m /\ ∀ (i : Nat) (x : Str) (v : V), X.N[i]? = some x -> σ[i]? = some (some v) -> Vis X.env.scope x -> ∃ u, RelV v u /\ Look X.env s.heap m x u
  cell : ∀ x c, X.env.cells.lookup x = some c -> ∃ v, s.heap.IsCell c v
  free : H X.env.locals = none
  freeC : ∀ x c, X.env.cells.lookup x = some c -> H c = none
  pin : ∀ p ∈ X.pn ++ pins, s.heap.get? p.1 = some p.2 /\ H p.1 = none /\ p.1 ≠ X.env.locals /\ p.1 ∉ X.fs /\ ∀ v, p.2.data ≠ .cell v
  hok : HOk X.prog X.w H s.heap
  len : σ.length = X.N.length
section
variable {X : Cx} {pins : List (Addr × Obj)} {σ : List (Option V)} {H H' : Hp} {s : Shared} {h' : Heap}
theorem Cx.Ok.nofr (ok : X.Ok) {b : Addr} {o : Obj} (e : X.base.get? b = some o) : b ∉ X.fs := fun hb => by
  have := (ok.funs.mem hb).1
  rw [e] at this; cases this
theorem Inv.bs (I : Inv X pins σ H s) : ∀ b o, X.base.get? b = some o -> s.heap.get? b = some o /\ H b = none := fun b o e =>
  ⟨I.base.keep b o (I.ok.bs b o e).1 (I.ok.bs b o e).2 (I.ok.nofr e) (I.ok.noex b o e), I.base.free b o (I.ok.bs b o e).1 (I.ok.bs b o e).2 (I.ok.noex b o e)⟩
theorem Inv.bk (I : Inv X pins σ H s) : ∀ b o, X.base.get? b = some o -> s.heap.get? b = some o := fun b o e => (I.bs b o e).1
theorem Inv.mod (I : Inv X pins σ H s) : Mod X.K X.mg X.base := I.ok.mod
theorem Inv.kIn (I : Inv X pins σ H s) : X.K.In s.heap := I.ok.mod.kin.keeps I.bk
theorem Inv.nolimit (I : Inv X pins σ H s) : s.heap.NoLimit := I.ok.mod.nolimit.keeps I.bk
theorem Inv.fr (I : Inv X pins σ H s) : ∃ m, Fr X.base X.env.locals s.heap m :=
  let ⟨m, hn, _⟩ := I.loc
  ⟨m, hn, I.bk, Nat.le_trans I.ok.bsz I.ok.above⟩
theorem Inv.lt (I : Inv X pins σ H s) : X.env.locals < s.heap.objs.size := let ⟨_, hn, _⟩ := I.loc; hn.lt
theorem Inv.sz (I : Inv X pins σ H s) : X.s₀.heap.objs.size <= s.heap.objs.size := Nat.le_trans I.ok.above (Nat.le_of_lt I.lt)
theorem Inv.nofs (I : Inv X pins σ H s) {a : Addr} (h : s.heap.objs.size <= a) : a ∉ X.fs := fun hb => by
  obtain ⟨_, o, ho, _⟩ := I.ok.funs.mem hb
  exact absurd (Nat.lt_of_lt_of_le (Heap.lt_size ho) (Nat.le_trans I.sz h)) (Nat.lt_irrefl _)
theorem Inv.cne (I : Inv X pins σ H s) : ∀ x c, X.env.cells.lookup x = some c -> c ≠ X.env.locals := fun x c e z => by
  obtain ⟨v, o, ho, hd⟩ := I.cell x c e
  obtain ⟨m, ⟨o', es, ep, ho', hd', _⟩, _⟩ := I.loc
  rw [z, ho'] at ho; cases ho; rw [hd'] at hd; cases hd
theorem Inv.funs (I : Inv X pins σ H s) : s.heap.FunFrames X.base X.outer := by
  have all : ∀ (l : List Env), (∀ b ∈ frs l, b ∈ X.fs) -> X.s₀.heap.FunFrames X.base l -> s.heap.FunFrames X.base l := by
    intro l
    induction l with
    | nil => intro _ _; trivial
    | cons env r ih =>
      intro hs hl
      obtain ⟨hk, ⟨L, o, hf, hn, ho, hd⟩, hr⟩ := hl
      have hL : L ∈ X.fs := hs L (by unfold frs; rw [List.filterMap_cons, hf]; exact List.mem_cons_self)
      obtain ⟨sl, e⟩ := I.base.slot L o ho (I.ok.frf L hL) hL fun z => I.ok.exfs L z hL
      exact ⟨hk, ⟨L, _, hf, hn, e, hd⟩, ih (fun b hb => hs b (by unfold frs; rw [List.filterMap_cons, hf]; exact List.mem_cons_of_mem _ hb)) hr⟩
  exact all X.outer (fun _ hb => hb) I.ok.funs
theorem Inv.stack (I : Inv X pins σ H s) : s.heap.FunFrames X.base X.stack := by
  rcases I.ok.stk with e | ⟨e, hf⟩
  . rw [e]; exact I.funs
  . rw [e]
    obtain ⟨m, hn, _⟩ := I.loc
    refine .cons (by rw [I.ok.kind]; decide) hf hn ?_ I.funs
    exact Heap.get?_none_of_le (Nat.le_trans I.ok.bsz I.ok.above)
theorem Inv.stkSub (I : Inv X pins σ H s) : ∀ b ∈ frs X.stack, b ∈ X.env.locals :: X.fs := fun b hb => by
  rcases I.ok.stk with e | ⟨e, hf⟩
  . rw [e] at hb; exact List.mem_cons_of_mem _ hb
  . rw [e] at hb
    unfold frs at hb
    rw [List.filterMap_cons, hf] at hb
    exact hb
theorem Inv.stkFree (I : Inv X pins σ H s) : ∀ b ∈ frs X.stack, H b = none := fun b hb => by
  rcases List.mem_cons.mp (I.stkSub b hb) with e | hb
  . rw [e]; exact I.free
  . obtain ⟨_, o, ho, _⟩ := I.ok.funs.mem hb
    exact I.base.free b o ho (I.ok.frf b hb) fun z => I.ok.exfs b z hb
theorem Inv.step {g' : Array GenState} {t' : Nat} {d' : Drawn} {ch : List Addr} (I : Inv X pins σ H s)
    (hch : ∀ b ∈ ch, (b ∈ X.ex \/ X.s₀.heap.objs.size <= b) /\ b ≠ X.env.locals /\ (∀ x c, X.env.cells.lookup x = some c -> c ≠ b) /\ ∀ p ∈ X.pn ++ pins, p.1 ≠ b)
    (keep : ∀ b o, b ≠ X.env.locals -> b ∉ X.fs -> b ∉ ch -> s.heap.get? b = some o -> H b = none -> h'.get? b = some o)
    (slot : ∀ b o, b ≠ X.env.locals -> b ∈ X.fs -> b ∉ ch -> s.heap.get? b = some o -> H b = none -> ∃ sl, h'.get? b = some { o with slots := sl }) (free : ∀ b o, b ∉ ch -> s.heap.get? b = some o -> H b = none -> H' b = none)
    (there : ∀ b o, b ∉ ch -> s.heap.get? b = some o -> ∃ o', h'.get? b = some o')
    (tups : ∀ b xs, H b = some (.tup xs) -> H' b = some (.tup xs)) (frzs : ∀ b o u, H b = some (.frz o u) -> H' b = some (.frz o u)) (tbls : ∀ b ps, H b = some (.tbl ps) -> ∃ more, H' b = some (.tbl (ps ++ more)))
    (ns : ∀ m, s.heap.Ns X.env.locals m -> h'.Ns X.env.locals m) (hok : HOk X.prog X.w H' h') (hg : AllBare g') :
    Inv X pins σ H' { s with heap := h', gens := g', drawn := d', toks := t' } := by
  have neL : ∀ b o, X.s₀.heap.get? b = some o -> b ≠ X.env.locals := fun b o e => Nat.ne_of_lt (Nat.lt_of_lt_of_le (Heap.lt_size e) I.ok.above)
  have neC : ∀ b o, X.s₀.heap.get? b = some o -> b ∉ X.ex -> b ∉ ch := fun b o e hx hb => by
    rcases (hch b hb).1 with z | z
    . exact hx z
    . exact absurd (Nat.lt_of_lt_of_le (Heap.lt_size e) z) (Nat.lt_irrefl _)
  have cellK : ∀ x c, X.env.cells.lookup x = some c -> ∀ v, s.heap.IsCell c v -> h'.IsCell c v := fun x c e v ⟨o, ho, hd⟩ => by
    have nch : c ∉ ch := fun z => (hch c z).2.2.1 x c e rfl
    by_cases hc : c ∈ X.fs
    . obtain ⟨sl, q⟩ := slot c o (I.cne x c e) hc nch ho (I.freeC x c e)
      exact ⟨_, q, hd⟩
    . exact ⟨o, keep c o (I.cne x c e) hc nch ho (I.freeC x c e), hd⟩
  refine ⟨I.ok, I.os, hg, ⟨fun b o e n hb hx => ?_, fun b o e n hb hx => ?_, fun b o e n hx => ?_, fun b o e hx => ?_, fun b xs e => tups b xs (I.base.tups b xs e), fun b o xs e => frzs b o xs (I.base.frzs b o xs e), fun b ps e => ?_⟩, ?_, fun x c e => ?_, ?_, fun x c e => ?_, fun p hp => ?_, hok, I.len⟩
  . exact keep b o (neL b o e) hb (neC b o e hx) (I.base.keep b o e n hb hx) (I.base.free b o e n hx)
  . obtain ⟨sl, e1⟩ := I.base.slot b o e n hb hx
    obtain ⟨sl', e2⟩ := slot b _ (neL b o e) hb (neC b o e hx) e1 (I.base.free b o e n hx)
    exact ⟨sl', e2⟩
  . obtain ⟨o', e1⟩ := I.base.there b o e hx
    exact free b o' (neC b o e hx) e1 (I.base.free b o e n hx)
  . obtain ⟨o', e1⟩ := I.base.there b o e hx
    exact there b o' (neC b o e hx) e1
  . obtain ⟨m1, e1⟩ := I.base.tbls b ps e
    obtain ⟨m2, e2⟩ := tbls b _ e1
    exact ⟨m1 ++ m2, by rw [e2, Array.append_assoc]⟩
  . obtain ⟨m, hn, hl⟩ := I.loc
    refine ⟨m, ns m hn, fun i x v e1 e2 e3 => ?_⟩
    obtain ⟨u, r, l⟩ := hl i x v e1 e2 e3
    refine ⟨u, r, ?_⟩
    rcases l with l | ⟨k, c, e, z⟩
    . exact .inl l
    . exact .inr ⟨k, c, e, cellK x c e _ z⟩
  . obtain ⟨v, z⟩ := I.cell x c e
    exact ⟨v, cellK x c e v z⟩
  . obtain ⟨m, ⟨o, _, _, ho, _⟩, _⟩ := I.loc
    exact free _ o (fun z => (hch _ z).2.1 rfl) ho I.free
  . obtain ⟨v, o, ho, hd⟩ := I.cell x c e
    exact free c o (fun z => (hch c z).2.2.1 x c e rfl) ho (I.freeC x c e)
  . obtain ⟨e, n, ne, nf, d⟩ := I.pin p hp
    have nch : p.1 ∉ ch := fun z => (hch p.1 z).2.2.2 p hp rfl
    exact ⟨keep p.1 p.2 ne nf nch e n, free p.1 p.2 nch e n, ne, nf, d⟩
theorem Inv.un {t' : Nat} (I : Inv X pins σ H s) (u : Un X.fs [] H H' s.heap h') (hok : HOk X.prog X.w H' h') : Inv X pins σ H' { s with heap := h', toks := t' } := by
  obtain ⟨m, ⟨o, es, ep, ho, r⟩, _⟩ := id I.loc
  obtain ⟨sl, hL⟩ := u.any ho I.free (by simp)
  exact I.step (g' := s.gens) (d' := s.drawn) (ch := []) (fun _ z => nomatch z) (fun b o _ hb _ e n => u.keep b o e n hb (by simp)) (fun b o _ hb _ e n => u.slot b o e n hb (by simp)) (fun b o _ e n => u.free b o e n (by simp)) (fun b o _ e => u.there b o e (by simp)) u.tups u.frzs u.tbls (fun m' hm => by
    obtain ⟨o', es', ep', ho', r'⟩ := hm
    rw [ho] at ho'; cases ho'
    exact ⟨_, es', ep', hL, r'⟩) hok I.bare
theorem Inv.call {g' : Array GenState} {t' : Nat} {d' : Drawn} {ch : List Addr} (I : Inv X pins σ H s) (u : Un (frs X.stack) ch H H' s.heap h') (hok : HOk X.prog X.w H' h') (hg : AllBare g')
    (hch : ∀ b ∈ ch, (b ∈ X.ex \/ X.s₀.heap.objs.size <= b) /\ b ≠ X.env.locals /\ (∀ x c, X.env.cells.lookup x = some c -> c ≠ b) /\ ∀ p ∈ X.pn ++ pins, p.1 ≠ b) :
    Inv X pins σ H' { s with heap := h', gens := g', drawn := d', toks := t' } := by
  obtain ⟨m, ⟨o, es, ep, ho, r⟩, _⟩ := id I.loc
  obtain ⟨sl, hL⟩ := u.any ho I.free fun z => (hch _ z).2.1 rfl
  exact I.step (ch := ch) hch (fun b o hL hb hc e n => u.keep b o e n (fun z => (List.mem_cons.mp (I.stkSub b z)).elim hL hb) hc) (fun b o _ _ hc e n => u.any e n hc) (fun b o hc e n => u.free b o e n hc) (fun b o hc e => u.there b o e hc) u.tups u.frzs u.tbls (fun m' hm => by
    obtain ⟨o', es', ep', ho', r'⟩ := hm
    rw [ho] at ho'; cases ho'
    exact ⟨_, es', ep', hL, r'⟩) hok hg
theorem Inv.turned {t' : Nat} {it : Addr} (I : Inv X pins σ H s) (k : ∀ b o, b ≠ it -> s.heap.get? b = some o -> h'.get? b = some o) (hn : H it = none) (hL : it ≠ X.env.locals)
    (h1 : it ∈ X.ex \/ X.s₀.heap.objs.size <= it) (h2 : ∀ x c, X.env.cells.lookup x = some c -> c ≠ it) (h3 : ∀ p ∈ X.pn ++ pins, p.1 ≠ it) : Inv X pins σ H { s with heap := h', toks := t' } := by
  have nit : ∀ b u, H b = some u -> b ≠ it := fun b u e z => by rw [z, hn] at e; cases e
  refine I.step (g' := s.gens) (d' := s.drawn) (ch := [it]) (fun b hb => ?_) (fun b o _ _ hc e _ => k b o (fun z => hc (by simp [z])) e) (fun b o _ _ hc e _ => ⟨o.slots, k b o (fun z => hc (by simp [z])) e⟩) (fun _ _ _ _ n => n)
    (fun b o hc e => ⟨o, k b o (fun z => hc (by simp [z])) e⟩) (fun _ _ e => e) (fun _ _ _ e => e) (fun b ps e => ⟨#[], by rw [e]; simp⟩) (fun m hm => ?_) (fun b u e => ?_) I.bare
  . have e : b = it := by simpa using hb
    subst e
    exact ⟨h1, hL, h2, h3⟩
  . obtain ⟨o, es, ep, ho, r⟩ := hm
    exact ⟨o, es, ep, k _ o (Ne.symm hL) ho, r⟩
  . refine (I.hok b u e).stay (fun c v hc q => k c v ?_ q) (fun _ q => q) fun _ _ q => q
    rcases hc with z | z
    . rw [z]; exact nit b u e
    . exact nit c _ z
theorem Inv.tok (I : Inv X pins σ H s) (t : Nat) : Inv X pins σ H { s with toks := t } := I.un (h' := s.heap) (t' := t) Un.refl I.hok
theorem Inv.kept {t' : Nat} (I : Inv X pins σ H s) (k : ∀ b u, s.heap.get? b = some u -> h'.get? b = some u) : Inv X pins σ H { s with heap := h', toks := t' } := I.un (Un.kept k) (I.hok.kept k)
theorem Inv.laid {a : Addr} {o : HO} {t' : Nat} (I : Inv X pins σ H s) (k : ∀ b u, s.heap.get? b = some u -> h'.get? b = some u) (hp : s.heap.objs.size <= a) (new : ObjOk X.prog X.w (upd H a o) h' a o) :
    Inv X pins σ (upd H a o) { s with heap := h', toks := t' } := I.un (Un.laid k hp (I.hok.fresh hp)) (I.hok.laid k hp new)
theorem Inv.write {x e : Addr} {o : HO} {t' : Nat} (I : Inv X pins σ H s) (mu : Mut (H x)) (he : e = x \/ H e = some (.own x)) (k : ∀ b u, b ≠ e -> s.heap.get? b = some u -> h'.get? b = some u) (heo : ∃ u, h'.get? e = some u)
    (new : ObjOk X.prog X.w (upd H x o) h' x o) : Inv X pins σ (upd H x o) { s with heap := h', toks := t' } := I.un (Un.write mu he k heo) (I.hok.write mu he k heo new)
theorem Inv.pins_of {pins' : List (Addr × Obj)} (I : Inv X pins σ H s) (h : ∀ p ∈ pins', s.heap.get? p.1 = some p.2 /\ H p.1 = none /\ p.1 ≠ X.env.locals /\ p.1 ∉ X.fs /\ ∀ v, p.2.data ≠ .cell v) : Inv X pins' σ H s :=
  ⟨I.ok, I.os, I.bare, I.base, I.loc, I.cell, I.free, I.freeC, fun p hp => (List.mem_append.mp hp).elim (fun z => I.pin p (List.mem_append_left _ z)) (h p), I.hok, I.len⟩
theorem z1Q {N : List Str} (hN : N.Nodup) {i j : Nat} {x : Str} (a : N[i]? = some x) (b : N[j]? = some x) : i = j := by
  obtain ⟨h1, e1⟩ := List.getElem?_eq_some_iff.mp a
  obtain ⟨h2, e2⟩ := List.getElem?_eq_some_iff.mp b
  exact (List.getElem_inj hN).mp (e1.trans e2.symm)
theorem z1k {M : Model} {A : Around} {E : Value -> Shared -> Prop} {i : Nat} {x : Str} {v : V} {u : Value} {Q : Unit -> Shared -> Prop} (I : Inv X pins σ H s) (hN : X.N.Nodup) (hi : X.N[i]? = some x) (hx : Loc X.env.scope x) (r : RelV v u)
    (h : ∀ s', Inv X pins (σ.set i (some v)) H s' -> (∃ a, Heap.SameBut a s.heap s'.heap /\ (a = X.env.locals \/ X.env.cells.lookup x = some a)) -> Q () s') (hf : X.fn x = true \/ X.env.scope.names.lookup x = some .local := by first | exact .inl rfl | exact .inr rfl | assumption) : wpAny M A (storeName X.env x u) Q E s := by
  obtain ⟨m, hn, hl⟩ := id I.loc
  have hcls : (X.env.scope.kind == .class || (X.env.scope.kind == .module && X.env.locals != X.env.globals)) = false := by rw [I.ok.kind]; rfl
  have hiσ : i < σ.length := by rw [I.len]; exact (List.getElem?_eq_some_iff.mp hi).1
  have cne := I.cne
  have tracked : ∀ {a : Addr} {h' : Heap}, (∃ o, s.heap.get? a = some o /\ H a = none) -> Heap.SameBut a s.heap h' -> HOk X.prog X.w H h' := fun {a h'} ha hs b ob e => by
    obtain ⟨_, _, hfree⟩ := ha
    refine (I.hok b ob e).stay (fun c w' hc q => (hs.2 c ?_).trans q) (fun _ q => q) fun _ _ q => q
    rintro rfl
    rcases hc with rfl | hc
    . rw [hfree] at e; cases e
    . rw [hfree] at hc; cases hc
  rcases hx with hk | hk
  . refine wpAny_storeName_local hk hn (fun h' hn' hs => ?_) hcls
    obtain ⟨oL, _, _, hoL, _⟩ := id hn
    refine h _ ⟨I.ok, I.os, I.bare, ⟨fun b o e n hb hx => ?_, fun b o e n hb hx => ?_, I.base.free, fun b o e hx => ?_, I.base.tups, I.base.frzs, I.base.tbls⟩, ⟨_, hn', fun j y v' e1 e2 e3 => ?_⟩, fun y c e => ?_, I.free, I.freeC, fun p hp => ?_, tracked ⟨oL, hoL, I.free⟩ hs, by simpa using I.len⟩ ⟨_, hs, .inl rfl⟩
    . exact (hs.2 b (Nat.ne_of_lt (Nat.lt_of_lt_of_le (Heap.lt_size e) I.ok.above))).trans (I.base.keep b o e n hb hx)
    . obtain ⟨sl, e1⟩ := I.base.slot b o e n hb hx
      exact ⟨sl, (hs.2 b (Nat.ne_of_lt (Nat.lt_of_lt_of_le (Heap.lt_size e) I.ok.above))).trans e1⟩
    . obtain ⟨o', e1⟩ := I.base.there b o e hx
      exact ⟨o', (hs.2 b (Nat.ne_of_lt (Nat.lt_of_lt_of_le (Heap.lt_size e) I.ok.above))).trans e1⟩
    . by_cases hj : j = i
      . subst hj
        rw [hi] at e1; cases e1
        rw [List.getElem?_set_self hiσ] at e2
        cases e2
        exact ⟨u, r, .inl ⟨hk, by simp⟩⟩
      . rw [List.getElem?_set_ne (Ne.symm hj)] at e2
        obtain ⟨u', r', q⟩ := hl j y v' e1 e2 e3
        refine ⟨u', r', ?_⟩
        rcases q with ⟨k, e⟩ | ⟨k, c, e, z⟩
        . refine .inl ⟨k, ?_⟩
          have : y ≠ x := fun e => hj (z1Q hN e1 (e ▸ hi))
          simp [this, e]
        . exact .inr ⟨k, c, e, z.sameBut hs (cne y c e)⟩
    . obtain ⟨w', z⟩ := I.cell y c e
      exact ⟨w', z.sameBut hs (cne y c e)⟩
    . obtain ⟨e, n, ne, nf, d⟩ := I.pin p hp
      exact ⟨(hs.2 p.1 ne).trans e, n, ne, nf, d⟩
  . have hfn : X.fn x = true := by
      rcases hf with z | z
      . exact z
      . rw [z] at hk; cases hk
    obtain ⟨c, hc⟩ := I.ok.has x (.inl hk)
    obtain ⟨w', z⟩ := I.cell x c hc
    refine wpAny_storeName_cell I.ok.kind hk hc z (fun h' hc' hs => ?_)
    obtain ⟨oc, hoc, hocd⟩ := id z
    refine h { s with heap := h' } ⟨I.ok, I.os, I.bare, ⟨fun b o e n hb hx => ?_, fun b o e n hb hx => ?_, I.base.free, fun b o e hx => ?_, I.base.tups, I.base.frzs, I.base.tbls⟩, ⟨m, hn.sameBut hs (Ne.symm (cne x c hc)), fun j y v' e1 e2 e3 => ?_⟩, fun y c' e => ?_, I.free, I.freeC, fun p hp => ?_, tracked ⟨oc, hoc, I.freeC x c hc⟩ hs, by simpa using I.len⟩ ⟨c, hs, .inr hc⟩
    . exact (hs.2 b (Nat.ne_of_lt (Nat.lt_of_lt_of_le (Heap.lt_size e) (I.ok.cab x c hfn hc)))).trans (I.base.keep b o e n hb hx)
    . obtain ⟨sl, e1⟩ := I.base.slot b o e n hb hx
      exact ⟨sl, (hs.2 b (Nat.ne_of_lt (Nat.lt_of_lt_of_le (Heap.lt_size e) (I.ok.cab x c hfn hc)))).trans e1⟩
    . obtain ⟨o', e1⟩ := I.base.there b o e hx
      exact ⟨o', (hs.2 b (Nat.ne_of_lt (Nat.lt_of_lt_of_le (Heap.lt_size e) (I.ok.cab x c hfn hc)))).trans e1⟩
    . by_cases hj : j = i
      . subst hj
        rw [hi] at e1; cases e1
        rw [List.getElem?_set_self hiσ] at e2
        cases e2
        exact ⟨u, r, .inr ⟨.inl hk, c, hc, hc'⟩⟩
      . rw [List.getElem?_set_ne (Ne.symm hj)] at e2
        obtain ⟨u', r', q⟩ := hl j y v' e1 e2 e3
        refine ⟨u', r', ?_⟩
        rcases q with q | ⟨k, c', e, z'⟩
        . exact .inl q
        . refine .inr ⟨k, c', e, z'.sameBut hs ?_⟩
          rintro rfl
          exact hj (z1Q hN e1 (I.ok.inj _ _ _ e hc ▸ hi))
    . by_cases hcc : c' = c
      . subst hcc; exact ⟨_, hc'⟩
      . obtain ⟨w2, z2⟩ := I.cell y c' e
        exact ⟨w2, z2.sameBut hs hcc⟩
    . obtain ⟨e, n, ne, nf, d⟩ := I.pin p hp
      refine ⟨(hs.2 p.1 ?_).trans e, n, ne, nf, d⟩
      intro q
      rw [q, hoc] at e
      have q' : oc = p.2 := Option.some.inj e
      exact d w' (by rw [<- q']; exact hocd)
theorem z1R {M : Model} {A : Around} {E : Value -> Shared -> Prop} {i : Nat} {x : Str} {v : V} {u : Value} {Q : Unit -> Shared -> Prop} (I : Inv X pins σ H s) (hN : X.N.Nodup) (hi : X.N[i]? = some x) (hx : Loc X.env.scope x) (r : RelV v u)
    (h : ∀ s', Inv X pins (σ.set i (some v)) H s' -> Q () s') (hf : X.fn x = true \/ X.env.scope.names.lookup x = some .local := by first | exact .inl rfl | exact .inr rfl | assumption) : wpAny M A (storeName X.env x u) Q E s :=
  z1k I hN hi hx r (fun s' I' _ => h s' I') hf
theorem Inv.call' {s' : Shared} {ch : List Addr} (I : Inv X pins σ H s) (ho : s'.os = s.os) (u : Un (frs X.stack) ch H H' s.heap s'.heap) (hok : HOk X.prog X.w H' s'.heap) (hg : AllBare s'.gens)
    (hch : ∀ b ∈ ch, (b ∈ X.ex \/ X.s₀.heap.objs.size <= b) /\ b ≠ X.env.locals /\ (∀ x c, X.env.cells.lookup x = some c -> c ≠ b) /\ ∀ p ∈ X.pn ++ pins, p.1 ≠ b) : Inv X pins σ H' s' := by
  obtain ⟨h', g', d', t', o'⟩ := s'
  have e : o' = s.os := ho
  subst e
  exact I.call (g' := g') (t' := t') (d' := d') u hok hg hch
end
abbrev XK := Value -> Option Addr -> Hp -> Prop
abbrev St := List (Option V)
abbrev VK := V -> Hp -> Prop
abbrev TE := St -> Hp -> VK -> Prop
abbrev TT := St -> Hp -> (Bool -> Hp -> Prop) -> Prop
abbrev TA := St -> Hp -> (List V -> Hp -> Prop) -> Prop
structure Ends where
  nx : St -> Hp -> Prop
  rt : VK
  bk : St -> Hp -> Prop := fun _ _ => False
  ct : St -> Hp -> Prop := fun _ _ => False
abbrev TS := Ends -> St -> Hp -> Prop
def EP (X : Cx) (pins : List (Addr × Obj)) (σ : St) (Q : VK) (u : Value) (s' : Shared) : Prop := ∃ v H', Inv X pins σ H' s' /\ RelV v u /\ Q v H'
def TP (X : Cx) (pins : List (Addr × Obj)) (σ : St) (Q : Bool -> Hp -> Prop) (b : Bool) (s' : Shared) : Prop := ∃ H', Inv X pins σ H' s' /\ Q b H'
def AP (X : Cx) (pins : List (Addr × Obj)) (σ : St) (Q : List V -> Hp -> Prop) (us : List Value) (s' : Shared) : Prop := ∃ vs H', Inv X pins σ H' s' /\ Vals vs us /\ Q vs H'
def SP (X : Cx) (pins : List (Addr × Obj)) (D : Ends) (f : Flow) (s' : Shared) : Prop :=
  match f with
  | .next => ∃ σ' H', Inv X pins σ' H' s' /\ D.nx σ' H'
  | .brk => ∃ σ' H', Inv X pins σ' H' s' /\ D.bk σ' H'
  | .cont => ∃ σ' H', Inv X pins σ' H' s' /\ D.ct σ' H'
  | .ret u => ∃ v σ' H', Inv X pins σ' H' s' /\ RelV v u /\ D.rt v H'
def PE (X : Cx) (e : Expr) (t : TE) : Prop :=
  ∀ (pins : List (Addr × Obj)) (s : Shared) (σ : St) (H : Hp) (Q : VK), Inv X pins σ H s -> t σ H Q -> wpAny (model X.prog X.w) X.A (eval e X.env) (EP X pins σ Q) X.xe s
def PT (X : Cx) (e : Expr) (t : TT) : Prop :=
  ∀ (pins : List (Addr × Obj)) (s : Shared) (σ : St) (H : Hp) (Q : Bool -> Hp -> Prop), Inv X pins σ H s -> t σ H Q -> wpAny (model X.prog X.w) X.A (isTrue e X.env (eval e X.env)) (TP X pins σ Q) X.xe s
def PW (X : Cx) (e : Expr) (t : TT) : Prop :=
  ∀ (whole : Sem Value) (pins : List (Addr × Obj)) (s : Shared) (σ : St) (H : Hp) (Q : Bool -> Hp -> Prop), Inv X pins σ H s -> t σ H Q -> wpAny (model X.prog X.w) X.A (isTrue e X.env whole) (TP X pins σ Q) X.xe s
theorem PW.pt {X : Cx} {e : Expr} {t : TT} (h : PW X e t) : PT X e t := h _
def PA (X : Cx) (es : List Expr) (t : TA) : Prop :=
  ∀ (pos : Pos) (pins : List (Addr × Obj)) (s : Shared) (σ : St) (H : Hp) (Q : List V -> Hp -> Prop), Inv X pins σ H s -> t σ H Q -> wpAny (model X.prog X.w) X.A (spliced (backTo pos (starEach es X.env))) (AP X pins σ Q) X.xe s
def PS (X : Cx) (st : Stmt) (t : TS) : Prop :=
  ∀ (pins : List (Addr × Obj)) (s : Shared) (σ : St) (H : Hp) (D : Ends), Inv X pins σ H s -> t D σ H -> wpAny (model X.prog X.w) X.A (exec st X.env) (SP X pins D) X.xe s
def PSs (X : Cx) (st : List Stmt) (t : TS) : Prop :=
  ∀ (pins : List (Addr × Obj)) (s : Shared) (σ : St) (H : Hp) (D : Ends), Inv X pins σ H s -> t D σ H -> wpAny (model X.prog X.w) X.A (execs st X.env) (SP X pins D) X.xe s
theorem thn {α : Type} {t : Sem α} {Q Q' : α -> Shared -> Prop} {M : Model} {A : Around} {E : Value -> Shared -> Prop} {s : Shared} (h : wpAny M A t Q E s) (hQ : ∀ a s, Q a s -> Q' a s) : wpAny M A t Q' E s := wpAny_mono h hQ fun _ _ x => x
section
variable {X : Cx}
def z6G (i : Nat) : TE := fun σ H Q => ∃ v, σ[i]? = some (some v) /\ Q v H
def tC (v : V) : TE := fun _ H Q => Q v H
theorem z4a {i : Nat} {x : Str} {pos : Pos} (hN : X.N[i]? = some x) (hv : Vis X.env.scope x) (hd : (x == ("__debug__" : Str)) = false := by decide) (hcd : (x == ("__classdict__" : Str)) = false := by decide) : PE X (.Name x pos) (z6G i) := by
  intro pins s σ H Q I h
  obtain ⟨v, e, h⟩ := h
  obtain ⟨m, hn, hl⟩ := I.loc
  obtain ⟨u, r, l⟩ := hl i x v hN e hv
  have fin : EP X pins σ Q u s := ⟨v, H, I, r, h⟩
  rcases l with ⟨hk, hm⟩ | ⟨hk, c, hc, hcell⟩
  . exact wpAny_Name (wpAny_loadName_local I.ok.kind hk hn hm fin) hd
  . rcases hk with hk | hk
    . exact wpAny_Name (wpAny_loadName_cell I.ok.kind hk hc hcell fin) hd
    . exact wpAny_Name (wpAny_loadName_free I.ok.kind hk hc hcell fin hcd) hd
theorem z05 {i j pos} : PE X (.Constant (.int i) j pos) (tC (.int i)) := fun _ _ _ H _ I h => wpAny_Constant_int ⟨.int i, H, I.tok _, ⟨_, rfl⟩, h⟩
theorem z1S {b j pos} : PE X (.Constant (.bool b) j pos) (tC (.bl b)) := fun _ _ _ H _ I h => Constant_bool ⟨.bl b, H, I, rfl, h⟩
theorem z3r {j pos} : PE X (.Constant .none j pos) (tC .non) := fun _ _ _ H _ I h => Constant_none ⟨.non, H, I, rfl, h⟩
def Gl (X : Cx) (x : Str) : Prop := X.env.kindOf x = some .globalImplicit
theorem z2C {E : Value -> Shared -> Prop} {pins : List (Addr × Obj)} {s : Shared} {σ : St} {H : Hp} {x : Str} {u : Value} {pos : Pos} {Q : Value -> Shared -> Prop} (I : Inv X pins σ H s) (hg : Gl X x) (hm : X.mg x = some u) (h : Q u s)
    (hd : (x == ("__debug__" : Str)) = false := by decide) : wpAny (model X.prog X.w) X.A (eval (.Name x pos) X.env) Q E s :=
  Calls.Name_function_global I.ok.kind hg (Calls.loadGlobal_global (by rw [I.ok.glob]; exact I.mod.glob.keeps I.bk) hm h) hd
theorem z1l {E : Value -> Shared -> Prop} {pins : List (Addr × Obj)} {s : Shared} {σ : St} {H : Hp} {x : Str} {u : Value} {pos : Pos} {Q : Value -> Shared -> Prop} (I : Inv X pins σ H s) (hg : Gl X x) (hm : X.mg x = none) (hv : bootBuiltins x = some u) (h : Q u s)
    (hn : x ≠ "__name__" := by decide) (hd : (x == ("__debug__" : Str)) = false := by decide) : wpAny (model X.prog X.w) X.A (eval (.Name x pos) X.env) Q E s := by
  obtain ⟨mb, h1, h2⟩ := I.mod.blt
  exact Calls.Name_function_global I.ok.kind hg (Calls.loadGlobal_builtin (by rw [I.ok.glob]; exact I.mod.glob.keeps I.bk) hm (by rw [I.ok.blt]; exact h1.keeps I.bk) ((h2 x hn).trans hv) h) hd
theorem z18 {x : Str} {v : V} {u : Value} {pos : Pos} (hg : Gl X x) (hm : X.mg x = none) (hv : bootBuiltins x = some u) (r : RelV v u) (hn : x ≠ "__name__" := by decide) (hd : (x == ("__debug__" : Str)) = false := by decide) : PE X (.Name x pos) (tC v) :=
  fun _ _ _ H _ I h => z1l I hg hm hv ⟨v, H, I, r, h⟩ hn hd
def t2I (ta tb : TE) (k : Int -> Int -> Hp -> Prop) : St -> Hp -> Prop := fun σ H => ta σ H fun x H1 => tb σ H1 fun y H2 => ∃ i j, x = .int i /\ y = .int j /\ k i j H2
def z83 (ta tb : TE) : TE := fun σ H Q => t2I ta tb (fun i j H2 => Q (.int (i + j)) H2) σ H
def z84 (ta tb : TE) : TE := fun σ H Q => t2I ta tb (fun i j H2 => Q (.int (i - j)) H2) σ H
def z85 (ta tb : TE) : TE := fun σ H Q => t2I ta tb (fun i j H2 => (-(2 ^ 64) < i /\ i < 2 ^ 64) /\ Q (.int (i * j)) H2) σ H
variable {a b : Expr} {ta tb : TE} {pos : Pos}
def PC (X : Cx) (op : CmpOp) (a b : Expr) (t : TE) : Prop :=
  ∀ (pins : List (Addr × Obj)) (s : Shared) (σ : St) (H : Hp) (Q : VK), Inv X pins σ H s -> t σ H Q ->
    wpAny (model X.prog X.w) X.A (eval a X.env) (fun v s₁ => wpAny (model X.prog X.w) X.A (eval b X.env) (fun u s₂ => wpAny (model X.prog X.w) X.A (compareOp op v u) (EP X pins σ Q) X.xe s₂) X.xe s₁) X.xe s
def z4P (p : Int -> Int -> Bool) (ta tb : TE) : TE := fun σ H Q => t2I ta tb (fun i j H2 => Q (.bl (p i j)) H2) σ H
abbrev tLt : TE -> TE -> TE := z4P fun i j => decide (i < j)
abbrev tLe : TE -> TE -> TE := z4P fun i j => decide (i <= j)
abbrev tGt : TE -> TE -> TE := z4P fun i j => decide (j < i)
abbrev tGe : TE -> TE -> TE := z4P fun i j => decide (j <= i)
abbrev z86 : TE -> TE -> TE := z4P fun i j => decide (i = j)
abbrev z87 : TE -> TE -> TE := z4P fun i j => !decide (i = j)
def z88 (ta : TE) : TE := fun σ H Q => ta σ H fun x H1 => Q (.bl (decide (x = .non))) H1
def z78 (ta : TE) : TE := fun σ H Q => ta σ H fun x H1 => Q (.bl (!decide (x = .non))) H1
def tB (t : TE) : TT := fun σ H Q => t σ H fun x H1 => ∃ c, x = .bl c /\ Q c H1
theorem z0g {e : Expr} {t : TE} (h : PE X e t) (he : ∀ whole, isTrue e X.env whole = (do let v <- whole; standAt e.pos; holding [v] (truthy v)) := by intro _; rfl) : PT X e (tB t) := by
  intro pins s σ H Q I hw
  refine isTrue_plain (thn (h pins s σ H _ I hw) fun v s1 ⟨x, H1, I1, r1, q1⟩ => ?_) (he _)
  obtain ⟨d, rfl, q⟩ := q1
  cases r1
  exact wpAny_truthy_bool ⟨H1, I1, q⟩
variable {tA tB' : TT} {rest : List Expr}
def z79 (t u : TT) : TT := fun σ H Q => t σ H fun c H1 => if c = true then u σ H1 Q else Q false H1
def tOr (t u : TT) : TT := fun σ H Q => t σ H fun c H1 => if c = true then Q true H1 else u σ H1 Q
def z7A (t : TT) : TT := fun σ H Q => t σ H fun c H1 => Q (!c) H1
theorem z2x (ha : PT X a tA) : PW X (.BoolOp .And [a] pos) tA := by
  intro wh pins s σ H Q I h
  refine isTrue_and (thn (ha pins s σ H Q I h) fun c s1 e => ?_)
  cases c with
  | true => exact isTrue_and_nil e
  | false => exact e
theorem z2R (ha : PT X a tA) : PW X (.BoolOp .Or [a] pos) tA := by
  intro wh pins s σ H Q I h
  refine isTrue_or (thn (ha pins s σ H Q I h) fun c s1 e => ?_)
  cases c with
  | false => exact isTrue_or_nil e
  | true => exact e
theorem z3s (ha : PT X a tA) (hb : PW X (.BoolOp .And (b :: rest) pos) tB') : PW X (.BoolOp .And (a :: b :: rest) pos) (z79 tA tB') := by
  intro wh pins s σ H Q I h
  refine isTrue_and (thn (ha pins s σ H _ I h) fun c s1 ⟨H1, I1, q1⟩ => ?_)
  cases c with
  | true => exact hb wh pins s1 σ H1 Q I1 q1
  | false => exact ⟨H1, I1, q1⟩
theorem z2y (ha : PT X a tA) (hb : PW X (.BoolOp .Or (b :: rest) pos) tB') : PW X (.BoolOp .Or (a :: b :: rest) pos) (tOr tA tB') := by
  intro wh pins s σ H Q I h
  refine isTrue_or (thn (ha pins s σ H _ I h) fun c s1 ⟨H1, I1, q1⟩ => ?_)
  cases c with
  | true => exact ⟨H1, I1, q1⟩
  | false => exact hb wh pins s1 σ H1 Q I1 q1
theorem z0h (ha : PT X a tA) : PT X (.UnaryOp .Not a pos) (z7A tA) := by
  intro pins s σ H Q I h
  exact isTrue_not (ha pins s σ H (fun c H1 => Q (!c) H1) I h)
def z5T (ta tb : TE) : TE := fun σ H Q => ta σ H fun x H1 => ∃ c, x = .bl c /\ if c = true then tb σ H1 Q else Q (.bl false) H1
def z89 (ta tb : TE) : TE := fun σ H Q => ta σ H fun x H1 => ∃ c, x = .bl c /\ if c = true then Q (.bl true) H1 else tb σ H1 Q
def z5U (ta : TE) : TE := fun σ H Q => ta σ H fun x H1 => ∃ c, x = .bl c /\ Q (.bl (!c)) H1
theorem z4b {op} {t : TE} (h : PE X a t) : PE X (.BoolOp op [a] pos) t := fun pins s σ H Q I hw => BoolOp_one (h pins s σ H Q I hw)
theorem z4c (ha : PE X a ta) (hb : PE X (.BoolOp .And (b :: rest) pos) tb) : PE X (.BoolOp .And (a :: b :: rest) pos) (z5T ta tb) := by
  intro pins s σ H Q I h
  refine BoolOp_and (thn (ha pins s σ H _ I h) fun v s1 ⟨x, H1, I1, r1, q1⟩ => ?_)
  obtain ⟨c, rfl, q1⟩ := q1
  cases r1
  refine wpAny_truthy_bool ?_
  cases c with
  | true => exact hb pins s1 σ H1 Q I1 q1
  | false => exact ⟨.bl false, H1, I1, rfl, q1⟩
theorem z4d (ha : PE X a ta) : PE X (.UnaryOp .Not a pos) (z5U ta) := by
  intro pins s σ H Q I h
  refine UnaryOp_ (thn (ha pins s σ H _ I h) fun v s1 ⟨x, H1, I1, r1, q1⟩ => ?_)
  obtain ⟨c, rfl, q1⟩ := q1
  cases r1
  exact not_of (wpAny_truthy_bool ⟨.bl (!c), H1, I1, rfl, q1⟩)
def tIf (t : TT) (ta tb : TE) : TE := fun σ H Q => t σ H fun c H1 => if c = true then ta σ H1 Q else tb σ H1 Q
theorem z3e {c : Expr} (hc : PT X c tA) (ha : PE X a ta) (hb : PE X b tb) : PE X (.IfExp c a b pos) (tIf tA ta tb) := by
  intro pins s σ H Q I h
  refine wpAny_IfExp (thn (hc pins s σ H _ I h) fun d s1 ⟨H1, I1, q1⟩ => ?_)
  cases d with
  | true => exact ha pins s1 σ H1 Q I1 q1
  | false => exact hb pins s1 σ H1 Q I1 q1
end
def SqL (K : PySem.W.Frag) (H : Hp) (a : Addr) (xs : List V) : Prop :=
  Rd H a (.lst xs) \/
    ∃ (o : Obj) (its : Array Value) (n : Nat), K.lookup a = some o /\ o.cls = .type "list" /\ o.dict = none /\ o.data = .seq its n /\ its.size <= sizeLine /\ Vals xs its.toList
def SqT (K : PySem.W.Frag) (H : Hp) (a : Addr) (xs : List V) : Prop :=
  Rd H a (.tup xs) \/
    ∃ (o : Obj) (its : Array Value) (n : Nat), K.lookup a = some o /\ o.cls = .type "tuple" /\ o.data = .seq its n /\ its.size <= sizeLine /\ Vals xs its.toList
def z7B : Value -> Option V
  | .none => some .non
  | .bool b => some (.bl b)
  | .int i _ => some (.int i)
  | .str x _ => some (.str x)
  | .bytes b _ => some (.byt b)
  | .float b _ => some (.flt b)
  | .ref a => some (.ref a)
  | .type n => some (.ty n)
  | _ => none
theorem RelV.abs {x : V} {u : Value} (r : RelV x u) : z7B u = some x := by
  cases x with
  | non => cases r; rfl
  | bl _ => cases r; rfl
  | int _ => obtain ⟨t, rfl⟩ := r; rfl
  | str _ => obtain ⟨t, rfl⟩ := r; rfl
  | byt _ => obtain ⟨t, rfl⟩ := r; rfl
  | flt _ => obtain ⟨t, rfl⟩ := r; rfl
  | ref _ => cases r; rfl
  | ty _ => cases r; rfl
theorem RelV.inj {x y : V} {u : Value} (r : RelV x u) (q : RelV y u) : x = y := Option.some.inj (r.abs.symm.trans q.abs)
theorem Vals.inj : ∀ {xs ys : List V} {us : List Value}, Vals xs us -> Vals ys us -> xs = ys
  | _, _, _, .nil, .nil => rfl
  | _, _, _, .cons r t, .cons r' t' => by rw [r.inj r', Vals.inj t t']
section
variable {X : Cx} {pins : List (Addr × Obj)} {σ : St} {H : Hp} {s : Shared} {a : Addr} {xs ys : List V}
theorem SqL.of {K : PySem.W.Frag} (h : H a = some (.lst xs)) : SqL K H a xs := .inl (.inl h)
theorem SqT.of {K : PySem.W.Frag} (h : H a = some (.tup xs)) : SqT K H a xs := .inl (.inl h)
theorem Inv.list (I : Inv X pins σ H s) (h : SqL X.K H a xs) : ∃ its : List Value, Vals xs its /\ PlainL s.heap a its.toArray /\ xs.length <= sizeLine := by
  rcases h with h | ⟨o, its, n, hk, hc, hd, hs, hz, r⟩
  . obtain ⟨z, its, n, r, e⟩ := h.ok I.hok
    exact ⟨its, r, ⟨_, n, e, rfl, rfl, rfl⟩, z⟩
  . refine ⟨its.toList, r, ⟨o, n, I.kIn a o hk, hc, hd, by simpa using hs⟩, ?_⟩
    have e := r.length
    simp only [Array.length_toList] at e
    omega
theorem Inv.tuple (I : Inv X pins σ H s) (h : SqT X.K H a xs) : ∃ its : List Value, Vals xs its /\ IsTup s.heap a its.toArray /\ xs.length <= sizeLine := by
  rcases h with h | ⟨o, its, n, hk, hc, hs, hz, r⟩
  . obtain ⟨z, its, r, p⟩ := h.ok I.hok
    exact ⟨its, r, p, z⟩
  . refine ⟨its.toList, r, ⟨o, I.kIn a o hk, hc, n, by simpa using hs⟩, ?_⟩
    have e := r.length
    simp only [Array.length_toList] at e
    omega
theorem Inv.list_inj (I : Inv X pins σ H s) (h : SqL X.K H a xs) (h' : SqL X.K H a ys) : xs = ys := by
  obtain ⟨its, r, ⟨o, n, e, _, _, d⟩, _⟩ := I.list h
  obtain ⟨its', r', ⟨o', n', e', _, _, d'⟩, _⟩ := I.list h'
  rw [e] at e'; cases e'
  rw [d] at d'
  injection d' with d1 _
  have : its = its' := by simpa using congrArg Array.toList d1
  subst this
  exact r.inj r'
theorem Inv.tuple_inj (I : Inv X pins σ H s) (h : SqT X.K H a xs) (h' : SqT X.K H a ys) : xs = ys := by
  obtain ⟨its, r, ⟨o, e, _, n, d⟩, _⟩ := I.tuple h
  obtain ⟨its', r', ⟨o', e', _, n', d'⟩, _⟩ := I.tuple h'
  rw [e] at e'; cases e'
  rw [d] at d'
  injection d' with d1 _
  have : its = its' := by simpa using congrArg Array.toList d1
  subst this
  exact r.inj r'
end
abbrev Cx.wish (X : Cx) (E : Value -> Shared -> Prop) : Cx := { X with xe := E }
abbrev Cx.nox (X : Cx) : Cx := X.wish fun _ _ => False
theorem Cx.Ok.wish {X : Cx} (ok : X.Ok) (E : Value -> Shared -> Prop) : (X.wish E).Ok :=
  ⟨ok.mod, ok.kind, ok.glob, ok.blt, ok.above, ok.inj, ok.has, ok.cab, ok.hd, ok.frames, ok.stk, ok.exf, ok.bs, ok.bsz, ok.noex, ok.exfs, ok.funs, ok.frf⟩
theorem Cx.Ok.unwish {X : Cx} {E : Value -> Shared -> Prop} (ok : (X.wish E).Ok) : X.Ok :=
  ⟨ok.mod, ok.kind, ok.glob, ok.blt, ok.above, ok.inj, ok.has, ok.cab, ok.hd, ok.frames, ok.stk, ok.exf, ok.bs, ok.bsz, ok.noex, ok.exfs, ok.funs, ok.frf⟩
section
variable {X : Cx} {pins : List (Addr × Obj)} {σ : St} {H : Hp} {s : Shared} {E : Value -> Shared -> Prop}
theorem Inv.wish (I : Inv X pins σ H s) (E : Value -> Shared -> Prop) : Inv (X.wish E) pins σ H s := ⟨I.ok.wish E, I.os, I.bare, I.base, I.loc, I.cell, I.free, I.freeC, I.pin, I.hok, I.len⟩
theorem Inv.unwish (I : Inv (X.wish E) pins σ H s) : Inv X pins σ H s := ⟨I.ok.unwish, I.os, I.bare, I.base, I.loc, I.cell, I.free, I.freeC, I.pin, I.hok, I.len⟩
theorem SP.unwish {D : Ends} {f : Flow} {s' : Shared} (h : SP (X.wish E) pins D f s') : SP X pins D f s' := by
  cases f with
  | next => obtain ⟨σ', H', I, q⟩ := h; exact ⟨σ', H', I.unwish, q⟩
  | brk => obtain ⟨σ', H', I, q⟩ := h; exact ⟨σ', H', I.unwish, q⟩
  | cont => obtain ⟨σ', H', I, q⟩ := h; exact ⟨σ', H', I.unwish, q⟩
  | ret u => obtain ⟨v, σ', H', I, r, q⟩ := h; exact ⟨v, σ', H', I.unwish, r, q⟩
theorem PE.nox {e : Expr} {t : TE} (h : PE X.nox e t) : PE X e t := fun pins s σ H Q I hw =>
  wpAny_mono (h pins s σ H Q (I.wish _) hw) (fun _ _ ⟨v, H', I', r, q⟩ => ⟨v, H', I'.unwish, r, q⟩) fun _ _ z => False.elim z
theorem PT.nox {e : Expr} {t : TT} (h : PT X.nox e t) : PT X e t := fun pins s σ H Q I hw =>
  wpAny_mono (h pins s σ H Q (I.wish _) hw) (fun _ _ ⟨H', I', q⟩ => ⟨H', I'.unwish, q⟩) fun _ _ z => False.elim z
theorem PSs.nox {st : List Stmt} {t : TS} (h : PSs X.nox st t) : PSs X st t := fun pins s σ H D I hw =>
  wpAny_mono (h pins s σ H D (I.wish _) hw) (fun _ _ q => q.unwish) fun _ _ z => False.elim z
end
section
variable {X : Cx} {st : Stmt} {rest : List Stmt} {t u : TS} {e : Expr} {te : TE} {pos : Pos}
def z5V : TS := fun D σ H => D.nx σ H
def z7C (t u : TS) : TS := fun D σ H => t { D with nx := u D } σ H
theorem z0H : PSs X [] z5V := fun _ _ σ H _ I h => wpAny_execs_nil ⟨σ, H, I, h⟩
theorem z06 (h1 : PS X st t) (h2 : PSs X rest u) : PSs X (st :: rest) (z7C t u) := by
  intro pins s σ H D I h
  refine wpAny_execs_cons (thn (h1 pins s σ H { D with nx := u D } I h) fun f s1 q => ?_)
  cases f with
  | next =>
    obtain ⟨σ', H', I', q⟩ := q
    exact h2 pins s1 σ' H' D I' q
  | ret v => exact q
  | brk => exact q
  | cont => exact q
theorem z07 (h1 : PS X st t) : PSs X [st] t := by
  intro pins s σ H D I h
  refine wpAny_execs_cons (thn (h1 pins s σ H D I h) fun f s1 q => ?_)
  cases f with
  | next => exact wpAny_execs_nil q
  | ret v => exact q
  | brk => exact q
  | cont => exact q
def z6H : TS := fun D σ H => D.bk σ H
def z7D : TS := fun D σ H => D.ct σ H
theorem Inv.quiet {pins : List (Addr × Obj)} {σ : St} {H : Hp} {s : Shared} (I : Inv X pins σ H s) : interactive X.env = false := by simp [interactive, I.ok.kind]
def z5W (te : TE) : TS := fun D σ H => te σ H fun _ H1 => D.nx σ H1
theorem z19 (he : PE X e te) (hs : swapsWith e none pos.line X.env = pure false := by rfl) : PS X (.Expr e pos) (z5W te) := by
  intro pins s σ H D I h
  exact wpAny_Expr_any (thn (he pins s σ H _ I h) fun v s1 ⟨x, H1, I1, r1, q1⟩ => ⟨σ, H1, I1, q1⟩) I.quiet hs
def z7E (te : TE) : TS := fun D σ H => te σ H D.rt
theorem z0F (he : PE X e te) : PS X (.Return (some e) pos) (z7E te) := by
  intro pins s σ H D I h
  exact wpAny_Return_some (thn (he pins s σ H _ I h) fun v s1 ⟨x, H1, I1, r1, q1⟩ => ⟨x, σ, H1, I1, r1, q1⟩)
def z7F : TS := fun D _ H => D.rt .non H
def z7G (c : TT) (t u : TS) : TS := fun D σ H => c σ H fun b H1 => if b = true then t D σ H1 else u D σ H1
theorem z0i {c : Expr} {a b : List Stmt} {tc : TT} (hc : PT X c tc) (ha : PSs X a t) (hb : PSs X b u) : PS X (.If c a b pos) (z7G tc t u) := by
  intro pins s σ H D I h
  refine wpAny_If (thn (hc pins s σ H _ I h) fun d s1 ⟨H1, I1, q1⟩ => ?_)
  cases d with
  | true => exact ha pins s1 σ H1 D I1 q1
  | false => exact hb pins s1 σ H1 D I1 q1
def z6I : TS := fun _ _ _ => False
end
abbrev TG := V -> St -> Hp -> (St -> Hp -> Prop) -> Prop
abbrev TGs := List V -> St -> Hp -> (St -> Hp -> Prop) -> Prop
def PG (X : Cx) (target : Expr) (t : TG) : Prop :=
  ∀ (pins : List (Addr × Obj)) (s : Shared) (σ : St) (H : Hp) (v : V) (u : Value) (Q : St -> Hp -> Prop), Inv X pins σ H s -> RelV v u -> t v σ H Q ->
    wpAny (model X.prog X.w) X.A (assign target X.env u) (fun _ s' => ∃ σ' H', Inv X pins σ' H' s' /\ Q σ' H') X.xe s
def PGs (X : Cx) (ts : List Expr) (t : TGs) : Prop :=
  ∀ (pins : List (Addr × Obj)) (s : Shared) (σ : St) (H : Hp) (vs : List V) (us : List Value) (Q : St -> Hp -> Prop), Inv X pins σ H s -> Vals vs us -> t vs σ H Q ->
    wpAny (model X.prog X.w) X.A (assignInOrder ((assignEach ts X.env).map (·.2)) us) (fun _ s' => ∃ σ' H', Inv X pins σ' H' s' /\ Q σ' H') X.xe s
abbrev z5D := V -> V -> V -> Hp -> (Hp -> Prop) -> Prop
def z6J (X : Cx) (t : z5D) : Prop :=
  ∀ (pins : List (Addr × Obj)) (s : Shared) (σ : St) (H : Hp) (o i v : V) (ov iv u : Value) (Q : Hp -> Prop), Inv X pins σ H s -> RelV o ov -> RelV i iv -> RelV v u -> t o i v H Q ->
    wpAny (model X.prog X.w) X.A (setItem ov iv u) (fun _ s' => ∃ H', Inv X pins σ H' s' /\ Q H') X.xe s
abbrev TIp := V -> V -> Hp -> VK -> Prop
def PIp (X : Cx) (op : Operator) (t : TIp) : Prop :=
  ∀ (pins : List (Addr × Obj)) (s : Shared) (σ : St) (H : Hp) (x y : V) (v u : Value) (Q : VK), Inv X pins σ H s -> RelV x v -> RelV y u -> t x y H Q ->
    wpAny (model X.prog X.w) X.A (inplaceOp op v u) (EP X pins σ Q) X.xe s
section
variable {X : Cx} {pos : Pos}
def z4e (i : Nat) : TG := fun v σ H Q => Q (σ.set i (some v)) H
theorem z0E {i : Nat} {x : Str} (hN : X.N.Nodup) (hi : X.N[i]? = some x) (hx : Loc X.env.scope x) (hf : X.fn x = true \/ X.env.scope.names.lookup x = some .local := by first | exact .inl rfl | exact .inr rfl | assumption) : PG X (.Name x pos) (z4e i) := by
  intro pins s σ H v u Q I r h
  exact wpAny_assign_Name (z1R I hN hi hx r (fun s' I' => ⟨_, H, I', h⟩) hf)
def z7H : TGs := fun vs σ H Q => vs = [] /\ Q σ H
def z5X (t : TG) (u : TGs) : TGs := fun vs σ H Q => ∃ v r, vs = v :: r /\ t v σ H fun σ' H' => u r σ' H' Q
theorem z1T : PGs X [] z7H := by
  intro pins s σ H vs us Q I r h
  obtain ⟨e, h⟩ := h
  subst e
  cases r
  exact assignInOrder_nil ⟨σ, H, I, h⟩
theorem z0R {e : Expr} {es : List Expr} {t : TG} {u : TGs} (h1 : PG X e t) (h2 : PGs X es u)
    (hs : (assignEach (e :: es) X.env).map (·.2) = assign e X.env :: (assignEach es X.env).map (·.2) := by rfl) : PGs X (e :: es) (z5X t u) := by
  intro pins s σ H vs us Q I r h
  obtain ⟨v, vr, e1, h⟩ := h
  subst e1
  cases r with
  | cons r rr =>
    rw [hs]
    refine assignInOrder_cons (thn (h1 pins s σ H _ _ _ I r h) fun _ s1 ⟨σ1, H1, I1, q1⟩ => ?_)
    exact h2 pins s1 σ1 H1 _ _ Q I1 rr q1
def z6K (K : PySem.W.Frag) (n : Nat) (t : TGs) : TG := fun v σ H Q => ∃ a xs, v = .ref a /\ SqT K H a xs /\ xs.length = n /\ t xs σ H Q
theorem z2S {es : List Expr} {k : Nat} {t : TGs} {n : Nat} (hc : X.calm = true) (h : PGs X es t)
    (hn : (assignEach es X.env).length = n := by rfl) (hst : (assignEach es X.env).findIdx? (·.1) = none := by rfl) : PG X (.Tuple es k pos) (z6K X.K n t) := by
  intro pins s σ H v u Q I r hw
  obtain ⟨a, xs, e1, hq, hl, hw⟩ := hw
  subst e1
  cases r
  obtain ⟨its, rv, ht, hz⟩ := I.tuple hq
  refine assign_Tuple_tuple (I.ok.hd hc) ht (by simp [hn, <- hl, rv.length]) hst fun h' hx => ?_
  have I1 : Inv X pins σ H { s with heap := h' } := I.kept (t' := s.toks) fun b o e => hx b o (Nat.ne_of_lt (Heap.lt_size e)) e
  exact h pins _ σ H xs _ Q I1 (by simpa using rv) hw
def z7I (to ti : TE) (t : z5D) : TG := fun v σ H Q => to σ H fun o H1 => ti σ H1 fun i H2 => t o i v H2 fun H3 => Q σ H3
theorem z4f {o i : Expr} {to ti : TE} {t : z5D} (ho : PE X o to) (hi : PE X i ti) (hs : z6J X t)
    (ha : ∀ v, assign (.Subscript o i pos) X.env v = (do
      let ov <- holding [v] (eval o X.env)
      let iv <- holding [v, ov] (eval i X.env)
      standAt pos
      holding [v, ov, iv] (setItem ov iv v)
      release [v, ov, iv] []) := by intro _; rfl) : PG X (.Subscript o i pos) (z7I to ti t) := by
  intro pins s σ H v u Q I r h
  rw [ha]
  refine wpAny_bind (wpAny_holding (thn (ho pins s σ H _ I h) fun ov s1 ⟨x, H1, I1, r1, q1⟩ => ?_))
  refine wpAny_bind (wpAny_holding (thn (hi pins s1 σ H1 _ I1 q1) fun iv s2 ⟨y, H2, I2, r2, q2⟩ => ?_))
  refine wpAny_bind (wpAny_standAt (wpAny_bind (wpAny_holding (thn (hs pins s2 σ H2 x y v ov iv u _ I2 r1 r2 r q2) fun _ s3 ⟨H3, I3, q3⟩ => ?_))))
  exact wpAny_release ⟨σ, H3, I3, q3⟩
def z6L (te : TE) (g : TG) : TS := fun D σ H => te σ H fun x H1 => g x σ H1 D.nx
theorem z2z {tg e : Expr} {te : TE} {g : TG} (he : PE X e te) (hg : PG X tg g) (hs : swapsWithSole [tg] e pos.line X.env = pure false := by rfl) (hw : swappedStores [tg] e X.env = pure none := by rfl)
    (h1 : (assignEach [tg] X.env).map (·.2) = [assign tg X.env] := by rfl) : PS X (.Assign [tg] e pos) (z6L te g) := by
  intro pins s σ H D I h
  refine wpAny_Assign_stores (thn (he pins s σ H _ I h) fun v s1 ⟨x, H1, I1, r1, q1⟩ => ?_) hs hw
  rw [h1]
  exact thn (hg pins s1 σ H1 x v _ I1 r1 q1) fun _ s2 q => q
theorem z0z {i : Nat} {x : Str} {e : Expr} {te : TE} {pos' : Pos} (hN : X.N.Nodup) (hi : X.N[i]? = some x) (hx : Loc X.env.scope x) (he : PE X e te) (hs : swapsWith e (some (.Name x pos')) pos.line X.env = pure false := by rfl) (hf : X.fn x = true \/ X.env.scope.names.lookup x = some .local := by first | exact .inl rfl | exact .inr rfl | assumption) :
    PS X (.Assign [.Name x pos'] e pos) (z6L te (z4e i)) := by
  intro pins s σ H D I h
  refine wpAny_Assign_Name (thn (he pins s σ H _ I h) fun v s1 ⟨y, H1, I1, r1, q1⟩ => ?_) hs
  exact z1R I1 hN hi hx r1 (fun s2 I2 => ⟨_, H1, I2, q1⟩) hf
def z8A (i j : Nat) (ta : TA) : TS := fun D σ H => ta σ H fun vs H1 => ∃ v w, vs = [v, w] /\ D.nx ((σ.set i (some v)).set j (some w)) H1
def z8B (i : Nat) (te : TE) (ti : TIp) : TS := fun D σ H => ∃ x, σ[i]? = some (some x) /\ te σ H fun y H1 => ti x y H1 fun z H2 => D.nx (σ.set i (some z)) H2
def z7J (to ti te : TE) (tget : V -> V -> Hp -> VK -> Prop) (tip : TIp) (tset : z5D) : TS := fun D σ H => to σ H fun o H1 => ti σ H1 fun i H2 => tget o i H2 fun x H3 => te σ H3 fun y H4 => tip x y H4 fun z H5 => tset o i z H5 fun H6 => D.nx σ H6
def z8C (X : Cx) (t : V -> V -> Hp -> VK -> Prop) : Prop :=
  ∀ (pins : List (Addr × Obj)) (s : Shared) (σ : St) (H : Hp) (o i : V) (ov iv : Value) (Q : VK), Inv X pins σ H s -> RelV o ov -> RelV i iv -> t o i H Q ->
    wpAny (model X.prog X.w) X.A (getItem ov iv) (EP X pins σ Q) X.xe s
def ipI (f : Int -> Int -> Int) : TIp := fun x y H Q => ∃ i j, x = .int i /\ y = .int j /\ Q (.int (f i j)) H
end
section
variable {X : Cx} {pos : Pos}
def z6M (c : TT) (tb : TS) : TS := fun D σ H => ∃ W : Nat -> St -> Hp -> Prop, (∃ m, W m σ H) /\ ∀ m σ H, W m σ H ->
  c σ H fun b H1 => if b = true then ∃ N : St -> Hp -> Prop, (∀ σ' H', N σ' H' -> ∃ m', m' < m /\ W m' σ' H') /\ tb { D with nx := N, ct := N, bk := D.nx } σ H1 else D.nx σ H1
end
structure It where
  go : Nat -> Hp -> Prop
  yld : Nat -> Hp -> V -> Hp -> Prop
  stop : Nat -> Hp -> Prop
def z30 (X : Cx) (pins : List (Addr × Obj)) (H : Hp) (b : Addr) : Prop :=
  H b = none /\ b ≠ X.env.locals /\ b ∉ X.fs /\ (b ∈ X.ex \/ X.s₀.heap.objs.size <= b) /\ (∀ x c, X.env.cells.lookup x = some c -> c ≠ b) /\ ∀ p ∈ X.pn ++ pins, p.1 ≠ b
theorem Inv.fpOk {X : Cx} {pins : List (Addr × Obj)} {σ : St} {H H' : Hp} {s : Shared} {b : Addr} (I : Inv X pins σ H s) (hb : s.heap.objs.size <= b) (hn : H' b = none) : z30 X pins H' b := by
  refine ⟨hn, Nat.ne_of_gt (Nat.lt_of_lt_of_le I.lt hb), I.nofs hb, .inr (Nat.le_trans I.sz hb), fun x c e z => ?_, fun p hp z => ?_⟩
  . obtain ⟨v, q⟩ := I.cell x c e
    exact absurd (Nat.lt_of_lt_of_le q.lt (by rw [z]; exact hb)) (Nat.lt_irrefl _)
  . exact absurd (Nat.lt_of_lt_of_le (Heap.lt_size (I.pin p hp).1) (by rw [z]; exact hb)) (Nat.lt_irrefl _)
structure Turn (P : Program) (w : World) (K : PySem.W.Frag) (tg : Expr) (J : It) (fp : List Addr) (it : Addr) (tn : Nat -> Heap -> Prop) : Prop where
  mem : it ∈ fp
  obj : ∀ i h, tn i h -> ∀ b ∈ fp, ∃ o, h.get? b = some o /\ ∀ v, o.data ≠ .cell v
  keep : ∀ i h h', tn i h -> (∀ b ∈ fp, ∀ o, h.get? b = some o -> h'.get? b = some o) -> tn i h'
  item : ∀ (X : Cx), X.prog = P -> X.w = w -> X.K = K -> X.calm = true -> ∀ (i : Nat) (pins : List (Addr × Obj)) (s : Shared) (σ : St) (H : Hp) (E : Value -> Shared -> Prop), Inv X pins σ H s -> (∀ b ∈ fp, z30 X pins H b) -> tn i s.heap -> J.go i H ->
    wpAny (model P w) X.A (pyNext (.ref it)) (fun r s1 => ∃ u, r = some u /\
      wpAny (model P w) X.A (letOwnedTupleGo tg (.ref it) u) (fun _ s2 => ∃ x H', Inv X pins σ H' s2 /\ RelV x u /\ J.yld i H x H' /\ tn (i + 1) s2.heap /\ ∀ b ∈ fp, H' b = none) E s1) E s
  done : ∀ (X : Cx), X.prog = P -> X.w = w -> X.K = K -> X.calm = true -> ∀ (i : Nat) (pins : List (Addr × Obj)) (s : Shared) (σ : St) (H : Hp) (E : Value -> Shared -> Prop), Inv X pins σ H s -> (∀ b ∈ fp, z30 X pins H b) -> tn i s.heap -> J.stop i H ->
    wpAny (model P w) X.A (pyNext (.ref it)) (fun r s1 => r = none /\ Inv X pins σ H s1) E s
  self : ∀ (A : Around) (i : Nat) (s : Shared) (Q : Value -> Shared -> Prop) (E : Value -> Shared -> Prop), tn i s.heap -> Q (.ref it) s -> wpAny (model P w) A (pyIter (.ref it)) Q E s
abbrev TI := St -> Hp -> (It -> Hp -> Prop) -> Prop
def PIE (X : Cx) (pins : List (Addr × Obj)) (σ : St) (tg : Expr) (R : It -> Hp -> Prop) (itv : Value) (s2 : Shared) : Prop :=
  ∃ (it : Addr) (fp : List Addr) (tn : Nat -> Heap -> Prop) (J : It) (H' : Hp), itv = .ref it /\ Inv X pins σ H' s2 /\ Turn X.prog X.w X.K tg J fp it tn /\ tn 0 s2.heap /\ (∀ b ∈ fp, z30 X pins H' b) /\ R J H'
def PI (X : Cx) (tg iter : Expr) (wi : TI) : Prop :=
  ∀ (pins : List (Addr × Obj)) (s : Shared) (σ : St) (H : Hp) (R : It -> Hp -> Prop), Inv X pins σ H s -> wi σ H R ->
    wpAny (model X.prog X.w) X.A (eval iter X.env) (fun v s1 => wpAny (model X.prog X.w) X.A (pyIter v) (PIE X pins σ tg R) X.xe s1) X.xe s
theorem z44 {M : Model} {A : Around} {E : Value -> Shared -> Prop} {s : Shared} {tg : Expr} {it : Addr} {u : Value} {o : Obj} {n : String} {vs : Array Value} {Q : Unit -> Shared -> Prop} (ho : s.heap.get? it = some o) (hc : o.cls = .type n) (hd : o.data = .fields vs)
    (hn : ["enumerate", "zip", "dict_itemiterator", "dict_reverseitemiterator", "odict_iterator", "itertools.zip_longest", "itertools.pairwise"].contains n = false) (hQ : Q () s) : wpAny M A (letOwnedTupleGo tg (.ref it) u) Q E s := by
  unfold letOwnedTupleGo
  cases tg <;> first
    | exact wpAny_pure hQ
    | (cases u <;> first
        | exact wpAny_pure hQ
        | (refine wpAny_bind (wpAny_load ho ?_)
           rw [hc, hd]
           show wpAny M A (if (["enumerate", "zip", "dict_itemiterator", "dict_reverseitemiterator", "odict_iterator", "itertools.zip_longest", "itertools.pairwise"].contains n && vs[0]? == some (rawInt _)) = true then _ else _) Q E s
           rw [if_neg (by intro h; rw [hn, Bool.false_and] at h; cases h)]
           exact wpAny_pure hQ))
def Itl (K : PySem.W.Frag) (a : Addr) : It :=
  ⟨fun i H => ∃ xs x, SqL K H a xs /\ xs[i]? = some x, fun i H x H' => H' = H /\ ∀ xs, SqL K H a xs -> xs[i]? = some x, fun i H => ∃ xs, SqL K H a xs /\ xs.length <= i⟩
def Itt (K : PySem.W.Frag) (a : Addr) : It :=
  ⟨fun i H => ∃ xs x, SqT K H a xs /\ xs[i]? = some x, fun i H x H' => H' = H /\ ∀ xs, SqT K H a xs -> xs[i]? = some x, fun i H => ∃ xs, SqT K H a xs /\ xs.length <= i⟩
def Itr (lo : Int) (n : Nat) : It := ⟨fun i _ => i < n, fun i H x H' => H' = H /\ x = .int (lo + i), fun i _ => n <= i⟩
theorem z31 {P : Program} {w : World} {K : PySem.W.Frag} {tg : Expr} (a it : Addr) : Turn P w K tg (Itl K a) [it] it (fun i h => h.IsListIter it a i) where
  mem := by simp
  obj := fun i h st b hb => by
    have e : b = it := by simpa using hb
    subst e
    obtain ⟨o, e, c, d⟩ := st
    exact ⟨o, e, fun v z => by rw [d] at z; cases z⟩
  keep := fun i h h' st k => st.at fun o e => k it (by simp) o e
  item := by
    intro X hP hw hK hc i pins s σ H E I hf st hg
    subst hP hw hK
    obtain ⟨xs, x, hq, hx⟩ := hg
    obtain ⟨its, rv, p, hz⟩ := I.list hq
    obtain ⟨u, hu, ru⟩ := rv.get hx
    obtain ⟨f0, f1, f2, f3, f4, f5⟩ := hf it (by simp)
    refine wpAny_pyNext_list_item st p.isList (x := u) (by simpa using hu) fun h' st' sb => ?_
    have I1 : Inv X pins σ H { s with heap := h' } := I.turned (t' := s.toks) (fun b o hb e => (sb.2 b hb).trans e) f0 f1 f3 f4 f5
    obtain ⟨o, e, c, d⟩ := id st'
    exact ⟨u, rfl, z44 (s := { s with heap := h' }) e c d (by decide) ⟨x, H, I1, ru, ⟨rfl, fun ys hy => by rw [I.list_inj hy hq]; exact hx⟩, st', fun b hb => (hf b hb).1⟩⟩
  done := by
    intro X hP hw hK hc i pins s σ H E I hf st hg
    subst hP hw hK
    obtain ⟨xs, hq, hx⟩ := hg
    obtain ⟨its, rv, p, hz⟩ := I.list hq
    obtain ⟨f0, f1, f2, f3, f4, f5⟩ := hf it (by simp)
    have hl := rv.length
    exact wpAny_pyNext_list_end (I.ok.hd hc) st p.isList (by simp; omega) fun h' eb => ⟨rfl, I.turned (t' := s.toks) (fun b o hb e => eb b o hb e) f0 f1 f3 f4 f5⟩
  self := fun _ _ _ _ _ st h => wpAny_pyIter_listiter st h
theorem z2c {P : Program} {w : World} {K : PySem.W.Frag} {tg : Expr} (a it : Addr) : Turn P w K tg (Itt K a) [it] it (fun i h => h.IsTupleIter it a i) where
  mem := by simp
  obj := fun i h st b hb => by
    have e : b = it := by simpa using hb
    subst e
    obtain ⟨o, e, c, d⟩ := st
    exact ⟨o, e, fun v z => by rw [d] at z; cases z⟩
  keep := fun i h h' st k => st.at fun o e => k it (by simp) o e
  item := by
    intro X hP hw hK hc i pins s σ H E I hf st hg
    subst hP hw hK
    obtain ⟨xs, x, hq, hx⟩ := hg
    obtain ⟨its, rv, p, hz⟩ := I.tuple hq
    obtain ⟨u, hu, ru⟩ := rv.get hx
    obtain ⟨f0, f1, f2, f3, f4, f5⟩ := hf it (by simp)
    refine wpAny_pyNext_tuple_item st (show s.heap.IsTuple a its.toArray from p) (x := u) (by simpa using hu) fun h' st' sb => ?_
    have I1 : Inv X pins σ H { s with heap := h' } := I.turned (t' := s.toks) (fun b o hb e => (sb.2 b hb).trans e) f0 f1 f3 f4 f5
    obtain ⟨o, e, c, d⟩ := id st'
    exact ⟨u, rfl, z44 (s := { s with heap := h' }) e c d (by decide) ⟨x, H, I1, ru, ⟨rfl, fun ys hy => by rw [I.tuple_inj hy hq]; exact hx⟩, st', fun b hb => (hf b hb).1⟩⟩
  done := by
    intro X hP hw hK hc i pins s σ H E I hf st hg
    subst hP hw hK
    obtain ⟨xs, hq, hx⟩ := hg
    obtain ⟨its, rv, p, hz⟩ := I.tuple hq
    obtain ⟨f0, f1, f2, f3, f4, f5⟩ := hf it (by simp)
    have hl := rv.length
    exact wpAny_pyNext_tuple_end (I.ok.hd hc) st (show s.heap.IsTuple a its.toArray from p) (by simp; omega) fun h' eb => ⟨rfl, I.turned (t' := s.toks) (fun b o hb e => eb b o hb e) f0 f1 f3 f4 f5⟩
  self := fun _ _ _ _ _ st h => wpAny_pyIter_tupleiter st h
theorem z2d {P : Program} {w : World} {K : PySem.W.Frag} {tg : Expr} (it : Addr) (lo : Int) (n : Nat) : Turn P w K tg (Itr lo n) [it] it (fun i h => IsRangeIter h it (lo + (i : Nat) * 1) ((n : Int) - (i : Nat)) 1) where
  mem := by simp
  obj := fun i h st b hb => by
    have e : b = it := by simpa using hb
    subst e
    exact ⟨_, st, fun v z => by
      have z' : Data.fields _ = Data.cell v := z
      cases z'⟩
  keep := fun i h h' st k => k it (by simp) _ st
  item := by
    intro X hP hw hK hc i pins s σ H E I hf st hg
    subst hP hw hK
    obtain ⟨f0, f1, f2, f3, f4, f5⟩ := hf it (by simp)
    have W := Walks.range (prog := X.prog) (w := X.w) (I.ok.hd hc) it lo 1 n
    refine W.item i s _ _ hg st fun v h' tk hv st' kk => ?_
    obtain ⟨t, rfl⟩ := hv
    have I1 : Inv X pins σ H { s with heap := h', toks := tk } := I.turned (fun b o hb e => kk b o (by simpa using hb) e) f0 f1 f3 f4 f5
    refine ⟨_, rfl, z44 (s := { s with heap := h', toks := tk }) (n := "range_iterator") st' rfl rfl (by decide) ⟨.int (lo + i), H, I1, ⟨t, ?_⟩, ⟨rfl, rfl⟩, st', fun b hb => (hf b hb).1⟩⟩
    rw [Int.mul_one]
  done := by
    intro X hP hw hK hc i pins s σ H E I hf st hg
    subst hP hw hK
    obtain ⟨f0, f1, f2, f3, f4, f5⟩ := hf it (by simp)
    exact wpAny_pyNext_range_end (I.ok.hd hc) st (by have : n <= i := hg; omega) fun h' eb => ⟨rfl, I.turned (t' := s.toks) (fun b o hb e => eb b o hb e) f0 f1 f3 f4 f5⟩
  self := fun _ _ _ _ _ st h => wpAny_pyIter_rangeiter st h
section
variable {X : Cx} {tg : Expr}
def z5Y (K : PySem.W.Frag) (tl : TE) : TI := fun σ H R => tl σ H fun x H1 => ∃ a, x = .ref a /\ (∃ xs, SqL K H1 a xs) /\ R (Itl K a) H1
def z7K (K : PySem.W.Frag) (tl : TE) : TI := fun σ H R => tl σ H fun x H1 => ∃ a, x = .ref a /\ (∃ xs, SqT K H1 a xs) /\ R (Itt K a) H1
theorem z0r {l : Expr} {tl : TE} (hl : PE X l tl) : PI X tg l (z5Y X.K tl) := by
  intro pins s σ H R I h
  refine thn (hl pins s σ H _ I h) fun v s1 ⟨x, H1, I1, r1, q1⟩ => ?_
  obtain ⟨a, e, ⟨xs, hq⟩, q⟩ := q1
  subst e
  cases r1
  obtain ⟨its, rv, p, hz⟩ := I1.list hq
  refine wpAny_pyIter_list p.isList ?_
  refine ⟨s1.heap.objs.size, [s1.heap.objs.size], _, _, H1, rfl, I1.kept (t' := s1.toks) fun b o e => Heap.get?_push_of_some _ e, z31 a _, ⟨_, Heap.get?_push_size _ rfl, rfl, rfl⟩, fun b hb => ?_, q⟩
  have e : b = s1.heap.objs.size := by simpa using hb
  subst e
  exact I1.fpOk (Nat.le_refl _) (I1.hok.fresh (Nat.le_refl _))
theorem z4g {l : Expr} {tl : TE} (hl : PE X l tl) : PI X tg l (z7K X.K tl) := by
  intro pins s σ H R I h
  refine thn (hl pins s σ H _ I h) fun v s1 ⟨x, H1, I1, r1, q1⟩ => ?_
  obtain ⟨a, e, ⟨xs, hq⟩, q⟩ := q1
  subst e
  cases r1
  obtain ⟨its, rv, p, hz⟩ := I1.tuple hq
  refine wpAny_pyIter_tuple (show s1.heap.IsTuple a its.toArray from p) ?_
  refine ⟨s1.heap.objs.size, [s1.heap.objs.size], _, _, H1, rfl, I1.kept (t' := s1.toks) fun b o e => Heap.get?_push_of_some _ e, z2c a _, ⟨_, Heap.get?_push_size _ rfl, rfl, rfl⟩, fun b hb => ?_, q⟩
  have e : b = s1.heap.objs.size := by simpa using hb
  subst e
  exact I1.fpOk (Nat.le_refl _) (I1.hok.fresh (Nat.le_refl _))
theorem z2T {pins : List (Addr × Obj)} {σ : St} {H : Hp} {s : Shared} {R : It -> Hp -> Prop} {E : Value -> Shared -> Prop} {lo hi : Int} {t u v : Tok} {tk : Nat} (I : Inv X pins σ H s) (h1 : -(2 ^ 62) <= lo) (h2 : lo < 2 ^ 62) (h3 : -(2 ^ 62) <= hi) (h4 : hi < 2 ^ 62)
    (q : R (Itr lo (hi - lo).toNat) H) : wpAny (model X.prog X.w) X.A (pyIter (.ref s.heap.objs.size)) (PIE X pins σ tg R) E { s with heap := s.heap.push { cls := .type "range", data := .fields #[.int lo t, .int hi u, .int 1 v] }, toks := tk } := by
  refine wpAny_pyIter_range (IsRange.new ..) (small_one h1 h2 h3 h4) ?_
  have I1 : Inv X pins σ H { s with heap := s.heap.push { cls := .type "range", data := .fields #[.int lo t, .int hi u, .int 1 v] }, toks := tk } := I.kept fun b o e => Heap.get?_push_of_some _ e
  refine ⟨(s.heap.push { cls := .type "range", data := .fields #[.int lo t, .int hi u, .int 1 v] }).objs.size, [(s.heap.push { cls := .type "range", data := .fields #[.int lo t, .int hi u, .int 1 v] }).objs.size], _, _, H, rfl,
    I1.kept (t' := tk) fun b o e => Heap.get?_push_of_some _ e, z2d _ lo (hi - lo).toNat, ?_, fun b hb => ?_, q⟩
  . have e1 : lo + ((0 : Nat) : Int) * 1 = lo := by simp
    have e2 : (((hi - lo).toNat : Nat) : Int) - ((0 : Nat) : Int) = Builtin.Range.rangeSize lo hi 1 := by rw [rangeSize_one]; split <;> omega
    show IsRangeIter _ _ (lo + ((0 : Nat) : Int) * 1) ((((hi - lo).toNat : Nat) : Int) - ((0 : Nat) : Int)) 1
    rw [e1, e2]
    exact Heap.get?_push_size _ rfl
  . have e : b = (s.heap.push { cls := .type "range", data := .fields #[.int lo t, .int hi u, .int 1 v] }).objs.size := by simpa using hb
    subst e
    exact I1.fpOk (Nat.le_refl _) (I1.hok.fresh (Nat.le_refl _))
def z5Z (ta : TA) : TI := fun σ H R => ta σ H fun vs H1 => ∃ j : Int, vs = [.int j] /\ -(2 ^ 62) <= j /\ j < 2 ^ 62 /\ R (Itr 0 j.toNat) H1
def z5a (ta : TA) : TI := fun σ H R => ta σ H fun vs H1 => ∃ i j : Int, vs = [.int i, .int j] /\ (-(2 ^ 62) <= i /\ i < 2 ^ 62 /\ -(2 ^ 62) <= j /\ j < 2 ^ 62) /\ R (Itr i (j - i).toNat) H1
theorem z1m {a : Expr} {ta : TA} {p pos : Pos} (hg : Gl X "range") (hm : X.mg "range" = none) (ha : PA X [a] ta) (hs : starEach [a] X.env = [(false, eval a X.env)] := by rfl) : PI X tg (.Call (.Name "range" p) [a] [] pos) (z5Z ta) := by
  intro pins s σ H R I h
  refine Call_ (z1l I hg hm boot_range (PyProof.Rows.callWith_type1 (thn (ha pos pins s σ H _ I h) fun us s1 ⟨vs, H1, I1, r1, q1⟩ => ?_) hs rfl))
  obtain ⟨j, e, q1, q2, q⟩ := q1
  subst e
  cases r1 with
  | cons r rr =>
    cases rr
    obtain ⟨t, rfl⟩ := r
    exact call_range_1 (z2T I1 (by omega) (by omega) q1 q2 (by simpa using q))
theorem z32 {a b : Expr} {ta : TA} {p pos : Pos} (hg : Gl X "range") (hm : X.mg "range" = none) (ha : PA X [a, b] ta) (hs : starEach [a, b] X.env = [(false, eval a X.env), (false, eval b X.env)] := by rfl) (hs2 : starEach [b] X.env = [(false, eval b X.env)] := by rfl) :
    PI X tg (.Call (.Name "range" p) [a, b] [] pos) (z5a ta) := by
  intro pins s σ H R I h
  refine Call_ (z1l I hg hm boot_range (PyProof.Rows.callWith_type1 (thn (ha pos pins s σ H _ I h) fun us s1 ⟨vs, H1, I1, r1, q1⟩ => ?_) (by rw [hs, hs2]) (by rw [hs2]; rfl)))
  obtain ⟨i, j, e, ⟨q1, q2, q3, q4⟩, q⟩ := q1
  subst e
  cases r1 with
  | cons r rr =>
    cases rr with
    | cons r' rr =>
      cases rr
      obtain ⟨t, rfl⟩ := r
      obtain ⟨t', rfl⟩ := r'
      exact call_range_2 (z2T I1 q1 q2 q3 q4 q)
def z7L (wi : TI) (g : TG) (tb : TS) : TS := fun D σ H => wi σ H fun J H1 => ∃ W : Nat -> Nat -> St -> Hp -> Prop, (∃ m, W 0 m σ H1) /\ ∀ i m σ H, W i m σ H ->
  (J.stop i H /\ D.nx σ H) \/ (J.go i H /\ ∃ N : St -> Hp -> Prop, (∀ σ' H', N σ' H' -> ∃ m', m' < m /\ W (i + 1) m' σ' H') /\ ∀ x H', J.yld i H x H' -> g x σ H' fun σ2 H2 => tb { D with nx := N, ct := N, bk := D.nx } σ2 H2)
def z1n (fp : List Addr) (h : Heap) : List (Addr × Obj) := fp.filterMap fun b => (h.get? b).map fun o => (b, o)
theorem z0n {fp : List Addr} {h : Heap} {b : Addr} {o : Obj} (hb : b ∈ fp) (e : h.get? b = some o) : (b, o) ∈ z1n fp h := List.mem_filterMap.mpr ⟨b, hb, by rw [e]; rfl⟩
theorem z33 {fp : List Addr} {h : Heap} {p : Addr × Obj} (hp : p ∈ z1n fp h) : p.1 ∈ fp /\ h.get? p.1 = some p.2 := by
  obtain ⟨b, hb, e⟩ := List.mem_filterMap.mp hp
  cases q : h.get? b with
  | none => rw [q] at e; cases e
  | some o =>
    rw [q] at e
    have e' : (b, o) = p := Option.some.inj e
    subst e'
    exact ⟨hb, q⟩
theorem Inv.pinned {pins : List (Addr × Obj)} {σ : St} {H : Hp} {s : Shared} {fp : List Addr} (I : Inv X pins σ H s) (hf : ∀ b ∈ fp, z30 X pins H b) (ho : ∀ b ∈ fp, ∃ o, s.heap.get? b = some o /\ ∀ v, o.data ≠ .cell v) : Inv X (pins ++ z1n fp s.heap) σ H s :=
  I.pins_of fun p hp => (List.mem_append.mp hp).elim (fun z => I.pin p (List.mem_append_right _ z)) fun z => by
    obtain ⟨hb, e⟩ := z33 z
    obtain ⟨f0, f1, f2, _⟩ := hf p.1 hb
    obtain ⟨o, e', d⟩ := ho p.1 hb
    rw [e] at e'; cases e'
    exact ⟨e, f0, f1, f2, d⟩
theorem Inv.unpinned {pins pl : List (Addr × Obj)} {σ : St} {H : Hp} {s : Shared} (I : Inv X (pins ++ pl) σ H s) : Inv X pins σ H s := I.pins_of fun p hp => I.pin p (List.mem_append_right _ (List.mem_append_left _ hp))
theorem z2U {iter : Expr} {body : List Stmt} {wi : TI} {g : TG} {tb : TS} {pos : Pos} (hp : PassesOwn (model X.prog X.w) X.A X.env X.xe) (hc : X.calm = true) (hi : PI X tg iter wi) (hg : PG X tg g) (hb : PSs X body tb)
    (hs : ∀ x, foldedSetIterable iter X.env x = pure x := by intro _; rfl) : PS X (.For tg iter body [] pos) (z7L wi g tb) := by
  intro pins s σ H D I h
  refine wpAny_For (thn (hi pins s σ H _ I h) fun v s1 h1 => thn h1 fun itv s2 h2 => ?_) hs
  obtain ⟨it, fp, tn, J, H2, e, I2, T, st2, f2, W, ⟨m0, w0⟩, turn⟩ := h2
  subst e
  have stat : ∀ {H' : Hp}, (∀ b ∈ fp, H' b = none) -> ∀ b ∈ fp, z30 X pins H' b := fun hn b hb => ⟨hn b hb, (f2 b hb).2⟩
  refine codeAny_forLoop_any (fun n s' => ∃ i σ' H', Inv X pins σ' H' s' /\ tn i s'.heap /\ (∀ b ∈ fp, H' b = none) /\ W i n σ' H') ?_ m0 ⟨0, σ, H2, I2, st2, fun b hb => (f2 b hb).1, w0⟩
  rintro n s3 ⟨i, σ3, H3, I3, st3, fr3, w3⟩
  rcases turn i n σ3 H3 w3 with ⟨stop, qn⟩ | ⟨go, N, hN, step⟩
  . refine wpAny_passesOwn hp (thn (T.done X rfl rfl rfl hc i pins s3 σ3 H3 X.xe I3 (stat fr3) st3 stop) fun r s4 ⟨hr, I4⟩ => ?_)
    subst hr
    exact wpAny_execs_nil ⟨σ3, H3, I4, qn⟩
  . refine wpAny_passesOwn hp (thn (T.item X rfl rfl rfl hc i pins s3 σ3 H3 X.xe I3 (stat fr3) st3 go) fun r s4 ⟨u, hr, h4⟩ => ?_)
    subst hr
    refine wpAny_passesOwn hp (thn h4 fun _ s5 ⟨x, H5, I5, r5, y5, st5, fr5⟩ => ?_)
    have I5' := I5.pinned (stat fr5) (T.obj _ _ st5)
    refine wpAny_passesOwn hp (thn (hg _ s5 σ3 H5 x u _ I5' r5 (step x H5 y5)) fun _ s6 ⟨σ6, H6, I6, q6⟩ => ?_)
    refine wpAny_passesOwn hp (thn (hb _ s6 σ6 H6 _ I6 q6) fun f s7 q7 => ?_)
    have again : ∀ {σ7 : St} {H7 : Hp}, Inv X (pins ++ z1n fp s5.heap) σ7 H7 s7 -> N σ7 H7 -> ∃ m, m < n /\ ∃ i σ' H', Inv X pins σ' H' s7 /\ tn i s7.heap /\ (∀ b ∈ fp, H' b = none) /\ W i m σ' H' := fun {σ7 H7} I7 n7 => by
      obtain ⟨m', hm, w7⟩ := hN σ7 H7 n7
      refine ⟨m', hm, i + 1, σ7, H7, I7.unpinned, T.keep _ _ _ st5 fun b hb o e => (I7.pin (b, o) (List.mem_append_right _ (List.mem_append_right _ (z0n hb e)))).1, fun b hb => ?_, w7⟩
      obtain ⟨o, e, d⟩ := T.obj _ _ st5 b hb
      exact (I7.pin (b, o) (List.mem_append_right _ (List.mem_append_right _ (z0n hb e)))).2.1
    cases f with
    | next => obtain ⟨σ7, H7, I7, n7⟩ := q7; exact again I7 n7
    | cont => obtain ⟨σ7, H7, I7, n7⟩ := q7; exact again I7 n7
    | brk => obtain ⟨σ7, H7, I7, q7⟩ := q7; exact ⟨σ7, H7, I7.unpinned, q7⟩
    | ret v => obtain ⟨x7, σ7, H7, I7, r7, q7⟩ := q7; exact ⟨x7, σ7, H7, I7.unpinned, r7, q7⟩
end
theorem z2V {K : PySem.W.Frag} {a : Addr} {xs : List V} {g : TG} {tb : TS} {D : Ends} {σ : St} {H : Hp} (Pv : Nat -> St -> Hp -> Prop) (h0 : Pv 0 σ H) (hl : ∀ i σ H, i <= xs.length -> Pv i σ H -> SqL K H a xs)
    (hs : ∀ i x σ H, xs[i]? = some x -> Pv i σ H -> g x σ H fun σ2 H2 => tb { D with nx := Pv (i + 1), ct := Pv (i + 1), bk := D.nx } σ2 H2) (hd : ∀ σ H, Pv xs.length σ H -> D.nx σ H) :
    ∃ W : Nat -> Nat -> St -> Hp -> Prop, (∃ m, W 0 m σ H) /\ ∀ i m σ H, W i m σ H ->
      ((Itl K a).stop i H /\ D.nx σ H) \/ ((Itl K a).go i H /\ ∃ N : St -> Hp -> Prop, (∀ σ' H', N σ' H' -> ∃ m', m' < m /\ W (i + 1) m' σ' H') /\ ∀ x H', (Itl K a).yld i H x H' -> g x σ H' fun σ2 H2 => tb { D with nx := N, ct := N, bk := D.nx } σ2 H2) := by
  refine ⟨fun i m σ H => m = xs.length - i /\ i <= xs.length /\ Pv i σ H, ⟨xs.length, by simp, Nat.zero_le _, h0⟩, ?_⟩
  rintro i m σ H ⟨rfl, hi, p⟩
  have q := hl i σ H hi p
  by_cases hlt : i < xs.length
  . refine .inr ⟨⟨xs, xs[i], q, by simp [hlt]⟩, Pv (i + 1), fun σ' H' p' => ⟨xs.length - (i + 1), by omega, rfl, hlt, p'⟩, fun x H' y => ?_⟩
    obtain ⟨e, y⟩ := y
    subst e
    exact hs i x σ _ (y xs q) p
  . have e : i = xs.length := by omega
    subst e
    exact .inl ⟨⟨xs, q, Nat.le_refl _⟩, hd σ H p⟩
theorem z1o {lo : Int} {n : Nat} {g : TG} {tb : TS} {D : Ends} {σ : St} {H : Hp} (Pv : Nat -> St -> Hp -> Prop) (h0 : Pv 0 σ H)
    (hs : ∀ i σ H, i < n -> Pv i σ H -> g (.int (lo + i)) σ H fun σ2 H2 => tb { D with nx := Pv (i + 1), ct := Pv (i + 1), bk := D.nx } σ2 H2) (hd : ∀ σ H, Pv n σ H -> D.nx σ H) :
    ∃ W : Nat -> Nat -> St -> Hp -> Prop, (∃ m, W 0 m σ H) /\ ∀ i m σ H, W i m σ H ->
      ((Itr lo n).stop i H /\ D.nx σ H) \/ ((Itr lo n).go i H /\ ∃ N : St -> Hp -> Prop, (∀ σ' H', N σ' H' -> ∃ m', m' < m /\ W (i + 1) m' σ' H') /\ ∀ x H', (Itr lo n).yld i H x H' -> g x σ H' fun σ2 H2 => tb { D with nx := N, ct := N, bk := D.nx } σ2 H2) := by
  refine ⟨fun i m σ H => m = n - i /\ i <= n /\ Pv i σ H, ⟨n, by simp, Nat.zero_le _, h0⟩, ?_⟩
  rintro i m σ H ⟨rfl, hi, p⟩
  by_cases hlt : i < n
  . refine .inr ⟨hlt, Pv (i + 1), fun σ' H' p' => ⟨n - (i + 1), by omega, rfl, hlt, p'⟩, fun x H' y => ?_⟩
    obtain ⟨e, y⟩ := y
    subst e y
    exact hs i σ _ hlt p
  . have e : i = n := by omega
    subst e
    exact .inl ⟨Nat.le_refl _, hd σ H p⟩
abbrev R2 := V -> V -> Hp -> VK -> Prop
def OpR (X : Cx) (f : Value -> Value -> Sem Value) (r : R2) : Prop :=
  ∀ (pins : List (Addr × Obj)) (s : Shared) (σ : St) (H : Hp) (x y : V) (v u : Value) (Q : VK), Inv X pins σ H s -> RelV x v -> RelV y u -> r x y H Q ->
    wpAny (model X.prog X.w) X.A (f v u) (EP X pins σ Q) X.xe s
def UnR (X : Cx) (f : Value -> Sem Value) (r : V -> Hp -> VK -> Prop) : Prop :=
  ∀ (pins : List (Addr × Obj)) (s : Shared) (σ : St) (H : Hp) (x : V) (v : Value) (Q : VK), Inv X pins σ H s -> RelV x v -> r x H Q ->
    wpAny (model X.prog X.w) X.A (f v) (EP X pins σ Q) X.xe s
def CallR (X : Cx) (f : Value) (r : List V -> Hp -> VK -> Prop) : Prop :=
  ∀ (pins : List (Addr × Obj)) (s : Shared) (σ : St) (H : Hp) (xs : List V) (us : List Value) (Q : VK), Inv X pins σ H s -> Vals xs us -> r xs H Q ->
    wpAny (model X.prog X.w) X.A (call f us) (EP X pins σ Q) X.xe s
def z8D (X : Cx) (r : V -> Hp -> (Bool -> Hp -> Prop) -> Prop) : Prop :=
  ∀ (pins : List (Addr × Obj)) (s : Shared) (σ : St) (H : Hp) (x : V) (v : Value) (Q : Bool -> Hp -> Prop), Inv X pins σ H s -> RelV x v -> r x H Q ->
    wpAny (model X.prog X.w) X.A (truthy v) (TP X pins σ Q) X.xe s
def tOp (r : R2) (ta tb : TE) : TE := fun σ H Q => ta σ H fun x H1 => tb σ H1 fun y H2 => r x y H2 Q
def tUn (r : V -> Hp -> VK -> Prop) (ta : TE) : TE := fun σ H Q => ta σ H fun x H1 => r x H1 Q
def rI (C : Int -> Int -> Prop) (g : Int -> Int -> V) : R2 := fun x y H Q => ∃ i j, x = .int i /\ y = .int j /\ C i j /\ Q (g i j) H
def rI0 (g : Int -> Int -> V) : R2 := fun x y H Q => ∃ i j, x = .int i /\ y = .int j /\ Q (g i j) H
def rU (g : Int -> V) : V -> Hp -> VK -> Prop := fun x H Q => ∃ i, x = .int i /\ Q (g i) H
section
variable {X : Cx} {a b c : Expr} {ta tb tc : TE} {pos : Pos}
theorem z5b (ha : PE X a ta) (hb : PE X b tb) {pins : List (Addr × Obj)} {s : Shared} {σ : St} {H : Hp} {R : V -> V -> Hp -> Prop} (I : Inv X pins σ H s)
    (h : ta σ H fun x H1 => tb σ H1 fun y H2 => R x y H2) {Q : Value -> Shared -> Prop} {f : Value -> Value -> Sem Value}
    (hf : ∀ v u s2 x y H2, Inv X pins σ H2 s2 -> RelV x v -> RelV y u -> R x y H2 -> wpAny (model X.prog X.w) X.A (f v u) Q X.xe s2) :
    wpAny (model X.prog X.w) X.A (eval a X.env) (fun v s₁ => wpAny (model X.prog X.w) X.A (eval b X.env) (fun u s₂ => wpAny (model X.prog X.w) X.A (f v u) Q X.xe s₂) X.xe s₁) X.xe s := by
  refine thn (ha pins s σ H _ I h) fun v s1 ⟨x, H1, I1, r1, q1⟩ => ?_
  refine thn (hb pins s1 σ H1 _ I1 q1) fun u s2 ⟨y, H2, I2, r2, q2⟩ => ?_
  exact hf v u s2 x y H2 I2 r1 r2 q2
theorem z0K {op : Operator} {r : R2} (ho : OpR X (binaryOp op) r) (ha : PE X a ta) (hb : PE X b tb) : PE X (.BinOp a op b pos) (tOp r ta tb) := by
  intro pins s σ H Q I h
  exact wpAny_BinOp (z5b ha hb I h fun v u s2 x y H2 I2 rx ry q => ho pins s2 σ H2 x y v u Q I2 rx ry q)
theorem z4h {op : UnaryOp} {r : V -> Hp -> VK -> Prop} (ho : UnR X (unaryOp op) r) (ha : PE X a ta) : PE X (.UnaryOp op a pos) (tUn r ta) := by
  intro pins s σ H Q I h
  exact UnaryOp_ (thn (ha pins s σ H _ I h) fun v s1 ⟨x, H1, I1, r1, q1⟩ => ho pins s1 σ H1 x v Q I1 r1 q1)
theorem opI {f : Value -> Value -> Sem Value} {C : Int -> Int -> Prop} {g : Int -> Int -> Int}
    (rule : ∀ (i j : Int) (t u : Tok) (s : Shared) (Q : Value -> Shared -> Prop) (E : Value -> Shared -> Prop), C i j -> Q (.int (g i j) s.toks) { s with toks := s.toks + 1 } -> wpAny (model X.prog X.w) X.A (f (.int i t) (.int j u)) Q E s) :
    OpR X f (rI C fun i j => .int (g i j)) := by
  intro pins s σ H x y v u Q I rx ry h
  obtain ⟨i, j, rfl, rfl, hc, q⟩ := h
  obtain ⟨t, rfl⟩ := rx
  obtain ⟨t', rfl⟩ := ry
  exact rule i j t t' s _ _ hc ⟨.int (g i j), H, I.tok _, ⟨_, rfl⟩, q⟩
theorem z6N {f : Value -> Value -> Sem Value} {g : Int -> Int -> Int}
    (rule : ∀ (i j : Int) (t u : Tok) (s : Shared) (Q : Value -> Shared -> Prop) (E : Value -> Shared -> Prop), Q (.int (g i j) s.toks) { s with toks := s.toks + 1 } -> wpAny (model X.prog X.w) X.A (f (.int i t) (.int j u)) Q E s) :
    OpR X f (rI0 fun i j => .int (g i j)) := by
  intro pins s σ H x y v u Q I rx ry h
  obtain ⟨i, j, rfl, rfl, q⟩ := h
  obtain ⟨t, rfl⟩ := rx
  obtain ⟨t', rfl⟩ := ry
  exact rule i j t t' s _ _ ⟨.int (g i j), H, I.tok _, ⟨_, rfl⟩, q⟩
theorem z7M {f : Value -> Value -> Sem Value} {g : Int -> Int -> Bool}
    (rule : ∀ (i j : Int) (t u : Tok) (s : Shared) (Q : Value -> Shared -> Prop) (E : Value -> Shared -> Prop), Q (.bool (g i j)) s -> wpAny (model X.prog X.w) X.A (f (.int i t) (.int j u)) Q E s) :
    OpR X f (rI0 fun i j => .bl (g i j)) := by
  intro pins s σ H x y v u Q I rx ry h
  obtain ⟨i, j, rfl, rfl, q⟩ := h
  obtain ⟨t, rfl⟩ := rx
  obtain ⟨t', rfl⟩ := ry
  exact rule i j t t' s _ _ ⟨.bl (g i j), H, I, rfl, q⟩
def z7N (i j : Int) : Prop := 0 < j /\ j < 1073741824
def z7O (i j : Int) : Prop := j ≠ 0 /\ j.natAbs < 1073741824
def z7P (i j : Int) : Prop := 0 <= j /\ j <= 1000000 /\ i.natAbs < 2 ^ 64
def CMul (i j : Int) : Prop := (-(2 ^ 64) < i /\ i < 2 ^ 64) \/ (-(2 ^ 64) < j /\ j < 2 ^ 64)
theorem CMul.ok {i j : Int} (h : CMul i j) : IntMulOk i j := by
  rcases h with ⟨h1, h2⟩ | ⟨h1, h2⟩
  . exact .of_left (intBits_le_64 h1 h2)
  . exact .of_right (intBits_le_64 h1 h2)
theorem z1J : OpR X (binaryOp .Add) (rI0 fun i j => .int (i + j)) := z6N fun _ _ _ _ _ _ _ q => add_int q
theorem z3t : OpR X (binaryOp .Sub) (rI0 fun i j => .int (i - j)) := z6N fun _ _ _ _ _ _ _ q => sub_int q
theorem z3u : OpR X (binaryOp .Mult) (rI CMul fun i j => .int (i * j)) := opI fun _ _ _ _ _ _ _ hc q => mul_int q hc.ok
theorem z0s : OpR X (binaryOp .FloorDiv) (rI z7N fun i j => .int (i / j)) := opI fun i j _ _ _ _ _ hc q => by
  have h1 : (0 : Int) < j := hc.1
  have h2 : j < 1073741824 := hc.2
  exact floordiv_int (by omega) (by rw [Int.fdiv_eq_ediv_of_nonneg i (by omega)]; exact q) (.inl (PyProof.noPylong_small (by omega)))
theorem z0d : OpR X (binaryOp .Mod) (rI (fun _ j => 0 < j) fun i j => .int (i % j)) := opI fun i j _ _ _ _ _ hc q => by
  have h1 : (0 : Int) < j := hc
  exact mod_int' (by omega) (by rw [Int.fmod_eq_emod_of_nonneg i (by omega)]; exact q)
theorem unI {f : Value -> Sem Value} {g : Int -> Int}
    (rule : ∀ (i : Int) (t : Tok) (s : Shared) (Q : Value -> Shared -> Prop) (E : Value -> Shared -> Prop), Q (.int (g i) s.toks) { s with toks := s.toks + 1 } -> wpAny (model X.prog X.w) X.A (f (.int i t)) Q E s) :
    UnR X f (rU fun i => .int (g i)) := by
  intro pins s σ H x v Q I rx h
  obtain ⟨i, rfl, q⟩ := h
  obtain ⟨t, rfl⟩ := rx
  exact rule i t s _ _ ⟨.int (g i), H, I.tok _, ⟨_, rfl⟩, q⟩
theorem z3v : UnR X (unaryOp .USub) (rU fun i => .int (-i)) := unI fun _ _ _ _ _ q => neg_int q
end
def z4i : V -> V -> Bool
  | .non, .non => true | .non, .int _ => true | .int _, .non => true | .non, .bl _ => true | .bl _, .non => true | .non, .str _ => true | .str _, .non => true
  | .int _, .int _ => true | .bl _, .bl _ => true | .str _, .str _ => true | .byt _, .byt _ => true
  | .int _, .str _ => true | .str _, .int _ => true | .bl _, .str _ => true | .str _, .bl _ => true
  | _, _ => false
def rEq : R2 := fun x y H Q => z4i x y = true /\ Q (.bl (decide (x = y))) H
def rNe : R2 := fun x y H Q => z4i x y = true /\ Q (.bl (!decide (x = y))) H
theorem z34 {i j : Int} : decide (V.int i = V.int j) = (i == j) := by
  rw [Bool.eq_iff_iff]
  simp
theorem z3w {i j : Bool} : decide (V.bl i = V.bl j) = (i == j) := by
  rw [Bool.eq_iff_iff]
  simp
theorem z35 {i j : Str} : decide (V.str i = V.str j) = (i == j) := by
  rw [Bool.eq_iff_iff]
  simp
theorem z36 {i j : Array UInt8} : decide (V.byt i = V.byt j) = (i.toList == j.toList) := by
  rw [Bool.eq_iff_iff]
  cases i
  cases j
  simp
section
variable {X : Cx} {a b c : Expr} {ta tb tc : TE} {pos : Pos}
theorem z0A {pins : List (Addr × Obj)} {σ : St} {H : Hp} {s : Shared} {Q : VK} {k k' : Bool} (I : Inv X pins σ H s) (q : Q (.bl k) H) (e : k = k') : EP X pins σ Q (.bool k') s := by
  subst e
  exact ⟨.bl k, H, I, rfl, q⟩
theorem z1p : OpR X (compareOp .Eq) rEq := by
  intro pins s σ H x y v u Q I rx ry h
  obtain ⟨hs, q⟩ := h
  cases x with
  | non =>
    cases rx
    cases y with
    | non => cases ry; exact PySem.EqNone.eq_none_none (z0A I q (by simp))
    | bl j => cases ry; exact PySem.EqNone.eq_none_bool (z0A I q (by simp))
    | int j => obtain ⟨t', rfl⟩ := ry; exact PySem.EqNone.eq_none_int (z0A I q (by simp))
    | str j => obtain ⟨t', rfl⟩ := ry; exact PySem.EqNone.eq_none_str (z0A I q (by simp))
    | _ => exact absurd (show false = true from hs) Bool.false_ne_true
  | bl i =>
    cases rx
    cases y with
    | non => cases ry; exact PySem.EqNone.eq_bool_none (z0A I q (by simp))
    | bl j => cases ry; exact eq_bool (z0A I q z3w)
    | str j => obtain ⟨t', rfl⟩ := ry; exact PySem.EqMixed.eq_bool_str (z0A I q (by simp))
    | _ => exact absurd (show false = true from hs) Bool.false_ne_true
  | int i =>
    obtain ⟨t, rfl⟩ := rx
    cases y with
    | non => cases ry; exact PySem.EqNone.eq_int_none (z0A I q (by simp))
    | int j => obtain ⟨t', rfl⟩ := ry; exact eq_int (z0A I q z34)
    | str j => obtain ⟨t', rfl⟩ := ry; exact PySem.EqMixed.eq_int_str (z0A I q (by simp))
    | _ => exact absurd (show false = true from hs) Bool.false_ne_true
  | str i =>
    obtain ⟨t, rfl⟩ := rx
    cases y with
    | non => cases ry; exact PySem.EqNone.eq_str_none (z0A I q (by simp))
    | bl j => cases ry; exact PySem.EqMixed.eq_str_bool (z0A I q (by simp))
    | int j => obtain ⟨t', rfl⟩ := ry; exact PySem.EqMixed.eq_str_int (z0A I q (by simp))
    | str j => obtain ⟨t', rfl⟩ := ry; exact eq_str (z0A I q z35)
    | _ => exact absurd (show false = true from hs) Bool.false_ne_true
  | byt i =>
    obtain ⟨t, rfl⟩ := rx
    cases y with
    | byt j => obtain ⟨t', rfl⟩ := ry; exact PySem.W.eq_bytes (z0A I q z36)
    | _ => exact absurd (show false = true from hs) Bool.false_ne_true
  | _ => cases y <;> exact absurd (show false = true from hs) Bool.false_ne_true
theorem z3f : OpR X (compareOp .NotEq) rNe := by
  intro pins s σ H x y v u Q I rx ry h
  obtain ⟨hs, q⟩ := h
  cases x with
  | non =>
    cases rx
    cases y with
    | non => cases ry; exact PySem.EqNone.ne_none_none (z0A I q (by simp))
    | bl j => cases ry; exact PySem.EqNone.ne_none_bool (z0A I q (by simp))
    | int j => obtain ⟨t', rfl⟩ := ry; exact PySem.EqNone.ne_none_int (z0A I q (by simp))
    | str j => obtain ⟨t', rfl⟩ := ry; exact PySem.EqNone.ne_none_str (z0A I q (by simp))
    | _ => exact absurd (show false = true from hs) Bool.false_ne_true
  | bl i =>
    cases rx
    cases y with
    | non => cases ry; exact PySem.EqNone.ne_bool_none (z0A I q (by simp))
    | bl j => cases ry; exact ne_bool (z0A I q (congrArg not z3w))
    | str j => obtain ⟨t', rfl⟩ := ry; exact PySem.EqMixed.ne_bool_str (z0A I q (by simp))
    | _ => exact absurd (show false = true from hs) Bool.false_ne_true
  | int i =>
    obtain ⟨t, rfl⟩ := rx
    cases y with
    | non => cases ry; exact PySem.EqNone.ne_int_none (z0A I q (by simp))
    | int j => obtain ⟨t', rfl⟩ := ry; exact ne_int (z0A I q (congrArg not z34))
    | str j => obtain ⟨t', rfl⟩ := ry; exact PySem.EqMixed.ne_int_str (z0A I q (by simp))
    | _ => exact absurd (show false = true from hs) Bool.false_ne_true
  | str i =>
    obtain ⟨t, rfl⟩ := rx
    cases y with
    | non => cases ry; exact PySem.EqNone.ne_str_none (z0A I q (by simp))
    | bl j => cases ry; exact PySem.EqMixed.ne_str_bool (z0A I q (by simp))
    | int j => obtain ⟨t', rfl⟩ := ry; exact PySem.EqMixed.ne_str_int (z0A I q (by simp))
    | str j => obtain ⟨t', rfl⟩ := ry; exact ne_str (z0A I q (congrArg not z35))
    | _ => exact absurd (show false = true from hs) Bool.false_ne_true
  | byt i =>
    obtain ⟨t, rfl⟩ := rx
    cases y with
    | byt j => obtain ⟨t', rfl⟩ := ry; exact PySem.W.ne_bytes (z0A I q (congrArg not z36))
    | _ => exact absurd (show false = true from hs) Bool.false_ne_true
  | _ => cases y <;> exact absurd (show false = true from hs) Bool.false_ne_true
theorem z4j : OpR X (compareOp .Gt) (rI0 fun i j => .bl (decide (j < i))) := z7M fun _ _ _ _ _ _ _ q => gt_int q
def isObj : HO -> Bool
  | .lst _ => true
  | .ins _ _ _ => true
  | _ => false
theorem OpR.or {f : Value -> Value -> Sem Value} {r r' : R2} (h : OpR X f r) (h' : OpR X f r') : OpR X f (fun x y H Q => r x y H Q \/ r' x y H Q) := by
  intro pins s σ H x y v u Q I rx ry q
  rcases q with q | q
  . exact h pins s σ H x y v u Q I rx ry q
  . exact h' pins s σ H x y v u Q I rx ry q
theorem z0S (b : Expr) {op : CmpOp} (h : op ≠ .In := by decide) (h2 : op ≠ .NotIn := by decide) : behindInMarks op b = false := by
  have e1 : (op == CmpOp.In) = false := by cases op <;> first | rfl | exact absurd rfl h
  have e2 : (op == CmpOp.NotIn) = false := by cases op <;> first | rfl | exact absurd rfl h2
  cases b <;> simp [behindInMarks, e1, e2]
theorem z1U {op : CmpOp} {r : R2} (ho : OpR X (compareOp op) r) (ha : PE X a ta) (hb : PE X b tb) (hm : behindInMarks op b = false) : PE X (.Compare a [op] [b] pos) (tOp r ta tb) := by
  intro pins s σ H Q I h
  exact wpAny_Compare1 (z5b ha hb I h fun v u s2 x y H2 I2 rx ry q => ho pins s2 σ H2 x y v u Q I2 rx ry q) hm
def z5c (t : TE) : TT := fun σ H Q => t σ H fun x H' => ∃ k, x = .bl k /\ Q k H'
theorem z0N {op : CmpOp} {r : R2} (ho : OpR X (compareOp op) r) (ha : PE X a ta) (hb : PE X b tb) (hm : behindInMarks op b = false) : PT X (.Compare a [op] [b] pos) (z5c (tOp r ta tb)) := by
  intro pins s σ H Q I h
  refine wpAny_isTrue_Compare1 (thn (ha pins s σ H _ I h) fun v s1 ⟨x, H1, I1, r1, q1⟩ => thn (hb pins s1 σ H1 _ I1 q1) fun u s2 ⟨y, H2, I2, r2, q2⟩ =>
    thn (ho pins s2 σ H2 x y v u _ I2 r1 r2 q2) fun c s3 ⟨z, H3, I3, r3, k, e, q3⟩ => ?_) hm
  subst e
  cases r3
  exact wpAny_truthy_bool ⟨H3, I3, q3⟩
def z6O (r r' : R2) (ta tb tc : TE) : TE := fun σ H Q => ta σ H fun x H1 => tb σ H1 fun y H2 => r x y H2 fun z H3 => ∃ k, z = .bl k /\
  (if k = true then tc σ H3 fun w' H4 => r' y w' H4 Q else Q (.bl false) H3)
def z8E (K : PySem.W.Frag) (x : V) (H : Hp) (k : Bool) : Prop :=
  match x with
  | .non => k = false
  | .bl b => k = b
  | .int i => k = (i != 0)
  | .str y => y.length <= sizeLine /\ k = ((y.length : Int) != 0)
  | .byt y => y.size <= sizeLine /\ k = ((y.size : Int) != 0)
  | .ref p => (∃ xs, SqL K H p xs /\ k = !xs.isEmpty) \/ (∃ xs, SqT K H p xs /\ k = !xs.isEmpty) \/ ∃ kvs, H p = some (.dK kvs) /\ k = !kvs.isEmpty
  | _ => False
theorem z2W : (sizeLine : Nat) < 2 ^ 63 := by rw [sizeLine_eq]; decide
def z5E (b : Expr) : Prop := ∀ o i, subscripted b false o i = operate [o, i] (getItem o i)
theorem vals1 {x : V} {us : List Value} (r : Vals [x] us) : ∃ u, us = [u] /\ RelV x u := by
  cases r with
  | cons r1 r2 => cases r2; exact ⟨_, rfl, r1⟩
theorem vals2 {x y : V} {us : List Value} (r : Vals [x, y] us) : ∃ u w', us = [u, w'] /\ RelV x u /\ RelV y w' := by
  cases r with
  | cons r1 r2 =>
    cases r2 with
    | cons r3 r4 => cases r4; exact ⟨_, _, rfl, r1, r3⟩
def z8F (K : PySem.W.Frag) (x : V) (H : Hp) (n : Nat) : Prop :=
  match x with
  | .str y => y.length <= sizeLine /\ n = y.length
  | .byt y => y.size <= sizeLine /\ n = y.size
  | .ref p => (∃ xs, SqL K H p xs /\ n = xs.length) \/ ∃ xs, SqT K H p xs /\ n = xs.length
  | _ => False
end
structure ObjM (h : Heap) (x dx C : Addr) (mA : Str -> Option Value) : Prop where
  obj : h.get? x = some (PySem.W.instObj C dx)
  ns : h.Ns1 dx mA
  ne : dx ≠ x
theorem z37 {h : Heap} {dx : Addr} {mA : Str -> Option Value} (n : h.Ns1 dx mA) : ∃ od, h.get? dx = some od /\ ∀ name, PySem.W.lookIn name od = some (mA name) := by
  obtain ⟨o, es, ep, ho, hd, hk, _, hm⟩ := n
  refine ⟨o, ho, fun name => ?_⟩
  have e := hm name
  unfold nsFind findBy at e
  rw [<- Array.find?_toList] at e
  unfold PySem.W.lookIn
  rw [hd]
  dsimp only
  split
  . rename_i y q
    rw [q] at e
    exact congrArg some e
  . rename_i q
    rw [q] at e
    have a : es.toList.any (·.refKey) = false := by
      rw [List.any_eq_false]
      intro y hy
      obtain ⟨z, t, hkey⟩ := hk y (Array.mem_toList_iff.mp hy)
      simp [DictEntry.refKey, hkey]
    have a' : ¬ es.toList.any (·.refKey) = true := by rw [a]; exact Bool.false_ne_true
    rw [if_neg a']
    exact congrArg some e
theorem ObjM.look {h : Heap} {x dx C : Addr} {mA : Str -> Option Value} (I : ObjM h x dx C mA) : ∃ od, PySem.W.InstAt h x (PySem.W.instObj C dx) C (some od) /\ ∀ name, PySem.W.lookIn name od = some (mA name) :=
  let ⟨od, ho, hl⟩ := z37 I.ns
  ⟨od, ⟨I.obj, rfl, rfl, ho⟩, hl⟩
section
variable {prog : Program} {w : World} {A : Around} {E : Value -> Shared -> Prop} {s : Shared} {K : PySem.W.Frag} {x dx C f : Addr} {mA : Str -> Option Value} {name : Str} {v : Value}
theorem z45 {expr : Bool} {Q : Value -> Shared -> Prop} (X : K.In s.heap) (I : ObjM s.heap x dx C mA) (hg : PySem.W.plainGet K C name = true) (hh : PySem.W.hasDictIn K C = true)
    (ha : PySem.W.findIn K (.ref C) name = some none) (hv : mA name = some v) (hv' : PySem.W.handedIn v = true) (h : Q v { s with toks := s.toks + 1 }) :
    wpAny (model prog w) A (getAttr (.ref x) name expr) Q E s := by
  obtain ⟨od, J, hl⟩ := I.look
  exact PySem.W.get_value X J (PySem.W.plainGet_of hg).1 (PySem.W.findObj_own hh ha rfl (by rw [hl, hv])) hv' h
theorem z3g {pl : Sem Bool} {Q : Value × List Value -> Shared -> Prop} (X : K.In s.heap) (I : ObjM s.heap x dx C mA) (hg : PySem.W.plainGet K C name = true)
    (hf : PySem.W.findIn K (.ref C) name = some (some (.ref f))) (ht : PySem.W.isFn K (.ref f) = true) (hv : mA name = none) (h : Q (.ref f, [.ref x]) s) :
    wpAny (model prog w) A (getMethod (.ref x) name pl) Q E s := by
  obtain ⟨od, J, hl⟩ := I.look
  exact PySem.W.method_fn X J (PySem.W.plainGet_of hg).1 (PySem.W.plainGet_of hg).2 hf (beq_iff_eq.mp ht) (by show (PySem.W.lookIn name od).map (·.isSome) = some false; rw [hl, hv]; rfl) h
theorem z46 {ns : List Str} {Q : Unit -> Shared -> Prop} (X : K.In s.heap) (I : ObjM s.heap x dx C mA)
    (hs : PySem.W.findIn K (.ref C) "__setattr__" = some (some (.builtin "object.__setattr__"))) (hp : PySem.W.plainOver K C = true) (ht : PySem.W.takerIn K C name = some none) (hh : PySem.W.hasDictIn K C = true)
    (hw : PySem.Within mA ns) (hsz : ns.length <= sizeLine)
    (h : ∀ h', ObjM h' x dx C (fun y => if y = name then some v else mA y) -> Heap.SameBut dx s.heap h' -> Q () { s with heap := h', toks := s.toks + 2 }) :
    wpAny (model prog w) A (setAttr (.ref x) name v) Q E s := by
  obtain ⟨od, J, hl⟩ := I.look
  refine PySem.W.set_plain X J hs (PySem.W.osa_open (s := { s with toks := s.toks + 1 }) (r := none) X J hp ht fun b => ?_)
  obtain ⟨cd, hc, hd'⟩ := PySem.W.any_some hh
  have hx : s.heap.get? x = some ⟨.ref C, some dx, .plain, #[]⟩ := I.obj
  refine wpAny_bind (wpAny_pure (wpAny_bind (wpAny_bind (wpAny_loadPart hx (wpAny_bind (PySem.W.Looks.here (s := { s with toks := s.toks + 1 }) (PySem.W.looks_clsIn X hc) ?_))))))
  rw [hd']
  refine wpAny_pure (a := some dx) (wpAny_bind (wpAny_pure (wpAny_bind ?_)))
  refine wpAny_nsSet1 (s := { s with toks := s.toks + 1 }) I.ns fun h' hn2 hs2 => ?_
  obtain ⟨oD, esD, epD, hoD, hdD, hcD⟩ := hn2.count (PySem.Within.cons name v hw)
  refine wpAny_bind (wpAny_lookBehind hoD (by rw [hdD]; exact pastItsLine_dict (Nat.le_trans hcD (by rw [List.length_cons]; omega))) ?_)
  exact wpAny_pure (h _ ⟨(hs2.2 _ (Ne.symm I.ne)).trans I.obj, hn2, I.ne⟩ hs2)
theorem z3h {R : Result -> Shared -> Prop} {vs : List Value} {kw : List (Str × Value)} (X : K.In s.heap) (hm : PySem.W.makesIn K C = true)
    (hi : PySem.W.findIn K (.ref C) "__init__" = some (some (.ref f))) (hf : PySem.W.typeIn K (.ref f) = some (.type "function"))
    (h : codeAny (model prog w) (A.under (.builtin "type.__call__" ⟨.ref C :: vs, kw⟩)) (.call (.ref f) ⟨.ref (s.heap.objs.size + 1) :: vs, kw⟩) (PySem.W.InitBack (s.heap.objs.size + 1) R)
      { s with heap := (s.heap.push PySem.W.emptyDict).push (PySem.W.instObj C s.heap.objs.size) }) :
    codeAny (model prog w) A (.call (.ref C) ⟨vs, kw⟩) R s := by
  obtain ⟨hh, g, d, t, os⟩ := s
  exact PySem.W.make_core (PySem.W.makes_of X hm) (PySem.W.looks_findIn X hi) (fun self => PySem.W.bind_fn X self hf) (.inl rfl) h
end
def z1j (f : Str) (v : V) : List (Str × V) -> List (Str × V)
  | [] => [(f, v)]
  | (g, x) :: r => if g = f then (g, v) :: r else (g, x) :: z1j f v r
theorem z1A (f g : Str) (v : V) : ∀ fs : List (Str × V), (z1j f v fs).lookup g = if g = f then some v else fs.lookup g
  | [] => by
    show List.lookup g [(f, v)] = _
    by_cases h : g = f
    . have hb : (g == f) = true := beq_iff_eq.mpr h
      simp only [List.lookup, hb, if_pos h]
    . have hb : (g == f) = false := beq_eq_false_iff_ne.mpr h
      simp only [List.lookup, hb, if_neg h]
  | (k, x) :: r => by
    have ih := z1A f g v r
    rw [show z1j f v ((k, x) :: r) = (if k = f then (k, v) :: r else (k, x) :: z1j f v r) from rfl]
    by_cases hk : k = f
    . rw [if_pos hk]
      by_cases h : g = k
      . have hb : (g == k) = true := beq_iff_eq.mpr h
        simp only [List.lookup, hb, if_pos (h.trans hk)]
      . have hb : (g == k) = false := beq_eq_false_iff_ne.mpr h
        simp only [List.lookup, hb, if_neg (fun e : g = f => h (e.trans hk.symm))]
    . rw [if_neg hk]
      by_cases h : g = k
      . have hb : (g == k) = true := beq_iff_eq.mpr h
        simp only [List.lookup, hb, if_neg (fun e : g = f => hk (h.symm.trans e))]
      . have hb : (g == k) = false := beq_eq_false_iff_ne.mpr h
        simp only [List.lookup, hb]
        exact ih
theorem z1B (f : Str) (v : V) : ∀ fs : List (Str × V), f ∈ (z1j f v fs).map (·.1) /\ ∀ g, g ∈ fs.map (·.1) -> g ∈ (z1j f v fs).map (·.1)
  | [] => ⟨by simp [z1j], fun g h => by simp at h⟩
  | (k, x) :: r => by
    obtain ⟨i1, i2⟩ := z1B f v r
    rw [show z1j f v ((k, x) :: r) = (if k = f then (k, v) :: r else (k, x) :: z1j f v r) from rfl]
    by_cases hk : k = f
    . rw [if_pos hk]
      subst hk
      exact ⟨by simp, fun g h => by simpa using h⟩
    . rw [if_neg hk]
      refine ⟨?_, fun g h => ?_⟩
      . rw [List.map_cons]
        exact List.mem_cons_of_mem _ i1
      . rw [List.map_cons] at h ⊢
        rcases List.mem_cons.mp h with e | e
        . exact List.mem_cons.mpr (.inl e)
        . exact List.mem_cons_of_mem _ (i2 g e)
theorem z1C (f : Str) (v : V) : ∀ fs : List (Str × V), (z1j f v fs).length <= fs.length + 1
  | [] => by simp [z1j]
  | (k, x) :: r => by
    have ih := z1C f v r
    rw [show z1j f v ((k, x) :: r) = (if k = f then (k, v) :: r else (k, x) :: z1j f v r) from rfl]
    by_cases hk : k = f
    . rw [if_pos hk, List.length_cons, List.length_cons]; omega
    . rw [if_neg hk, List.length_cons, List.length_cons]; omega
theorem RelO.some_of {v : V} {o : Option Value} (r : RelO (some v) o) : ∃ u, o = some u /\ RelV v u := by
  cases o with
  | none => exact (show False from r).elim
  | some u => exact ⟨u, rfl, r⟩
theorem RelO.none_of {o : Option Value} (r : RelO none o) : o = none := by
  cases o with
  | none => rfl
  | some u => exact (show False from r).elim
theorem z38 {v : V} {u : Value} (r : RelV v u) : PySem.W.handedIn u = true := by
  cases v with
  | non => cases (show u = Value.none from r); rfl
  | bl b => cases (show u = Value.bool b from r); rfl
  | int i => obtain ⟨t, e⟩ := (show ∃ t, u = Value.int i t from r); cases e; rfl
  | str x => obtain ⟨t, e⟩ := (show ∃ t, u = Value.str x t from r); cases e; rfl
  | byt b => obtain ⟨t, e⟩ := (show ∃ t, u = Value.bytes b t from r); cases e; rfl
  | flt b => obtain ⟨t, e⟩ := (show ∃ t, u = Value.float b t from r); cases e; rfl
  | ref a => cases (show u = Value.ref a from r); rfl
  | ty n => cases (show u = Value.type n from r); rfl
section
variable {P : Program} {w : World} {H H' : Hp} {h h' : Heap} {a C dx : Addr} {fs fs' : List (Str × V)}
theorem z1V (hok : HOk P w H h) (e : H a = some (.ins C dx fs)) : ∃ mA, ObjM h a dx C mA /\ (∀ f, RelO (fs.lookup f) (mA f)) /\ PySem.Within mA (fs.map (·.1)) /\ fs.length <= 1000 /\ H dx = some (.own a) := by
  obtain ⟨d, z, ne, ob, mA, n, r, q⟩ := (show ObjOk P w H h a (.ins C dx fs) from hok a _ e)
  exact ⟨mA, ⟨ob, n, ne⟩, r, q, z, d⟩
end
structure Cls (K : PySem.W.Frag) (C : Addr) : Prop where
  pg : PySem.W.plainGet K C Str.empty = true
  hd : PySem.W.hasDictIn K C = true
  po : PySem.W.plainOver K C = true
  sa : PySem.W.findIn K (.ref C) "__setattr__" = some (some (.builtin "object.__setattr__"))
theorem Cls.get {K : PySem.W.Frag} {C : Addr} (c : Cls K C) (f : Str) : PySem.W.plainGet K C f = true := c.pg
def NoAttr (K : PySem.W.Frag) (C : Addr) (f : Str) : Prop := PySem.W.findIn K (.ref C) f = some none
theorem NoAttr.taker {K : PySem.W.Frag} {C : Addr} {f : Str} (n : NoAttr K C f) : PySem.W.takerIn K C f = some none := by
  unfold PySem.W.takerIn
  rw [show PySem.W.findIn K (.ref C) f = some none from n]
  rfl
structure Con (K : PySem.W.Frag) (C : Addr) (f : Str) (v : V) (u : Value) : Prop where
  at_ : PySem.W.findIn K (.ref C) f = some (some u)
  rel : RelV v u
  get : PySem.W.specialIn K u "__get__" = some none
  cp : PySem.W.copiedNames.contains f = false
structure Meth (K : PySem.W.Frag) (C : Addr) (m : Str) (f : Addr) : Prop where
  at_ : PySem.W.findIn K (.ref C) m = some (some (.ref f))
  fn : PySem.W.isFn K (.ref f) = true
  kp : PySem.W.keepIn K (.ref f) = true
section
variable {X : Cx} {pins : List (Addr × Obj)} {σ : St} {H : Hp} {s : Shared} {a C dx : Addr} {fs : List (Str × V)} {f : Str} {v : V} {A : Around} {E : Value -> Shared -> Prop}
theorem z2e {b : Bool} {Q : Value -> Shared -> Prop} (I : Inv X pins σ H s) (e : H a = some (.ins C dx fs)) (c : Cls X.K C) (n : NoAttr X.K C f) (l : fs.lookup f = some v)
    (h : ∀ u s', Inv X pins σ H s' -> RelV v u -> Q u s') : wpAny (model X.prog X.w) A (getAttr (.ref a) f b) Q E s := by
  obtain ⟨mA, O, r, _, _, _⟩ := z1V I.hok e
  obtain ⟨u, hu, ru⟩ := RelO.some_of (v := v) (o := mA f) (by rw [<- l]; exact r f)
  exact z45 I.kIn O (c.get f) c.hd n hu (z38 ru) (h u _ (I.tok _) ru)
theorem z1K {m : Str} {g : Addr} {pl : Sem Bool} {Q : Value × List Value -> Shared -> Prop} (I : Inv X pins σ H s) (e : H a = some (.ins C dx fs)) (c : Cls X.K C) (k : Meth X.K C m g) (l : fs.lookup m = none)
    (h : Q (.ref g, [.ref a]) s) : wpAny (model X.prog X.w) A (getMethod (.ref a) m pl) Q E s := by
  obtain ⟨mA, O, r, _, _, _⟩ := z1V I.hok e
  have hn : mA m = none := RelO.none_of (by rw [<- l]; exact r m)
  exact z3g I.kIn O (c.get m) k.at_ k.fn hn h
theorem z2f {y : V} {u : Value} {Q : Unit -> Shared -> Prop} (I : Inv X pins σ H s) (e : H a = some (.ins C dx fs)) (c : Cls X.K C) (n : NoAttr X.K C f) (hl : fs.length < 1000) (ry : RelV y u)
    (h : ∀ s', Inv X pins σ (upd H a (.ins C dx (z1j f y fs))) s' -> Q () s') : wpAny (model X.prog X.w) A (setAttr (.ref a) f u) Q E s := by
  obtain ⟨mA, O, r, wi, _, ho⟩ := z1V I.hok e
  have hz : (fs.map (·.1)).length <= sizeLine := by rw [List.length_map, sizeLine_eq]; omega
  refine z46 I.kIn O c.sa c.po n.taker c.hd wi hz fun h' O' sb => h _ ?_
  have hd : ∃ o, h'.get? dx = some o := let ⟨o, _, _, e', _⟩ := O'.ns; ⟨o, e'⟩
  refine I.write (x := a) (e := dx) (by rw [e]; exact True.intro) (.inr ho) (fun b q hb z => (sb.2 b hb).trans z) hd ?_
  refine ⟨by rw [z04 O.ne]; exact ho, ?_, O.ne, O'.obj, _, O'.ns, fun g => ?_, fun g hg => ?_⟩
  . have := z1C f y fs; omega
  . show RelO ((z1j f y fs).lookup g) (if g = f then some u else mA g)
    rw [z1A]
    by_cases q : g = f
    . rw [if_pos q, if_pos q]; exact ry
    . rw [if_neg q, if_neg q]; exact r g
  . by_cases q : g = f
    . rw [q]; exact (z1B f y fs).1
    . refine (z1B f y fs).2 g (wi g fun z => hg ?_)
      show (if g = f then some u else mA g) = none
      rw [if_neg q]; exact z
theorem Inv.made (I : Inv X pins σ H s) : Inv X pins σ (upd (upd H s.heap.objs.size (.own (s.heap.objs.size + 1))) (s.heap.objs.size + 1) (.ins C s.heap.objs.size []))
    { s with heap := (s.heap.push PySem.W.emptyDict).push (PySem.W.instObj C s.heap.objs.size) } := by
  have e1 : (s.heap.push PySem.W.emptyDict).get? s.heap.objs.size = some PySem.W.emptyDict := Heap.get?_push_size s.heap rfl
  have e2 : ((s.heap.push PySem.W.emptyDict).push (PySem.W.instObj C s.heap.objs.size)).get? (s.heap.objs.size + 1) = some (PySem.W.instObj C s.heap.objs.size) := by
    have := Heap.get?_push_size (s.heap.push PySem.W.emptyDict) (o := PySem.W.instObj C s.heap.objs.size) rfl
    rwa [Heap.size_push] at this
  have e3 : (s.heap.push PySem.W.emptyDict).Ns s.heap.objs.size (fun _ => none) := ⟨PySem.W.emptyDict, #[], _, e1, rfl, (fun e he => absurd he (by simp)), fun _ => rfl⟩
  have I1 := I.laid (a := s.heap.objs.size) (o := .own (s.heap.objs.size + 1)) (h' := s.heap.push PySem.W.emptyDict) (t' := s.toks) (fun b u q => Heap.get?_push_of_some _ q) (Nat.le_refl _) ⟨_, e1⟩
  refine I1.laid (a := s.heap.objs.size + 1) (o := .ins C s.heap.objs.size []) (t' := s.toks) (fun b u q => Heap.get?_push_of_some _ q) (Nat.le_of_eq (Heap.size_push _ _)) ?_
  have ne : s.heap.objs.size ≠ s.heap.objs.size + 1 := Nat.ne_of_lt (Nat.lt_succ_self _)
  refine ⟨by rw [z04 ne, z01], Nat.zero_le _, ne, e2, fun _ => none, (Heap.Ns1.of_empty e3).at fun o q => Heap.get?_push_of_some _ q, fun _ => True.intro, fun y hy => absurd rfl hy⟩
theorem z47 {prog : Program} {w : World} {env : Env} {e : Expr} {f : Str} {pos : Pos} {s : Shared} {Q : Value -> Shared -> Prop} (hb : attributeBase e f env (eval e env) = eval e env)
    (h : wpAny (model prog w) A (eval e env) (fun o s₁ => wpAny (model prog w) A (getAttr o f true) Q E s₁) E s) : wpAny (model prog w) A (eval (.Attribute e f pos) env) Q E s :=
  Attribute_any_ h (by rw [arm_eval_Attribute, hb])
end
def z7Q (K : PySem.W.Frag) (ta : TE) (f : Str) : TE := fun σ H Q => ta σ H fun x H1 => ∃ a C dx fs v, x = .ref a /\ H1 a = some (.ins C dx fs) /\ Cls K C /\ NoAttr K C f /\ fs.lookup f = some v /\ Q v H1
def z8G (K : PySem.W.Frag) (ta : TE) (f : Str) : TE := fun σ H Q => ta σ H fun x H1 => ∃ a C dx fs v u, x = .ref a /\ H1 a = some (.ins C dx fs) /\ Cls K C /\ Con K C f v u /\ fs.lookup f = none /\ Q v H1
def z7R (K : PySem.W.Frag) (ta tv : TE) (f : Str) : TS := fun D σ H => tv σ H fun y H1 => ta σ H1 fun x H2 => ∃ a C dx fs, x = .ref a /\ H2 a = some (.ins C dx fs) /\ Cls K C /\ NoAttr K C f /\ fs.length < 1000 /\
  D.nx σ (upd H2 a (.ins C dx (z1j f y fs)))
def z8H (X : Cx) (op : Operator) (rd : V -> V -> Hp -> VK -> Prop) : Prop :=
  ∀ (pins : List (Addr × Obj)) (s : Shared) (σ : St) (H : Hp) (x y : V) (u v : Value) (Q : VK), Inv X pins σ H s -> RelV x u -> RelV y v -> rd x y H Q -> wpAny (model X.prog X.w) X.A (inplaceOp op u v) (EP X pins σ Q) X.xe s
def z5d (K : PySem.W.Frag) (ta tv : TE) (rd : V -> V -> Hp -> VK -> Prop) (f : Str) : TS := fun D σ H => ta σ H fun x H1 => ∃ a C dx fs v, x = .ref a /\ H1 a = some (.ins C dx fs) /\ Cls K C /\ NoAttr K C f /\ fs.lookup f = some v /\
  tv σ H1 fun y H2 => rd v y H2 fun z H3 => ∃ dx' fs', H3 a = some (.ins C dx' fs') /\ fs'.length < 1000 /\ D.nx σ (upd H3 a (.ins C dx' (z1j f z fs')))
section
variable {X : Cx} {o e value : Expr} {f : Str} {pos pos' tpos : Pos} {ta tv : TE}
theorem z0o (he : PE X e ta) (hb : attributeBase e f X.env (eval e X.env) = eval e X.env) : PE X (.Attribute e f pos) (z7Q X.K ta f) := by
  intro pins s σ H Q I h
  refine z47 hb (thn (he pins s σ H _ I h) fun u s1 ⟨x, H1, I1, rx, a, C, dx, fs, v, ex, ea, c, n, l, q⟩ => ?_)
  subst ex
  obtain rfl : u = Value.ref a := rx
  exact z2e I1 ea c n l fun u' s2 I2 ru => ⟨v, H1, I2, ru, q⟩
theorem z10 (ha : PE X o ta) (hv : PE X value tv) (hs : swapsWith value (some (.Attribute o f pos')) pos.line X.env = pure false) : PS X (.Assign [.Attribute o f pos'] value pos) (z7R X.K ta tv f) := by
  intro pins s σ H D I h
  refine plainObj_wpAny_Assign_Attribute (thn (hv pins s σ H _ I h) fun u s1 ⟨y, H1, I1, ry, q⟩ => thn (ha pins s1 σ H1 _ I1 q) fun ov s2 ⟨x, H2, I2, rx, a, C, dx, fs, ex, ea, c, n, l, q2⟩ => ?_) hs
  subst ex
  obtain rfl : ov = Value.ref a := rx
  exact z2f I2 ea c n l ry fun s3 I3 => ⟨σ, _, I3, q2⟩
def z8I : V -> V -> Hp -> VK -> Prop := fun x y H Q => ∃ i j, x = .int i /\ y = .int j /\ Q (.int (i + j)) H
def z8J : V -> V -> Hp -> VK -> Prop := fun x y H Q => ∃ i j, x = .int i /\ y = .int j /\ Q (.int (i - j)) H
end
section
variable {X : Cx} {pins : List (Addr × Obj)} {σ : St} {H : Hp} {s : Shared} {A : Around} {E : Value -> Shared -> Prop} {Q : Value -> Shared -> Prop} {c : Value} {b : Bool}
inductive TyOf (K : PySem.W.Frag) (H : Hp) : V -> Value -> Prop where
  | non : TyOf K H .non (.type "NoneType")
  | bl (x : Bool) : TyOf K H (.bl x) (.type "bool")
  | int (i : Int) : TyOf K H (.int i) (.type "int")
  | str (x : Str) : TyOf K H (.str x) (.type "str")
  | flt (x : UInt64) : TyOf K H (.flt x) (.type "float")
  | lst {a : Addr} {xs : List V} (e : H a = some (.lst xs)) : TyOf K H (.ref a) (.type "list")
  | frz {a : Addr} {o : Obj} {xs : List V} (e : H a = some (.frz o (.lst xs))) : TyOf K H (.ref a) (.type "list")
  | tup {a : Addr} {xs : List V} (e : H a = some (.tup xs)) : TyOf K H (.ref a) (.type "tuple")
  | dK {a : Addr} {kvs : List (Key × V)} (e : H a = some (.dK kvs)) : TyOf K H (.ref a) (.type "dict")
  | dT {a : Addr} {kvs : List (List Key × V)} (e : H a = some (.dT kvs)) : TyOf K H (.ref a) (.type "dict")
  | ins {a C dx : Addr} {fs : List (Str × V)} (e : H a = some (.ins C dx fs)) (cl : Cls K C) (ha : PySem.W.findIn K (.ref C) "__class__" = some (some (.builtin "object.__class__")))
      (hn : PySem.W.specialIn K (.builtin "object.__class__") "__get__" = some (some (.builtin "getset_descriptor.__get__"))) (htk : PySem.W.takesIn K (.builtin "object.__class__") = some true)
      (hm : PySem.W.mroIn K C (.type "object") = some true) : TyOf K H (.ref a) (.ref C)
theorem z39 {x : V} {u t : Value} (I : Inv X pins σ H s) (rx : RelV x u) (ty : TyOf X.K H x t) (e : PySem.W.kitOne X.K t c = some b) (h : ∀ tk, Q (.bool b) { s with toks := tk }) :
    wpAny (model X.prog X.w) A (call (.builtin "isinstance") [u, c]) Q E s := by
  cases ty with
  | non => cases (show u = Value.none from rx); exact PySem.W.kia_one PySem.W.kitx_none I.kIn True.intro e (fun z => nomatch z) h
  | bl y => cases (show u = Value.bool y from rx); exact PySem.W.kia_one PySem.W.kitx_bool I.kIn True.intro e (fun z => nomatch z) h
  | int i => obtain ⟨t, q⟩ := (show ∃ t, u = Value.int i t from rx); cases q; exact PySem.W.kia_one PySem.W.kitx_int I.kIn True.intro e (fun z => nomatch z) h
  | str y => obtain ⟨t, q⟩ := (show ∃ t, u = Value.str y t from rx); cases q; exact PySem.W.kia_one PySem.W.kitx_str I.kIn True.intro e (fun z => nomatch z) h
  | flt y => obtain ⟨t, q⟩ := (show ∃ t, u = Value.float y t from rx); cases q; exact PySem.W.kia_one PySem.W.kitx_float I.kIn True.intro e (fun z => nomatch z) h
  | @lst a xs ea =>
    cases (show u = Value.ref a from rx)
    obtain ⟨_, _, n, _, h1⟩ := (show ObjOk X.prog X.w H s.heap a (.lst xs) from I.hok a _ ea)
    exact PySem.W.kia_one PySem.W.kitx_list I.kIn ⟨_, h1, rfl⟩ e (fun z => nomatch z) h
  | @frz a ob xs ea =>
    cases (show u = Value.ref a from rx)
    obtain ⟨_, _, _, n, _, h1⟩ := (show ObjOk X.prog X.w H s.heap a (.frz ob (.lst xs)) from I.hok a _ ea)
    exact PySem.W.kia_one PySem.W.kitx_list I.kIn ⟨_, h1, rfl⟩ e (fun z => nomatch z) h
  | @tup a xs ea =>
    cases (show u = Value.ref a from rx)
    obtain ⟨_, _, _, p⟩ := (show ObjOk X.prog X.w H s.heap a (.tup xs) from I.hok a _ ea)
    obtain ⟨o, h1, h2, _⟩ := p
    exact PySem.W.kia_one PySem.W.kitx_tuple I.kIn ⟨o, h1, h2⟩ e (fun z => nomatch z) h
  | @dK a kvs ea =>
    cases (show u = Value.ref a from rx)
    obtain ⟨_, _, vs, _, p⟩ := (show ObjOk X.prog X.w H s.heap a (.dK kvs) from I.hok a _ ea)
    obtain ⟨o, es, ep, h1, h2, _⟩ := p
    exact PySem.W.kia_one PySem.W.kitx_dict I.kIn ⟨o, h1, h2.1⟩ e (fun z => nomatch z) h
  | @dT a kvs ea =>
    cases (show u = Value.ref a from rx)
    obtain ⟨_, _, xs, _, o, es, ep, h1, h2, _⟩ := (show ObjOk X.prog X.w H s.heap a (.dT kvs) from I.hok a _ ea)
    exact PySem.W.kia_one PySem.W.kitx_dict I.kIn ⟨o, h1, h2.1⟩ e (fun z => nomatch z) h
  | @ins a C dx fs ea cl ha hn htk hm =>
    cases (show u = Value.ref a from rx)
    obtain ⟨mA, O, _⟩ := z1V I.hok ea
    obtain ⟨od, J, _⟩ := O.look
    exact PySem.W.kia_one (PySem.W.kitx_own (cl.get _) cl.hd ha hn htk hm) I.kIn J e (fun z => nomatch z) h
end
structure Room (k : Nat) (A : Around) : Prop where
  hd : A.handled = none
  dp : A.depth + 3 * k + 5 < recursionLimit
  un : A.units + 16 * k + 200 < cLine
theorem Room.mono {j k : Nat} {A : Around} (r : Room k A) (h : j <= k) : Room j A := ⟨r.hd, by have := r.dp; omega, by have := r.un; omega⟩
theorem Room.deeper {k : Nat} {A : Around} (r : Room (k + 1) A) (env : Env) : Room k (A.deeper env) :=
  ⟨r.hd, by have := r.dp; show A.depth + 1 + 3 * k + 5 < _; omega, by have := r.un; show A.units + 3 + 16 * k + 200 < _; omega⟩
theorem Room.in1 {k : Nat} {A : Around} (r : Room (k + 1) A) : Room k A.in1 :=
  ⟨r.hd, by have := r.dp; show A.depth + 3 * k + 5 < _; omega, by have := r.un; show A.units + 1 + 16 * k + 200 < _; omega⟩
theorem z2g {A : Around} {C : Addr} {us : List Value} {kw : List (Str × Value)} : (A.under (.builtin "type.__call__" ⟨.ref C :: us, kw⟩)).depth = A.depth + 1 := by
  first | rfl | simp [Around.under, Code.weight, Code.isCreation, Code.isGuard, Code.isCaller, Code.frames, Code.isFrame, guardIds]
theorem z2h {A : Around} {C : Addr} {us : List Value} {kw : List (Str × Value)} : (A.under (.builtin "type.__call__" ⟨.ref C :: us, kw⟩)).units = A.units + 1 := by
  first | rfl | simp [Around.under, Code.cUnits, Code.frames, Code.isFrame]
theorem Room.make {k : Nat} {A : Around} (r : Room (k + 1) A) (C : Addr) (us : List Value) (kw : List (Str × Value)) : Room k (A.under (.builtin "type.__call__" ⟨.ref C :: us, kw⟩)) :=
  ⟨r.hd, by have := r.dp; rw [z2g]; omega, by have := r.un; rw [z2h]; omega⟩
theorem Room.depth {k : Nat} {A : Around} (r : Room k A) : A.depth < recursionLimit := by have := r.dp; omega
theorem Room.units {k : Nat} {A : Around} (r : Room k A) : A.units + 64 < cLine := by have := r.un; omega
def z5e : TA := fun _ H Q => Q [] H
def z5f (ta : TE) (tr : TA) : TA := fun σ H Q => ta σ H fun x H1 => tr σ H1 fun xs H2 => Q (x :: xs) H2
section
variable {X : Cx} {e : Expr} {es : List Expr} {te : TE} {t : TA} {pos : Pos}
theorem z03 : PA X [] z5e := fun _ _ _ _ H Q I h => Calls.spliced_nil ⟨[], H, I, .nil, h⟩
theorem z00 (ha : PE X e te) (hr : PA X es t) (hs : starEach (e :: es) X.env = (false, eval e X.env) :: starEach es X.env := by rfl) : PA X (e :: es) (z5f te t) := by
  intro pos pins s σ H Q I h
  rw [hs]
  show wpAny _ _ (spliced ((false, eval e X.env) :: backTo pos (starEach es X.env))) _ _ s
  refine Calls.spliced_cons (thn (ha pins s σ H _ I h) fun u s1 ⟨x, H1, I1, r1, q1⟩ => ?_)
  exact thn (hr pos pins s1 σ H1 _ I1 q1) fun us s2 ⟨xs, H2, I2, r2, q2⟩ => ⟨x :: xs, H2, I2, .cons r1 r2, q2⟩
def z7S (t : TA) : TE := fun σ H Q => t σ H fun xs H1 => xs.length <= sizeLine /\ ∀ p, H1 p = none -> Q (.ref p) (upd H1 p (.tup xs))
def z7T (t : TA) : TE := fun σ H Q => t σ H fun xs H1 => xs.length <= sizeLine /\ ∀ p, H1 p = none -> Q (.ref p) (upd H1 p (.lst xs))
theorem z1L {x1} (h : PA X es t) : PE X (.Tuple es x1 pos) (z7S t) := by
  intro pins s σ H Q I hq
  refine wpAny_Tuple_spliced (thn (h pos pins s σ H _ I hq) fun us s1 ⟨xs, H1, I1, r, z, q⟩ => ⟨by rw [<- r.length]; exact z, ?_⟩)
  have hf : H1 s1.heap.objs.size = none := I1.hok.fresh (Nat.le_refl _)
  refine ⟨.ref s1.heap.objs.size, upd H1 s1.heap.objs.size (.tup xs), I1.laid (t' := s1.toks) (fun b u e => Heap.get?_push_of_some _ e) (Nat.le_refl _) ?_, rfl, q _ hf⟩
  exact ⟨z, us, r, ⟨_, Heap.get?_push_size _ rfl, rfl, _, rfl⟩⟩
theorem z1M (h : PA X es t) : PE X (.List es pos) (z7T t) := by
  intro pins s σ H Q I hq
  refine wpAny_List_spliced (thn (h pos pins s σ H _ I hq) fun us s1 ⟨xs, H1, I1, r, z, q⟩ => ⟨by rw [<- r.length]; exact z, ?_⟩)
  have hf : H1 s1.heap.objs.size = none := I1.hok.fresh (Nat.le_refl _)
  refine ⟨.ref s1.heap.objs.size, upd H1 s1.heap.objs.size (.lst xs), I1.laid (t' := s1.toks) (fun b u e => Heap.get?_push_of_some _ e) (Nat.le_refl _) ?_, rfl, q _ hf⟩
  exact ⟨z, us, 0, r, Heap.get?_push_size _ rfl⟩
end
abbrev Sp := List V -> Hp -> VK -> XK -> Prop
abbrev CXT := List Env -> Hp -> Shared -> XK -> Value -> Shared -> Prop
structure Env0 (P : Program) (w : World) (K : PySem.W.Frag) (mg : Str -> Option Value) (base : Heap) (A : Around) (outer : List Env) (s : Shared) (H : Hp) : Prop where
  frames : A.frames = some outer
  mod : Mod K mg base
  bs : ∀ b o, base.get? b = some o -> s.heap.get? b = some o /\ H b = none
  bsz : base.objs.size <= s.heap.objs.size
  funs : s.heap.FunFrames base outer
  frf : ∀ b ∈ frs outer, H b = none
  hok : HOk P w H s.heap
  bare : AllBare s.gens
def CE (outer : List Env) (P : Program) (w : World) (H : Hp) (s : Shared) (Q : VK) (u : Value) (s' : Shared) : Prop :=
  ∃ v H', s'.os = s.os /\ AllBare s'.gens /\ Un (frs outer) [] H H' s.heap s'.heap /\ HOk P w H' s'.heap /\ RelV v u /\ Q v H'
def CR (CX : CXT) (outer : List Env) (P : Program) (w : World) (H : Hp) (s : Shared) (Q : VK) (E : XK) (r : Result) (s' : Shared) : Prop :=
  match r with
  | .ok (.ret u) => CE outer P w H s Q u s'
  | .ok _ => False
  | .error e => CX outer H s E e s'
structure FnOk (P : Program) (w : World) (K : PySem.W.Frag) (mg : Str -> Option Value) (base : Heap) (CX : CXT) (k : Nat) (f : Addr) (fd : FuncData) (ps : List Str) (sp : Sp) : Prop where
  len : ∀ vs H Q E, sp vs H Q E -> vs.length = ps.length
  run : ∀ (A : Around) (outer : List Env) (s : Shared) (H : Hp) (args : Args) (us : List Value) (vs : List V) (Q : VK) (E : XK), Room k A -> Env0 P w K mg base A outer s H -> BindsTo s fd args (ps.zip us) -> Vals vs us -> sp vs H Q E ->
    codeAny (model P w) A (.call (.ref f) args) (CR CX outer P w H s Q E) s
theorem FnOk.mono {P : Program} {w : World} {K : PySem.W.Frag} {mg : Str -> Option Value} {base : Heap} {CX : CXT} {j k : Nat} {f : Addr} {fd : FuncData} {ps : List Str} {sp : Sp} (F : FnOk P w K mg base CX j f fd ps sp) (h : j <= k) :
    FnOk P w K mg base CX k f fd ps sp := ⟨F.len, fun A outer s H args us vs Q E hr => F.run A outer s H args us vs Q E (hr.mono h)⟩
theorem FnOk.imp {P : Program} {w : World} {K : PySem.W.Frag} {mg : Str -> Option Value} {base : Heap} {CX : CXT} {k : Nat} {f : Addr} {fd : FuncData} {ps : List Str} {sp sp' : Sp} (F : FnOk P w K mg base CX k f fd ps sp)
    (h : ∀ vs H Q E, sp' vs H Q E -> sp vs H Q E) : FnOk P w K mg base CX k f fd ps sp' :=
  ⟨fun vs H Q E q => F.len vs H Q E (h _ _ _ _ q), fun A outer s H args us vs Q E hr he hb hv hs => F.run A outer s H args us vs Q E hr he hb hv (h _ _ _ _ hs)⟩
theorem Env0.make {P : Program} {w : World} {K : PySem.W.Frag} {mg : Str -> Option Value} {base : Heap} {A : Around} {outer : List Env} {s : Shared} {H : Hp} (e : Env0 P w K mg base A outer s H) (C : Addr) (us : List Value) (kw : List (Str × Value)) :
    Env0 P w K mg base (A.under (.builtin "type.__call__" ⟨.ref C :: us, kw⟩)) outer s H := ⟨by first | exact e.frames | (simpa [Around.under, Code.envs, Code.isFrame, pushEnvs] using e.frames), e.mod, e.bs, e.bsz, e.funs, e.frf, e.hok, e.bare⟩
theorem Env0.in1 {P : Program} {w : World} {K : PySem.W.Frag} {mg : Str -> Option Value} {base : Heap} {A : Around} {outer : List Env} {s : Shared} {H : Hp} (e : Env0 P w K mg base A outer s H) :
    Env0 P w K mg base A.in1 outer s H := ⟨e.frames, e.mod, e.bs, e.bsz, e.funs, e.frf, e.hok, e.bare⟩
section
variable {X : Cx} {pins : List (Addr × Obj)} {σ : St} {H : Hp} {s s' : Shared}
theorem Inv.env0 (I : Inv X pins σ H s) : Env0 X.prog X.w X.K X.mg X.base X.A X.stack s H :=
  ⟨I.ok.frames, I.ok.mod, I.bs, Nat.le_trans I.ok.bsz I.sz, I.stack, I.stkFree, I.hok, I.bare⟩
theorem Inv.after {Q : VK} {u : Value} (I : Inv X pins σ H s) (h : CE X.stack X.prog X.w H s Q u s') : EP X pins σ Q u s' := by
  obtain ⟨v, H', os, bare, un, hok, r, q⟩ := h
  obtain ⟨hh, g, d, t, os'⟩ := s'
  obtain rfl : os' = s.os := os
  exact ⟨v, H', I.call (h' := hh) (g' := g) (d' := d) (t' := t) (ch := []) un hok bare (fun b z => absurd z (by simp)), r, q⟩
end
def z4k (sp : Sp) (dvs : List V) (E : XK) (t : TA) : TE := fun σ H Q => t σ H fun vs H1 => sp (vs ++ dvs) H1 Q E
def z3i (C : Addr) (m : Str) (sp : Sp) (dvs : List V) (E : XK) (ta : TE) (t : TA) : TE := fun σ H Q => ta σ H fun x H1 => ∃ a dx fs, x = .ref a /\ H1 a = some (.ins C dx fs) /\ fs.lookup m = none /\
  t σ H1 fun vs H2 => sp (x :: (vs ++ dvs)) H2 Q E
def z4l (C : Addr) (sp : Sp) (dvs : List V) (E : XK) (t : TA) : TE := fun σ H Q => t σ H fun vs H1 => ∀ x dx, H1 x = none -> H1 dx = none -> dx ≠ x ->
  sp (.ref x :: (vs ++ dvs)) (upd (upd H1 dx (.own x)) x (.ins C dx [])) (fun v H2 => v = .non /\ Q (.ref x) H2) E
def Binds (K : PySem.W.Frag) (fd : FuncData) (ps : List Str) (ds : List Value) : Prop :=
  ∀ (s : Shared) (us : List Value), K.In s.heap -> (us ++ ds).length = ps.length -> BindsTo s fd ⟨us, []⟩ (ps.zip (us ++ ds))
theorem Binds.all {K : PySem.W.Frag} {fd : FuncData} {ps : List Str} (h : ∀ us : List Value, us.length = ps.length -> bindArgs fd ⟨us, []⟩ = pure (ps.zip us)) : Binds K fd ps [] := fun s us _ hl => by
  rw [List.append_nil] at hl ⊢
  exact .of_eq (h us hl)
def z0p (CX : CXT) (X : Cx) (E : XK) : Prop := ∀ (pins : List (Addr × Obj)) (σ : St) (H : Hp) (s : Shared) (e : Value) (s' : Shared), Inv X pins σ H s -> CX X.stack H s E e s' -> X.xe e s'
section
variable {X : Cx} {CX : CXT} {k : Nat} {f C : Addr} {fd : FuncData} {ps : List Str} {sp : Sp} {dvs : List V} {ds : List Value} {E : XK} {x m : Str} {p pos apos : Pos} {e o : Expr} {es : List Expr} {ta : TE} {t : TA}
theorem z3A {pins : List (Addr × Obj)} {σ : St} {H : Hp} {s : Shared} {Q : VK} {us : List Value} {vs : List V} (F : FnOk X.prog X.w X.K X.mg X.base CX k f fd ps sp) (hr : Room k X.A) (hb : Binds X.K fd ps ds) (hd : Vals dvs ds) (hx : z0p CX X E)
    (I : Inv X pins σ H s) (r : Vals vs us) (h : sp (vs ++ dvs) H Q E) : wpAny (model X.prog X.w) X.A (call (.ref f) us) (EP X pins σ Q) X.xe s := by
  have r2 : Vals (vs ++ dvs) (us ++ ds) := r.append hd
  have hl : (us ++ ds).length = ps.length := by rw [<- r2.length]; exact F.len _ _ _ _ h
  refine wpAny_call (codeAny_mono (F.run X.A X.stack s H ⟨us, []⟩ (us ++ ds) (vs ++ dvs) Q E hr I.env0 (hb s us I.kIn hl) r2 h) fun r s' hq => ?_)
  cases r with
  | error e => exact hx pins σ H s e s' I hq
  | ok fl =>
    cases fl with
    | ret u => exact I.after hq
    | next => exact False.elim hq
    | brk => exact False.elim hq
    | cont => exact False.elim hq
theorem z48 (F : FnOk X.prog X.w X.K X.mg X.base CX k f fd ps sp) (hr : Room k X.A) (hg : Gl X x) (hm : X.mg x = some (.ref f)) (hk : PySem.W.keepIn X.K (.ref f) = true) (hb : Binds X.K fd ps ds) (hd : Vals dvs ds) (hx : z0p CX X E)
    (ha : PA X (e :: es) t) (hdb : (x == ("__debug__" : Str)) = false := by decide) (he : starEach (e :: es) X.env = (false, eval e X.env) :: starEach es X.env := by rfl) (hpl : (backTo pos (starEach es X.env)).any (·.1) = false := by rfl) :
    PE X (.Call (.Name x p) (e :: es) [] pos) (z4k sp dvs E t) := by
  intro pins s σ H Q I h
  refine wpAny_Call_Name_kw (z2C I hg hm ?_ hdb)
  refine PySem.W.callWith_K (h₀ := X.base) I.ok.mod.kin hk (thn (ha pos pins s σ H _ I h) fun us s1 ⟨vs, H1, I1, r, q⟩ => ⟨I1.kIn, ?_⟩) he hpl
  exact z3A F hr hb hd hx I1 r q
theorem z49 {pl : Sem Bool} (he : PE X o ta) (c : Cls X.K C) (hm : Meth X.K C m f) (F : FnOk X.prog X.w X.K X.mg X.base CX k f fd ps sp) (hr : Room k X.A) (hb : Binds X.K fd ps ds) (hd : Vals dvs ds) (hx : z0p CX X E) (ha : PA X (e :: es) t)
    (hst : starEach (e :: es) X.env = (false, eval e X.env) :: starEach es X.env := by rfl) (hpl : (backTo pos (starEach es X.env)).any (·.1) = false := by rfl)
    (ht : eval (.Call (.Attribute o m apos) (e :: es) [] pos) X.env = (do
      let ov <- eval o X.env
      standAt apos.atName
      let (f, first) <- holding [ov] (getMethod ov m pl)
      callWith pos f first (backTo pos (starEach (e :: es) X.env)) (backToKw pos (keywordEach [] X.env))) := by rfl) :
    PE X (.Call (.Attribute o m apos) (e :: es) [] pos) (z3i C m sp dvs E ta t) := by
  intro pins s σ H Q I h
  refine PySem.W.methodCall_KW (pl := pl) (thn (he pins s σ H _ I h) fun u s1 ⟨x, H1, I1, rx, a, dx, fs, ex, ea, l, q⟩ => ?_) ht
  subst ex
  obtain rfl : u = Value.ref a := rx
  refine z1K I1 ea c hm l ?_
  refine PySem.W.callWith_K (first := [.ref a]) (h₀ := X.base) I.ok.mod.kin hm.kp (thn (ha pos pins s1 σ H1 _ I1 q) fun us s2 ⟨vs, H2, I2, r, q2⟩ => ⟨I2.kIn, ?_⟩) hst hpl
  exact z3A (us := .ref a :: us) (vs := .ref a :: vs) F hr hb hd hx I2 (.cons rfl r) q2
theorem z3j {pl : Sem Bool} (he : PE X o ta) (c : Cls X.K C) (hm : Meth X.K C m f) (F : FnOk X.prog X.w X.K X.mg X.base CX k f fd ps sp) (hr : Room k X.A) (hb : Binds X.K fd ps ds) (hd : Vals dvs ds) (hx : z0p CX X E)
    (ht : eval (.Call (.Attribute o m apos) [] [] pos) X.env = (do
      let ov <- eval o X.env
      standAt apos.atName
      let (f, first) <- holding [ov] (getMethod ov m pl)
      callWith pos f first (backTo pos (starEach [] X.env)) (backToKw pos (keywordEach [] X.env))) := by rfl) :
    PE X (.Call (.Attribute o m apos) [] [] pos) (z3i C m sp dvs E ta z5e) := by
  intro pins s σ H Q I h
  refine PySem.W.methodCall_KW (pl := pl) (thn (he pins s σ H _ I h) fun u s1 ⟨x, H1, I1, rx, a, dx, fs, ex, ea, l, q⟩ => ?_) ht
  subst ex
  obtain rfl : u = Value.ref a := rx
  refine z1K I1 ea c hm l ?_
  exact PySem.W.callWith_K0 (first := [.ref a]) I1.kIn hm.kp (z3A (us := [.ref a]) (vs := [.ref a]) F hr hb hd hx I1 (.cons rfl .nil) q)
structure Mk (K : PySem.W.Frag) (C f : Addr) : Prop where
  makes : PySem.W.makesIn K C = true
  init : PySem.W.findIn K (.ref C) "__init__" = some (some (.ref f))
  fn : PySem.W.isFn K (.ref f) = true
  kp : PySem.W.keepIn K (.ref C) = true
theorem z3k {pins : List (Addr × Obj)} {σ : St} {H : Hp} {s : Shared} {Q : VK} {us : List Value} {vs : List V} (M : Mk X.K C f) (F : FnOk X.prog X.w X.K X.mg X.base CX k f fd ps sp) (hr : Room (k + 1) X.A) (hb : Binds X.K fd ps ds) (hd : Vals dvs ds)
    (hx : z0p CX X E) (I : Inv X pins σ H s) (r : Vals vs us)
    (h : ∀ x dx, H x = none -> H dx = none -> dx ≠ x -> sp (.ref x :: (vs ++ dvs)) (upd (upd H dx (.own x)) x (.ins C dx [])) (fun v H2 => v = .non /\ Q (.ref x) H2) E) :
    wpAny (model X.prog X.w) X.A (call (.ref C) us) (EP X pins σ Q) X.xe s := by
  have hq := h (s.heap.objs.size + 1) s.heap.objs.size (I.hok.fresh (Nat.le_succ _)) (I.hok.fresh (Nat.le_refl _)) (Nat.ne_of_lt (Nat.lt_succ_self _))
  have I2 := Inv.made (C := C) I
  have r2 : Vals (V.ref (s.heap.objs.size + 1) :: (vs ++ dvs)) (Value.ref (s.heap.objs.size + 1) :: (us ++ ds)) := .cons rfl (r.append hd)
  have hl : (Value.ref (s.heap.objs.size + 1) :: us ++ ds).length = ps.length := by
    have e := r2.length
    rw [F.len _ _ _ _ hq] at e
    exact e.symm
  refine wpAny_call (z3h (f := f) I.kIn M.makes M.init (beq_iff_eq.mp M.fn) (codeAny_mono (F.run _ X.stack _ _ ⟨Value.ref (s.heap.objs.size + 1) :: us, []⟩ (Value.ref (s.heap.objs.size + 1) :: (us ++ ds)) _ _ E (hr.make C us [])
    (I2.env0.make C us []) (hb _ (Value.ref (s.heap.objs.size + 1) :: us) I2.kIn hl) r2 hq) fun r s' hq' => ?_))
  cases r with
  | error e => exact hx pins σ _ _ e s' I2 hq'
  | ok fl =>
    cases fl with
    | ret u =>
      obtain ⟨v, H', I3, rv, ev, q3⟩ := I2.after hq'
      subst ev
      exact ⟨rv, ⟨V.ref (s.heap.objs.size + 1), H', I3, rfl, q3⟩⟩
    | next => exact False.elim hq'
    | brk => exact False.elim hq'
    | cont => exact False.elim hq'
theorem z4A (M : Mk X.K C f) (F : FnOk X.prog X.w X.K X.mg X.base CX k f fd ps sp) (hr : Room (k + 1) X.A) (hg : Gl X x) (hm : X.mg x = some (.ref C)) (hb : Binds X.K fd ps ds) (hd : Vals dvs ds) (hx : z0p CX X E)
    (ha : PA X (e :: es) t) (hdb : (x == ("__debug__" : Str)) = false := by decide) (he : starEach (e :: es) X.env = (false, eval e X.env) :: starEach es X.env := by rfl) (hpl : (backTo pos (starEach es X.env)).any (·.1) = false := by rfl) :
    PE X (.Call (.Name x p) (e :: es) [] pos) (z4l C sp dvs E t) := by
  intro pins s σ H Q I h
  refine wpAny_Call_Name_kw (z2C I hg hm ?_ hdb)
  refine PySem.W.callWith_K (h₀ := X.base) I.ok.mod.kin M.kp (thn (ha pos pins s σ H _ I h) fun us s1 ⟨vs, H1, I1, r, q⟩ => ⟨I1.kIn, ?_⟩) he hpl
  exact z3k M F hr hb hd hx I1 r q
end
def PK (X : Cx) (kws : List Keyword) (t : TA) : Prop :=
  ∀ (pos : Pos) (pins : List (Addr × Obj)) (s : Shared) (σ : St) (H : Hp) (Q : List V -> Hp -> Prop), Inv X pins σ H s -> t σ H Q -> wpAny (model X.prog X.w) X.A (evalAll ((backToKw pos (keywordEach kws X.env)).map (·.2))) (AP X pins σ Q) X.xe s
section
variable {X : Cx} {CX : CXT} {k : Nat} {f C : Addr} {fd : FuncData} {ps ks : List Str} {sp : Sp} {E : XK} {x m : Str} {p pos apos kpos : Pos} {e o : Expr} {es : List Expr} {kws : List Keyword} {te ta : TE} {t tk : TA} {nm : Option Str}
structure KBinds (K : PySem.W.Frag) (fd : FuncData) (ps ks : List Str) (g : List Value -> List Value -> List Value) (gV : List V -> List V -> List V) : Prop where
  to : ∀ (s : Shared) (us ws : List Value), K.In s.heap -> (g us ws).length = ps.length -> BindsTo s fd ⟨us, ks.zip ws⟩ (ps.zip (g us ws))
  rel : ∀ {vs : List V} {us : List Value} {zs : List V} {ws : List Value}, Vals vs us -> Vals zs ws -> Vals (gV vs zs) (g us ws)
def z6P (sp : Sp) (gV : List V -> List V -> List V) (E : XK) (t tk : TA) : TE := fun σ H Q => t σ H fun vs H1 => tk σ H1 fun zs H2 => sp (gV vs zs) H2 Q E
variable {g : List Value -> List Value -> List Value} {gV : List V -> List V -> List V}
end
structure FnScope (N P : List Str) (sc : Scope) : Prop where
  kind : sc.kind = .function
  co : sc.isCoroutine = false
  gen : sc.isGenerator = false
  nd : N.Nodup
  pre : N.take P.length = P
  par : ∀ x ∈ P, sc.names.lookup x = some .local \/ sc.names.lookup x = some .cell
  nofree : ∀ y ∈ sc.names, y.2 ≠ .free
theorem z1q {kindOf : Str -> Option NameKind} {x : Str} : ∀ {binds : List (Str × Value)} {m : Str -> Option Value}, (∀ v, (x, v) ∉ binds) -> bindL kindOf binds m x = m x
  | [], _, _ => rfl
  | (n, v) :: r, m, h => by
    unfold bindL
    rw [z1q fun w hw => h w (List.mem_cons_of_mem _ hw)]
    split
    . have : x ≠ n := by rintro rfl; exact h v List.mem_cons_self
      simp [this]
    . rfl
theorem z1r {kindOf : Str -> Option NameKind} {x : Str} : ∀ {binds : List (Str × Value)} {m : Str -> Option Value}, (∀ v, (x, v) ∉ binds) -> bindC kindOf binds m x = m x
  | [], _, _ => rfl
  | (n, v) :: r, m, h => by
    unfold bindC
    rw [z1r fun w hw => h w (List.mem_cons_of_mem _ hw)]
    split
    . rfl
    . have : x ≠ n := by rintro rfl; exact h v List.mem_cons_self
      simp [this]
theorem z1s {kindOf : Str -> Option NameKind} {x : Str} {v : Value} : ∀ {P : List Str} {vs : List Value} {i : Nat} {m : Str -> Option Value}, P.Nodup -> P[i]? = some x -> vs[i]? = some v -> kindOf x = some .local ->
    bindL kindOf (P.zip vs) m x = some v
  | [], _, _, _, _, h, _, _ => by simp at h
  | _ :: _, [], _, _, _, _, h, _ => by simp at h
  | p :: P, w :: vs, 0, m, nd, h1, h2, hk => by
    simp at h1 h2; subst h1; subst h2
    show bindL kindOf ((p, w) :: P.zip vs) m p = _
    unfold bindL
    rw [z1q fun v hv => (List.nodup_cons.mp nd).1 (List.of_mem_zip hv).1, if_pos hk]
    simp
  | p :: P, w :: vs, i + 1, m, nd, h1, h2, hk => by
    show bindL kindOf ((p, w) :: P.zip vs) m x = _
    unfold bindL
    exact z1s (i := i) (List.nodup_cons.mp nd).2 (by simpa using h1) (by simpa using h2) hk
theorem z1t {kindOf : Str -> Option NameKind} {x : Str} {v : Value} : ∀ {P : List Str} {vs : List Value} {i : Nat} {m : Str -> Option Value}, P.Nodup -> P[i]? = some x -> vs[i]? = some v -> kindOf x ≠ some .local ->
    bindC kindOf (P.zip vs) m x = some v
  | [], _, _, _, _, h, _, _ => by simp at h
  | _ :: _, [], _, _, _, _, h, _ => by simp at h
  | p :: P, w :: vs, 0, m, nd, h1, h2, hk => by
    simp at h1 h2; subst h1; subst h2
    show bindC kindOf ((p, w) :: P.zip vs) m p = _
    unfold bindC
    rw [z1r fun v hv => (List.nodup_cons.mp nd).1 (List.of_mem_zip hv).1, if_neg hk]
    simp
  | p :: P, w :: vs, i + 1, m, nd, h1, h2, hk => by
    show bindC kindOf ((p, w) :: P.zip vs) m x = _
    unfold bindC
    exact z1t (i := i) (List.nodup_cons.mp nd).2 (by simpa using h1) (by simpa using h2) hk
def start (N : List Str) (vs : List V) : St := vs.map some ++ List.replicate (N.length - vs.length) none
def z4B (CX : CXT) (P : Program) (w : World) (K : PySem.W.Frag) (mg : Str -> Option Value) (base : Heap) (N : List Str) (qual : Str) (scope : Scope) (f : Addr) (cd : Value) (A : Around) (outer : List Env) (s : Shared) (H : Hp) (E : XK) : Cx where
  prog := P
  w := w
  K := K
  mg := mg
  base := base
  A := A.deeper (envOfC qual scope s.heap.objs.size f cd)
  N := N
  s₀ := s
  H₀ := H
  env := envOfC qual scope s.heap.objs.size f cd
  outer := outer
  stack := envOfC qual scope s.heap.objs.size f cd :: outer
  ex := []
  calm := true
  fn := fun _ => true
  pn := []
  xe := fun e s' => wpAny (model P w) (A.deeper (envOfC qual scope s.heap.objs.size f cd)) (leaving (envOfC qual scope s.heap.objs.size f cd) e) (fun _ s'' => CX outer H s E e s'') (fun e' s'' => CX outer H s E e' s'') s'
theorem z2X {sc : Scope} {n : Nat} {x : Str} (h : sc.names.lookup x = some .cell) : ∃ c, (cellsFrom n sc.names []).lookup x = some c := by
  have q := PySem.W.cellsFrom_some sc.names n [] (.inl h)
  exact Option.isSome_iff_exists.mp q
theorem z3B {CX : CXT} {P : Program} {w : World} {K : PySem.W.Frag} {mg : Str -> Option Value} {base : Heap} {N ps : List Str} {qual : Str} {scope : Scope} {f : Addr} {cd : Value} {A : Around} {outer : List Env} {s s1 : Shared} {H : Hp} {E : XK} {us : List Value} {vs : List V}
    (S : FnScope N ps scope) (hd : A.handled = none) (e0 : Env0 P w K mg base A outer s H) (hl : vs.length = ps.length) (r : Vals vs us)
    (x : InCallC s s.heap.objs.size (bindL (envOfC qual scope s.heap.objs.size f cd).kindOf (ps.zip us) fun _ => none) (cellsFrom (s.heap.objs.size + 1) scope.names []) (bindC (envOfC qual scope s.heap.objs.size f cd).kindOf (ps.zip us) fun _ => none) s1) :
    Inv (z4B CX P w K mg base N qual scope f cd A outer s H E) [] (start N vs) H s1 := by
  have hpl : ps.length <= N.length := by have := congrArg List.length S.pre; rw [List.length_take] at this; omega
  obtain ⟨h1, tk, rfl, hk⟩ := x.done
  have noA : ∀ b : Addr, b ∉ (z4B CX P w K mg base N qual scope f cd A outer s H E).ex := fun b z => absurd (show b ∈ ([] : List Addr) from z) (by simp)
  refine ⟨⟨e0.mod, S.kind, rfl, rfl, Nat.le_refl _, fun y z c h1 h2 => ?_, fun y hy => ?_, fun y c _ h => ?_, fun _ => hd, Around.frames_deeper e0.frames, .inr ⟨rfl, rfl⟩, fun b z => absurd z (noA b), e0.bs, e0.bsz, fun b _ _ => noA b, fun b z => absurd z (noA b), e0.funs, e0.frf⟩,
    rfl, e0.bare, Un.kept hk, ⟨_, x.toInCall.ns, fun i y v h1 h2 h3 => ?_⟩, fun y c h => ⟨_, x.cell y c h⟩, e0.hok.fresh (Nat.le_refl _), fun y c h => ?_, fun p hp => absurd (show p ∈ ([] : List (Addr × Obj)) from hp) (by simp), e0.hok.kept hk, ?_⟩
  . exact name_of_addr x.apart (PySem.mem_of_lookup h1) (PySem.mem_of_lookup h2)
  . have hy : scope.names.lookup y = some .cell \/ scope.names.lookup y = some .free := hy
    rcases hy with hy | hy
    . exact z2X hy
    . exact absurd rfl (S.nofree _ (PySem.mem_of_lookup hy))
  . exact Nat.le_of_lt (x.above y c (PySem.mem_of_lookup h))
  . have hi : i < vs.length := by
      unfold start at h2
      by_cases hi : i < vs.length
      . exact hi
      . rw [List.getElem?_append_right (by simpa using hi)] at h2
        rw [List.getElem?_replicate] at h2
        split at h2 <;> cases h2
    have ha : vs[i]? = some v := by
      unfold start at h2
      rw [List.getElem?_append_left (by simpa using hi), List.getElem?_map] at h2
      cases e : vs[i]? with
      | none => rw [e] at h2; cases h2
      | some a => rw [e] at h2; cases h2; rfl
    obtain ⟨u, hu, rv⟩ := r.get ha
    have hp : ps[i]? = some y := by
      rw [<- S.pre, List.getElem?_take_of_lt (by omega)]; exact h1
    have ndP : ps.Nodup := by rw [<- S.pre]; exact S.nd.sublist (List.take_sublist _ _)
    refine ⟨u, rv, ?_⟩
    rcases S.par y (List.mem_of_getElem? hp) with k | k
    . exact .inl ⟨k, z1s ndP hp hu k⟩
    . obtain ⟨c, e⟩ := z2X (n := s.heap.objs.size + 1) k
      refine .inr ⟨.inl k, c, e, ?_⟩
      have q := x.cell y c e
      rw [z1t ndP hp hu (by show scope.names.lookup y ≠ _; rw [k]; decide)] at q
      exact q
  . exact e0.hok.fresh (Nat.le_of_lt (x.above y c (PySem.mem_of_lookup h)))
  . unfold start
    show _ = N.length
    rw [List.length_append, List.length_map, List.length_replicate]
    omega
theorem z4m {CX : CXT} {P : Program} {w : World} {K : PySem.W.Frag} {mg : Str -> Option Value} {base : Heap} {k : Nat} {f : Addr} {name qual : Str} {params : Arguments} {body : List Stmt} {scope : Scope} {dV kV doc pm cdv ct oc : Value} {an od : Option Addr}
    {osl : Array (Option Value)} {N ps : List Str} {sp : Sp} (lk : K.lookup f = some ⟨oc, od, .func (PySem.W.fnOf name qual params body scope dV kV doc pm an cdv ct), osl⟩) (hcd : PySem.W.codeIn K cdv qual = true) (S : FnScope N ps scope)
    (len : ∀ vs H Q E, sp vs H Q E -> vs.length = ps.length)
    (hbody : ∀ (A : Around) (outer : List Env) (s : Shared) (H : Hp) (vs : List V) (Q : VK) (E : XK), Room k (A.deeper (envOfC qual scope s.heap.objs.size f cdv)) -> sp vs H Q E ->
      ∃ t, PSs (z4B CX P w K mg base N qual scope f cdv A outer s H E) body t /\ t { nx := fun _ H' => Q .non H', rt := Q } (start N vs) H) :
    FnOk P w K mg base CX (k + 1) f (PySem.W.fnOf name qual params body scope dV kV doc pm an cdv ct) ps sp := by
  refine ⟨len, fun A outer s H args us vs Q E hr e0 hb r hsp => ?_⟩
  have hl := len _ _ _ _ hsp
  have KX : K.In s.heap := e0.mod.kin.keeps fun b o e => (e0.bs b o e).1
  have lim : s.heap.NoLimit := e0.mod.nolimit.keeps fun b o e => (e0.bs b o e).1
  have hkind : ∀ y ∈ ps.zip us, scope.names.lookup y.1 = some .local \/ (scope.names.lookup y.1 = some .cell /\ ((cellsFrom (s.heap.objs.size + 1) scope.names []).lookup y.1).isSome = true) := fun ⟨n, v⟩ hy => by
    rcases S.par n (List.of_mem_zip hy).1 with q | q
    . exact .inl q
    . exact .inr ⟨q, PySem.W.cellsFrom_some _ _ _ (.inl q)⟩
  refine codeAny_call_function hr.depth (KX _ _ lk) rfl S.co S.gen rfl (PySem.W.codeRec_of KX hcd) (hb _ _ _ _ ?_)
  refine wpAny_newFunctionEnv_cells S.kind hkind fun env he s1 x => ?_
  subst he
  refine ⟨lim.keeps x.toInCall.keep, codeAny_func ?_⟩
  obtain ⟨t, ht, hq⟩ := hbody A outer s H vs Q E (hr.deeper _) hsp
  have I : Inv (z4B CX P w K mg base N qual scope f cdv A outer s H E) [] (start N vs) H s1 := z3B S hr.hd e0 hl r x
  refine wpAny_mono (ht [] s1 (start N vs) H _ I hq) (fun fl s' hs => ?_) fun e s' hs => hs
  have fin : ∀ {σ' : St} {H' : Hp} {v : V} {u : Value}, Inv (z4B CX P w K mg base N qual scope f cdv A outer s H E) [] σ' H' s' -> RelV v u -> Q v H' -> CE outer P w H s Q u s' :=
    fun {σ' H' v u} J rv q => ⟨v, H', J.os, J.bare, J.base, J.hok, rv, q⟩
  cases fl with
  | ret u =>
    obtain ⟨v, σ', H', J, rv, q⟩ := hs
    exact fin J rv q
  | next =>
    obtain ⟨σ', H', J, q⟩ := hs
    exact fin (v := V.non) (u := Value.none) J rfl q
  | brk =>
    obtain ⟨_, _, _, q⟩ := hs
    exact False.elim q
  | cont =>
    obtain ⟨_, _, _, q⟩ := hs
    exact False.elim q
section
variable {X : Cx} {x : Str} {p pos : Pos} {e : Expr} {es : List Expr} {t : TA} {id T : String} {r : List V -> Hp -> VK -> Prop}
def tCB (r : List V -> Hp -> VK -> Prop) (t : TA) : TE := fun σ H Q => t σ H fun vs H1 => r vs H1 Q
theorem z08 (hc : CallR X (.builtin id) r) (hg : Gl X x) (hm : X.mg x = none) (hv : bootBuiltins x = some (.builtin id)) (ha : PA X (e :: es) t) (hn : x ≠ "__name__" := by decide) (hdb : (x == ("__debug__" : Str)) = false := by decide)
    (he : starEach (e :: es) X.env = (false, eval e X.env) :: starEach es X.env := by rfl) (hpl : (backTo pos (starEach es X.env)).any (·.1) = false := by rfl) : PE X (.Call (.Name x p) (e :: es) [] pos) (tCB r t) := by
  intro pins s σ H Q I h
  refine wpAny_Call_Name_kw (z1l I hg hm hv ?_ hn hdb)
  exact PyProof.Rows.callWith_builtin1 (thn (ha pos pins s σ H _ I h) fun us s1 ⟨vs, H1, I1, r1, q1⟩ => hc pins s1 σ H1 vs us Q I1 r1 q1) he hpl
theorem z1u (hc : CallR X (.type T) r) (hg : Gl X x) (hm : X.mg x = none) (hv : bootBuiltins x = some (.type T)) (ha : PA X (e :: es) t) (hn : x ≠ "__name__" := by decide) (hdb : (x == ("__debug__" : Str)) = false := by decide)
    (he : starEach (e :: es) X.env = (false, eval e X.env) :: starEach es X.env := by rfl) (hpl : (backTo pos (starEach es X.env)).any (·.1) = false := by rfl) : PE X (.Call (.Name x p) (e :: es) [] pos) (tCB r t) := by
  intro pins s σ H Q I h
  refine wpAny_Call_Name_kw (z1l I hg hm hv ?_ hn hdb)
  exact PyProof.Rows.callWith_type1 (thn (ha pos pins s σ H _ I h) fun us s1 ⟨vs, H1, I1, r1, q1⟩ => hc pins s1 σ H1 vs us Q I1 r1 q1) he hpl
end
end L2
namespace HT
open PySem PyProof.Rows
def lexLt : List Int -> List Int -> Bool
  | [], [] => false
  | [], _ :: _ => true
  | _ :: _, [] => false
  | x :: xs, y :: ys => if x = y then lexLt xs ys else decide (x < y)
section
open PySem.SeqAt
open PySem.AutoSeq1 (wpAny_loadPart')
open PySem.MeetsSeq PySem.MeetsSeq2 PySem.MeetsSeq3
end
section
variable {prog : Program} {w : World} {A : Around} {E : Value -> Shared -> Prop} {s : Shared}
def sIx (n d : Nat) : Option Int -> Nat
  | none => d
  | some v => if v < 0 then (v + (n : Int)).toNat else min v.toNat n
theorem sIx_nat (n d k : Nat) : sIx n d (some (k : Int)) = min k n := by
  show (if (k : Int) < 0 then ((k : Int) + (n : Int)).toNat else min (k : Int).toNat n) = min k n
  rw [if_neg (by omega), Int.toNat_natCast]
end
end HT
namespace L2
open PySem PySem.Spec PyProof.Rows
abbrev TO := St -> Hp -> (Option Int -> Hp -> Prop) -> Prop
def PO (X : Cx) (e : Option Expr) (t : TO) : Prop :=
  ∀ (pins : List (Addr × Obj)) (s : Shared) (σ : St) (H : Hp) (Q : Option Int -> Hp -> Prop), Inv X pins σ H s -> t σ H Q ->
    wpAny (model X.prog X.w) X.A (evalPart e X.env) (fun u s' => ∃ o H', Inv X pins σ H' s' /\ IsPart u o /\ Q o H') X.xe s
def z4C : TO := fun _ H Q => Q none H
def z5g (t : TE) : TO := fun σ H Q => t σ H fun x H1 => ∃ i, x = .int i /\ Q (some i) H1
section
variable {X : Cx} {e : Expr} {te : TE} {lo hi : Option Expr} {tl th : TO} {pos p2 : Pos}
theorem z3C : PO X none z4C := by
  intro pins s σ H Q I h
  rw [evalPart_none]
  exact wpAny_pure ⟨none, H, I, .none, h⟩
theorem z1W (h : PE X e te) : PO X (some e) (z5g te) := by
  intro pins s σ H Q I hw
  rw [evalPart_some]
  refine thn (h pins s σ H _ I hw) fun u s1 ⟨x, H1, I1, r1, q1⟩ => ?_
  obtain ⟨i, rfl, q⟩ := q1
  obtain ⟨t, rfl⟩ := r1
  exact ⟨some i, H1, I1, .int i t, q⟩
def SlR (X : Cx) (r : V -> Option Int -> Option Int -> Hp -> VK -> Prop) : Prop :=
  ∀ (pins : List (Addr × Obj)) (s : Shared) (σ : St) (H : Hp) (x : V) (v vl vu : Value) (lo hi : Option Int) (sl : Addr) (Q : VK), Inv X pins σ H s -> RelV x v -> s.heap.IsSliceOf sl vl vu .none -> IsPart vl lo -> IsPart vu hi -> r x lo hi H Q ->
    ∃ T id, typeLookup (.type T) "__getitem__" = pure (some (.builtin id)) /\ s.TypeIs v T /\ wpAny (model X.prog X.w) X.A (getItem v (.ref sl)) (EP X pins σ Q) X.xe s
theorem SlR.or {r r' : V -> Option Int -> Option Int -> Hp -> VK -> Prop} (h : SlR X r) (h' : SlR X r') : SlR X (fun x lo hi H Q => r x lo hi H Q \/ r' x lo hi H Q) := by
  intro pins s σ H x v vl vu lo hi sl Q I rx hs pl pu q
  rcases q with q | q
  . exact h pins s σ H x v vl vu lo hi sl Q I rx hs pl pu q
  . exact h' pins s σ H x v vl vu lo hi sl Q I rx hs pl pu q
def tSl (r : V -> Option Int -> Option Int -> Hp -> VK -> Prop) (te : TE) (tl th : TO) : TE := fun σ H Q => te σ H fun x H1 => tl σ H1 fun l H2 => th σ H2 fun u H3 => r x l u H3 Q
theorem z1X {r : V -> Option Int -> Option Int -> Hp -> VK -> Prop} (hr : SlR X r) (he : PE X e te) (hl : PO X lo tl) (hu : PO X hi th) : PE X (.Subscript e (.Slice lo hi none p2) pos) (tSl r te tl th) := by
  intro pins s σ H Q I h
  refine Subscript_ (thn (he pins s σ H _ I h) fun v s1 ⟨x, H1, I1, r1, q1⟩ => ?_)
  refine wpAny_Slice (thn (hl pins s1 σ H1 _ I1 q1) fun vl s2 ⟨l, H2, I2, pl, q2⟩ => thn (hu pins s2 σ H2 _ I2 q2) fun vu s3 ⟨u, H3, I3, pu, q3⟩ => ?_)
  rw [evalPart_none]
  refine wpAny_pure ?_
  have I4 : Inv X pins σ H3 { s3 with heap := s3.heap.push { cls := .type "slice", data := .fields #[vl, vu, .none] } } := I3.kept (t' := s3.toks) fun b ob q => Heap.get?_push_of_some _ q
  obtain ⟨T, id, hT, ht, hg⟩ := hr pins { s3 with heap := s3.heap.push { cls := .type "slice", data := .fields #[vl, vu, .none] } } σ H3 x v vl vu l u s3.heap.objs.size Q I4 r1 (Heap.IsSliceOf.new ..) pl pu q3
  show wpAny (model X.prog X.w) X.A (subscriptTail e (.Slice lo hi none p2) v (.ref s3.heap.objs.size)) (EP X pins σ Q) X.xe { s3 with heap := s3.heap.push { cls := .type "slice", data := .fields #[vl, vu, .none] } }
  exact tail_any (ops := [.ref s3.heap.objs.size, v]) ht hT hg (by with_unfolding_all rfl)
def z2i (xs : List V) (lo hi : Option Int) : List V := (xs.drop (HT.sIx xs.length 0 lo)).take (HT.sIx xs.length xs.length hi - HT.sIx xs.length 0 lo)
theorem z1D (xs : List V) (lo hi : Option Int) : (z2i xs lo hi).length <= xs.length := by
  unfold z2i
  rw [List.length_take, List.length_drop]
  omega
def z8K (K : PySem.W.Frag) : V -> Option Int -> Option Int -> Hp -> VK -> Prop := fun x lo hi H Q => ∃ a xs, x = .ref a /\ SqT K H a xs /\
  ¬ (HT.sIx xs.length 0 lo = 0 /\ HT.sIx xs.length xs.length hi = xs.length) /\ ∀ p, H p = none -> Q (.ref p) (upd H p (.tup (z2i xs lo hi)))
def z8L (K : PySem.W.Frag) : R2 := fun x y H Q => ∃ a b ns ms, x = .ref a /\ y = .ref b /\ SqT K H a (ns.map V.int) /\ SqT K H b (ms.map V.int) /\ Q (.bl (HT.lexLt ns ms)) H
def z7U (K : PySem.W.Frag) : R2 := fun x y H Q => ∃ a b xs ys, x = .ref a /\ y = .ref b /\ SqT K H a xs /\ SqT K H b ys /\ xs ≠ [] /\ xs.length + ys.length <= sizeLine /\
  (ys = [] -> Q (.ref a) H) /\ (ys ≠ [] -> ∀ p, H p = none -> Q (.ref p) (upd H p (.tup (xs ++ ys))))
end
def ixN (n : Nat) (i : Int) : Option Nat := if 0 <= i then (if i < n then some i.toNat else none) else if -(n : Int) <= i then some (i + n).toNat else none
def atI {α : Type} (xs : List α) (i : Int) : Option α := (ixN xs.length i).bind fun j => xs[j]?
theorem z3D {n : Nat} {i : Int} {j : Nat} (h : ixN n i = some j) : seqIndex? i n = some j /\ j < n /\ -(n : Int) <= i /\ i < n := by
  unfold ixN at h
  by_cases h0 : 0 <= i
  . rw [if_pos h0] at h
    by_cases h1 : i < n
    . rw [if_pos h1] at h
      have e : i.toNat = j := Option.some.inj h
      exact ⟨by rw [seqIndex_of h0 h1, e], by omega, by omega, h1⟩
    . rw [if_neg h1] at h; cases h
  . rw [if_neg h0] at h
    by_cases h1 : -(n : Int) <= i
    . rw [if_pos h1] at h
      have e : (i + n).toNat = j := Option.some.inj h
      exact ⟨by rw [seqIndex_neg (by omega) h1, e], by omega, h1, by omega⟩
    . rw [if_neg h1] at h; cases h
theorem z3E {α : Type} {xs : List α} {i : Int} {v : α} (h : atI xs i = some v) : ∃ j, seqIndex? i xs.length = some j /\ xs[j]? = some v /\ j < xs.length /\ -(xs.length : Int) <= i /\ i < xs.length := by
  unfold atI at h
  cases e : ixN xs.length i with
  | none => rw [e] at h; cases h
  | some j =>
    rw [e] at h
    obtain ⟨h1, h2, h3, h4⟩ := z3D e
    exact ⟨j, h1, h, h2, h3, h4⟩
theorem z0j {α : Type} {xs : List α} {j : Nat} {v : α} (h : xs[j]? = some v) : atI xs (j : Int) = some v := by
  have hj : j < xs.length := (List.getElem?_eq_some_iff.mp h).1
  have e : ixN xs.length (j : Int) = some j := by
    unfold ixN
    rw [if_pos (by omega), if_pos (by omega)]; simp
  unfold atI; rw [e]; exact h
def z4D (b : Expr) : Prop := ∀ o i, subscripted b false o i = operate [o, i] (getItem o i)
def IxR (X : Cx) (r : R2) : Prop :=
  ∀ (value slice : Expr) (pins : List (Addr × Obj)) (s : Shared) (σ : St) (H : Hp) (x y : V) (v u : Value) (Q : VK), Inv X pins σ H s -> RelV x v -> RelV y u -> r x y H Q ->
    subscripted slice false v u = operate [v, u] (getItem v u) -> wpAny (model X.prog X.w) X.A (subscriptTail value slice v u) (EP X pins σ Q) X.xe s
def MtR (X : Cx) (id : String) (r : V -> List V -> Hp -> VK -> Prop) : Prop :=
  ∀ (pins : List (Addr × Obj)) (s : Shared) (σ : St) (H : Hp) (x : V) (xs : List V) (v : Value) (us : List Value) (Q : VK), Inv X pins σ H s -> RelV x v -> Vals xs us -> r x xs H Q ->
    wpAny (model X.prog X.w) X.A (call (.builtin id) (v :: us)) (EP X pins σ Q) X.xe s
section
variable {X : Cx} {a b : Expr} {ta tb : TE} {pos : Pos}
theorem IxR.or {r r' : R2} (h : IxR X r) (h' : IxR X r') : IxR X (fun x y H Q => r x y H Q \/ r' x y H Q) := by
  intro value slice pins s σ H x y v u Q I rx ry q hs
  rcases q with q | q
  . exact h value slice pins s σ H x y v u Q I rx ry q hs
  . exact h' value slice pins s σ H x y v u Q I rx ry q hs
theorem MtR.or {id : String} {r r' : V -> List V -> Hp -> VK -> Prop} (h : MtR X id r) (h' : MtR X id r') : MtR X id (fun x xs H Q => r x xs H Q \/ r' x xs H Q) := by
  intro pins s σ H x xs v us Q I rx rs q
  rcases q with q | q
  . exact h pins s σ H x xs v us Q I rx rs q
  . exact h' pins s σ H x xs v us Q I rx rs q
theorem z1v {r : R2} (hr : IxR X r) (ha : PE X a ta) (hb : PE X b tb) (hs : z4D b) : PE X (.Subscript a b pos) (tOp r ta tb) := by
  intro pins s σ H Q I h
  exact Subscript_ (z5b ha hb I h fun v u s2 x y H2 I2 rx ry q => hr a b pins s2 σ H2 x y v u Q I2 rx ry q (hs _ _))
def z6Q (K : PySem.W.Frag) : R2 := fun x y H Q => ∃ p xs i v, x = .ref p /\ y = .int i /\ SqL K H p xs /\ atI xs i = some v /\ Q v H
def z6R (K : PySem.W.Frag) : R2 := fun x y H Q => ∃ p xs i v, x = .ref p /\ y = .int i /\ SqT K H p xs /\ atI xs i = some v /\ Q v H
def z7V : R2 := fun x y H Q => ∃ z i c, x = .str z /\ y = .int i /\ z.length <= sizeLine /\ atI z.cps.toList i = some c /\ Q (.str ⟨#[c]⟩) H
theorem z0t : IxR X (z6Q X.K) := by
  intro value slice pins s σ H x y v u Q I rx ry h hs
  obtain ⟨p, xs, i, z, rfl, rfl, hq, he, q⟩ := h
  cases rx
  obtain ⟨t, rfl⟩ := ry
  obtain ⟨its, r, pl, hz⟩ := I.list hq
  obtain ⟨j, h1, h2, h3, h4, h5⟩ := z3E he
  obtain ⟨w, ew, rw'⟩ := r.get h2
  have hl := r.length
  have hn := z2W
  have fin : EP X pins σ Q w s := ⟨z, H, I, rw', q⟩
  by_cases h0 : 0 <= i
  . have hj : i.toNat = j := by
      rw [seqIndex_of h0 h5] at h1
      exact Option.some.inj h1
    exact item_listR pl.isList h0 (by omega) (by rw [hj]; simpa using ew) fin hs
  . have hj : (i + (its.toArray.size : Int)).toNat = j := by
      rw [seqIndex_neg (by omega) h4] at h1
      rw [List.size_toArray, <- hl]
      exact Option.some.inj h1
    exact subscriptTail_builtinR (x := w) pl.isList.typeIs slot_list_getitem.lookup
      (wpAny_getItem_list_neg (Q := fun r s' => r = w /\ EP X pins σ Q r s') pl.isList (by omega) (by rw [List.size_toArray] <;> omega) (by omega) (by rw [hj]; simpa using ew) ⟨rfl, fin⟩) hs
theorem z4n : IxR X (z6R X.K) := by
  intro value slice pins s σ H x y v u Q I rx ry h hs
  obtain ⟨p, xs, i, z, rfl, rfl, hq, he, q⟩ := h
  cases rx
  obtain ⟨t, rfl⟩ := ry
  obtain ⟨its, r, pl, hz⟩ := I.tuple hq
  obtain ⟨j, h1, h2, h3, h4, h5⟩ := z3E he
  obtain ⟨w, ew, rw'⟩ := r.get h2
  have hl := r.length
  have hn := z2W
  have fin : EP X pins σ Q w s := ⟨z, H, I, rw', q⟩
  exact subscriptTail_builtinR (x := w) pl.typeIs slot_tuple_getitem.lookup
    (getItem_tuple (j := j) (Q := fun r s' => r = w /\ EP X pins σ Q r s') pl (by omega) (by omega) (by rw [List.size_toArray, <- hl]; exact h1) (by simpa using ew) ⟨rfl, fin⟩) hs
def rIx (K : PySem.W.Frag) : R2 := fun x y H Q => z6Q K x y H Q \/ z6R K x y H Q \/ z7V x y H Q
theorem z2j (its : List Value) (n j : Nat) (u : Value) : Obj.mapSeq (·.setIfInBounds j u) { cls := .type "list", data := .seq its.toArray n } = { cls := .type "list", data := .seq (its.set j u).toArray n } := by
  simp [Obj.mapSeq]
theorem Inv.lst {pins : List (Addr × Obj)} {σ : St} {H : Hp} {s : Shared} {p : Addr} {xs : List V} (I : Inv X pins σ H s) (h : H p = some (.lst xs)) :
    ∃ (its : List Value) (n : Nat), Vals xs its /\ s.heap.get? p = some { cls := .type "list", data := .seq its.toArray n } /\ xs.length <= sizeLine := by
  obtain ⟨z, its, n, r, e⟩ := I.hok p _ h
  exact ⟨its, n, r, e, z⟩
theorem Inv.lstUpd {pins : List (Addr × Obj)} {σ : St} {H : Hp} {s : Shared} {p : Addr} {xs ys : List V} {its its' : List Value} {n n' : Nat} {f : Obj -> Obj} (I : Inv X pins σ H s) (h : H p = some (.lst xs))
    (ho : s.heap.get? p = some { cls := .type "list", data := .seq its.toArray n }) (hf : f { cls := .type "list", data := .seq its.toArray n } = { cls := .type "list", data := .seq its'.toArray n' }) (r : Vals ys its') (hz : ys.length <= sizeLine) (t : Nat) :
    Inv X pins σ (upd H p (.lst ys)) { s with heap := s.heap.update p f, toks := t } := by
  have e : (s.heap.update p f).get? p = some { cls := .type "list", data := .seq its'.toArray n' } := by
    rw [Heap.get?_update_self f ho (by rw [hf] <;> rfl), hf]
  refine I.write (x := p) (e := p) (by rw [h]; trivial) (.inl rfl) (fun b u hb q => (Heap.get?_update_other _ _ (Ne.symm hb)).trans q) ⟨_, e⟩ ?_
  exact ⟨hz, its', n', r, e⟩
def z5h : V -> V -> V -> Hp -> (Hp -> Prop) -> Prop := fun o i v H Q => ∃ p xs k j, o = .ref p /\ i = .int k /\ H p = some (.lst xs) /\ ixN xs.length k = some j /\ Q (upd H p (.lst (xs.set j v)))
theorem set_list : z6J X z5h := by
  intro pins s σ H o i v ov iv u Q I ro ri rv h
  obtain ⟨p, xs, k, j, rfl, rfl, hp, hj, q⟩ := h
  cases ro
  obtain ⟨t, rfl⟩ := ri
  obtain ⟨its, n, r, ho, hz⟩ := I.lst hp
  obtain ⟨h1, h2, h3, h4⟩ := z3D hj
  have hl := r.length
  have hn := z2W
  have I' : Inv X pins σ (upd H p (.lst (xs.set j v))) { s with heap := s.heap.update p (Obj.mapSeq (·.setIfInBounds j u)) } :=
    I.lstUpd hp ho (z2j its n j u) (r.set rv j) (by rw [List.length_set]; exact hz) s.toks
  by_cases h0 : 0 <= k
  . have hk : k.toNat = j := by
      rw [seqIndex_of h0 h4] at h1
      exact Option.some.inj h1
    exact PySem.W.ki_setAt ho h0 (by omega) (by rw [List.size_toArray, <- hl]; exact h4) (by rw [hk]; exact ⟨_, I', q⟩)
  . have hk : (k + (its.toArray.size : Int)).toNat = j := by
      rw [seqIndex_neg (by omega) h3] at h1
      rw [List.size_toArray, <- hl]
      exact Option.some.inj h1
    exact PySem.W.ki_setBack ho (by omega) (by rw [List.size_toArray, <- hl]; exact h3) (by omega) (by rw [hk]; exact ⟨_, I', q⟩)
theorem z1w (lo hi : Option Int) (n : Nat) : (sliceBounds lo hi none n).1 = ((HT.sIx n 0 lo : Nat) : Int) /\ (sliceBounds lo hi none n).2.1 = ((HT.sIx n n hi : Nat) : Int) /\ (sliceBounds lo hi none n).2.2 = 1 := by
  refine ⟨?_, ?_, rfl⟩
  . cases lo with
    | none => simp [sliceBounds, HT.sIx]
    | some i =>
      simp only [sliceBounds, HT.sIx, Option.getD_none, show (1 : Int) > 0 by decide, if_true]
      by_cases h : i < 0
      . simp only [h, if_true] <;> omega
      . simp only [h, if_false] <;> omega
  . cases hi with
    | none => simp [sliceBounds, HT.sIx]
    | some i =>
      simp only [sliceBounds, HT.sIx, Option.getD_none, show (1 : Int) > 0 by decide, if_true]
      by_cases h : i < 0
      . simp only [h, if_true] <;> omega
      . simp only [h, if_false] <;> omega
theorem z1Y (its : List Value) (lo hi : Option Int) : slicePick its.toArray lo hi none = ((its.drop (HT.sIx its.length 0 lo)).take (HT.sIx its.length its.length hi - HT.sIx its.length 0 lo)).toArray := by
  obtain ⟨h1, h2, h3⟩ := z1w lo hi its.toArray.size
  unfold slicePick
  rw [h1, h2, h3]
  simp only [sliceRange_one, pick_run, List.size_toArray] <;> rfl
def z7W (K : PySem.W.Frag) : V -> Option Int -> Option Int -> Hp -> VK -> Prop := fun x lo hi H Q => ∃ a xs, x = .ref a /\ SqL K H a xs /\ ∀ p, H p = none -> Q (.ref p) (upd H p (.lst (z2i xs lo hi)))
theorem z2D : SlR X (z7W X.K) := by
  intro pins s σ H x v vl vu lo hi sl Q I rx hs pl pu h
  obtain ⟨a, xs, rfl, hx, q⟩ := h
  cases rx
  obtain ⟨its, r, ht, hz⟩ := I.list hx
  have hlen := r.length
  refine ⟨"list", _, slot_list_getitem.lookup, ht.isList.typeIs, ?_⟩
  refine wpAny_getItem_list_slice ht.isList hs pl pu .none (by simp) ?_ (by rw [List.size_toArray] <;> omega)
  rw [z1Y, <- hlen]
  refine ⟨.ref s.heap.objs.size, _, I.laid (t' := s.toks) (o := .lst (z2i xs lo hi)) (fun b ob q => Heap.get?_push_of_some _ q) (Nat.le_refl _) ?_, rfl, q _ (I.hok.fresh (Nat.le_refl _))⟩
  exact ⟨Nat.le_trans (z1D xs lo hi) hz, _, 0, (r.drop (HT.sIx xs.length 0 lo)).take (HT.sIx xs.length xs.length hi - HT.sIx xs.length 0 lo), Heap.get?_push_size _ rfl⟩
def z4o : V -> Bool
  | .non => true
  | .bl _ => true
  | .int _ => true
  | .str _ => true
  | _ => false
def eqV : V -> V -> Bool
  | .non, .non => true
  | .bl a, .bl b => a == b
  | .bl a, .int b => (if a then 1 else 0) == b
  | .int a, .bl b => a == (if b then 1 else 0)
  | .int a, .int b => a == b
  | .str a, .str b => a == b
  | _, _ => false
def eqU (x : V) (u : Value) : Bool := match u with
  | .none => eqV .non x
  | .bool b => eqV (.bl b) x
  | .int i _ => eqV (.int i) x
  | .str z _ => eqV (.str z) x
  | _ => false
def inV (x : V) (xs : List V) : Bool := xs.any fun y => eqV y x
def rIn (K : PySem.W.Frag) (neg : Bool) : R2 := fun x y H Q => ∃ p xs, y = .ref p /\ (SqL K H p xs \/ SqT K H p xs) /\ z4o x = true /\ xs.all z4o = true /\ Q (.bl (if neg then !inV x xs else inV x xs)) H
theorem z09 : CallR X (.builtin "len") (fun xs H Q => ∃ p ys, xs = [.ref p] /\ (SqL X.K H p ys \/ SqT X.K H p ys) /\ Q (.int ys.length) H) := by
  intro pins s σ H xs us Q I r h
  obtain ⟨p, ys, rfl, hq, q⟩ := h
  obtain ⟨u, rfl, rx⟩ := vals1 r
  cases rx
  have hn := z2W
  rcases hq with hq | hq
  . obtain ⟨its, r', pl, hz⟩ := I.list hq
    have hlen := r'.length
    exact Calls.call_len_list pl.isList (by simp only [List.size_toArray] <;> omega) ⟨.int ys.length, H, I.tok _, ⟨s.toks + 1, by rw [List.size_toArray, hlen]⟩, q⟩
  . obtain ⟨its, r', pl, hz⟩ := I.tuple hq
    have hlen := r'.length
    exact len_tuple pl (by simp only [List.size_toArray] <;> omega) ⟨.int ys.length, H, I.tok _, ⟨s.toks + 1, by rw [List.size_toArray, hlen]⟩, q⟩
theorem CallR.or {f : Value} {r r' : List V -> Hp -> VK -> Prop} (h : CallR X f r) (h' : CallR X f r') : CallR X f (fun xs H Q => r xs H Q \/ r' xs H Q) := by
  intro pins s σ H xs us Q I rs q
  rcases q with q | q
  . exact h pins s σ H xs us Q I rs q
  . exact h' pins s σ H xs us Q I rs q
theorem z15 : CallR X (.type "list") (fun xs H Q => ∃ p ys, xs = [.ref p] /\ (SqL X.K H p ys \/ SqT X.K H p ys) /\ ∀ l, H l = none -> Q (.ref l) (upd H l (.lst ys))) := by
  intro pins s σ H xs us Q I r h
  obtain ⟨p, ys, rfl, hq, q⟩ := h
  obtain ⟨u, rfl, rx⟩ := vals1 r
  cases rx
  have fin : ∀ (its : List Value), Vals ys its -> ys.length <= sizeLine -> ∀ (h' : Heap) (c' : Nat), (∀ b o', s.heap.get? b = some o' -> h'.get? b = some o') ->
      h'.get? s.heap.objs.size = some { cls := .type "list", dict := none, data := .seq its.toArray c', slots := #[] } -> EP X pins σ Q (.ref s.heap.objs.size) { s with heap := h' } := fun its r' hz h' c' kp e =>
    ⟨.ref s.heap.objs.size, _, I.laid (t' := s.toks) kp (Nat.le_refl _) (show ObjOk X.prog X.w _ h' _ (.lst ys) from ⟨hz, its, c', r', e⟩), rfl, q _ (I.hok.fresh (Nat.le_refl _))⟩
  rcases hq with hq | hq
  . obtain ⟨its, r', pl, hz⟩ := I.list hq
    have hlen := r'.length
    obtain ⟨o, ho, hc, n, hd⟩ := pl.isList
    exact call_list_seq p (.inl rfl) ho hc hd (fun h' c' kp e => fin its r' hz h' c' kp e) (by simp only [List.size_toArray] <;> omega)
  . obtain ⟨its, r', pl, hz⟩ := I.tuple hq
    have hlen := r'.length
    obtain ⟨o, ho, hc, n, hd⟩ := pl
    exact call_list_seq p (.inr rfl) ho hc hd (fun h' c' kp e => fin its r' hz h' c' kp e) (by simp only [List.size_toArray] <;> omega)
def tyV (K : PySem.W.Frag) (T : String) (x : V) (H : Hp) : Prop := match x with
  | .str _ => T = "str"
  | .int _ => T = "int"
  | .ref p => (T = "list" /\ ∃ xs, SqL K H p xs) \/ (T = "tuple" /\ ∃ o, K.lookup p = some o /\ o.cls = .type "tuple" /\ o.dict = none) \/
      (T = "dict" /\ ((∃ kvs, H p = some (.dK kvs)) \/ ∃ kvs, H p = some (.dT kvs))) \/ (T = "set" /\ ∃ S n, H p = some (.set S n))
  | _ => False
theorem z4p {pins : List (Addr × Obj)} {σ : St} {H : Hp} {s : Shared} {T : String} {x : V} {v : Value} (I : Inv X pins σ H s) (r : RelV x v) (ty : tyV X.K T x H) :
    s.TypeIs v T /\ ∀ a, v = .ref a -> ∃ ob, s.heap.get? a = some ob /\ ob.dict = none := by
  cases x with
  | str z =>
    obtain ⟨t, rfl⟩ := r
    cases (show T = "str" from ty)
    exact ⟨typeIs_str s z t, fun _ e => nomatch e⟩
  | int i =>
    obtain ⟨t, rfl⟩ := r
    cases (show T = "int" from ty)
    exact ⟨typeIs_int s i t, fun _ e => nomatch e⟩
  | ref p =>
    cases r
    rcases ty with ⟨rfl, xs, hq⟩ | ⟨rfl, o, hk, hc, hd⟩ | ⟨rfl, hk⟩ | ⟨rfl, S, n, hk⟩
    . obtain ⟨its, _, pl, _⟩ := I.list hq
      refine ⟨pl.isList.typeIs, fun a e => ?_⟩
      cases e
      obtain ⟨o, n, e, c, hd, _⟩ := pl
      exact ⟨o, e, hd⟩
    . refine ⟨⟨o, I.kIn p o hk, hc⟩, fun a e => ?_⟩
      cases e
      exact ⟨o, I.kIn _ o hk, hd⟩
    . have z : ∃ o, s.heap.get? p = some o /\ o.ExactDict := by
        rcases hk with ⟨kvs, hk⟩ | ⟨kvs, hk⟩
        . obtain ⟨_, _, _, _, o, _, _, e, ex, _⟩ := I.hok p _ hk
          exact ⟨o, e, ex⟩
        . obtain ⟨_, _, _, _, o, _, _, e, ex, _⟩ := I.hok p _ hk
          exact ⟨o, e, ex⟩
      obtain ⟨o, e, ex⟩ := z
      refine ⟨⟨o, e, ex.1⟩, fun a e2 => ?_⟩
      cases e2
      exact ⟨o, e, ex.2.1⟩
    . obtain ⟨o, _, _, _, e, ex, _⟩ := I.hok p _ hk
      refine ⟨⟨o, e, ex.1⟩, fun a e2 => ?_⟩
      cases e2
      exact ⟨o, e, ex.2.1⟩
  | _ => exact False.elim ty
def z8M (K : PySem.W.Frag) (T : String) (r : V -> List V -> Hp -> VK -> Prop) (to : TE) : TE := fun σ H Q => to σ H fun x H1 => tyV K T x H1 /\ r x [] H1 Q
def tBM (K : PySem.W.Frag) (T : String) (r : V -> List V -> Hp -> VK -> Prop) (to : TE) (t : TA) : TE := fun σ H Q => to σ H fun x H1 => tyV K T x H1 /\ t σ H1 fun xs H2 => r x xs H2 Q
variable {o e : Expr} {es : List Expr} {to : TE} {t : TA} {name : Str} {apos cpos : Pos} {T id : String} {r : V -> List V -> Hp -> VK -> Prop}
theorem z3F (pa : PlainAttrs T) (slot : Slot T name id) (hty : typeOf (.builtin id) = pure (.type "method_descriptor")) (hm : MtR X id r) (ho : PE X o to) (ha : PA X (e :: es) t)
    (hbase : attributeBase o name X.env (eval o X.env) = eval o X.env := by rfl)
    (hfew : ((backTo cpos (starEach (e :: es) X.env)).all (fun x => !x.1) && (backToKw cpos (keywordEach [] X.env)).all (fun x => x.1.isSome)
      && decide ((e :: es).length + ([] : List Keyword).length + (if ([] : List Keyword).isEmpty then 0 else 1) < 30)) = true := by rfl)
    (hline : (apos.endLine == cpos.line) = true := by rfl) (hs : starEach (e :: es) X.env = (false, eval e X.env) :: starEach es X.env := by rfl) (hplain : (backTo cpos (starEach es X.env)).any (·.1) = false := by rfl) :
    PE X (.Call (.Attribute o name apos) (e :: es) [] cpos) (tBM X.K T r to t) := by
  intro pins s σ H Q I h
  refine wpAny_Call_method_late hbase hfew hline rfl (thn (ho pins s σ H _ I h) fun v s1 ⟨x, H1, I1, r1, ty, q1⟩ => ?_)
  obtain ⟨h1, h2⟩ := z4p I1 r1 ty
  refine ⟨T, id, pa, slot, hty, h1, h2, ?_⟩
  have hA := ha cpos pins s1 σ H1 _ I1 q1
  rw [hs] at hA ⊢
  refine Calls.callWith_builtin (by show (false || (backTo cpos (starEach es X.env)).any (·.1)) = false; rw [hplain] <;> rfl) (Calls.evalArgs_plain ?_)
  exact thn hA fun us s2 ⟨vs, H2, I2, r2, q2⟩ => hm pins s2 σ H2 x vs v us Q I2 r1 r2 q2
/- xs.append(e), list.index on a module's tuple .. are MtR facts of 06m -/
end
def MtM (X : Cx) (id : String) (r : V -> List V -> Hp -> VK -> Prop) : Prop :=
  ∀ (pins : List (Addr × Obj)) (s : Shared) (σ : St) (H : Hp) (x : V) (xs : List V) (v : Value) (us : List Value) (Q : VK), Inv X pins σ H s -> RelV x v -> Vals xs us -> r x xs H Q ->
    wpAny (model X.prog X.w) X.A (call (.builtin id) (v :: us)) (EP X pins σ Q) X.xe s
theorem Vals.one : ∀ {x : V} {us : List Value}, Vals [x] us -> ∃ u, us = [u] /\ RelV x u
  | _, _, .cons r .nil => ⟨_, rfl, r⟩
theorem Vals.two : ∀ {x y : V} {us : List Value}, Vals [x, y] us -> ∃ u v, us = [u, v] /\ RelV x u /\ RelV y v
  | _, _, _, .cons r (.cons q .nil) => ⟨_, _, rfl, r, q⟩
theorem Vals.zero : ∀ {us : List Value}, Vals [] us -> us = []
  | _, .nil => rfl
theorem Vals.dropLast {xs : List V} {us : List Value} (h : Vals xs us) : Vals xs.dropLast us.dropLast := by
  induction h with
  | nil => exact .nil
  | cons r t ih =>
    cases t with
    | nil => exact .nil
    | cons q t' => exact .cons r ih
theorem Vals.eraseIdx : ∀ {xs : List V} {us : List Value} (i : Nat), Vals xs us -> Vals (xs.eraseIdx i) (us.eraseIdx i)
  | _, _, _, .nil => .nil
  | _, _, 0, .cons _ t => t
  | _, _, i + 1, .cons r t => .cons r (Vals.eraseIdx i t)
theorem Vals.reverse {xs : List V} {us : List Value} (h : Vals xs us) : Vals xs.reverse us.reverse := by
  induction h with
  | nil => exact .nil
  | cons r t ih => rw [List.reverse_cons, List.reverse_cons]; exact Vals.append ih (.cons r .nil)
section
variable {X : Cx} {pins : List (Addr × Obj)} {σ : St} {H : Hp} {s : Shared} {l b : Addr} {xs ys zs : List V}
theorem Inv.lset {its its' : List Value} {n : Nat} {f : Array Value -> Array Value} {t' : Nat} (I : Inv X pins σ H s) (hH : H l = some (.lst xs))
    (e : s.heap.get? l = some { cls := .type "list", data := .seq its.toArray n }) (hf : f its.toArray = its'.toArray) (hv : Vals ys its') (hz : ys.length <= sizeLine) :
    Inv X pins σ (upd H l (.lst ys)) { s with heap := s.heap.update l (Obj.mapSeq f), toks := t' } := by
  have q := PySem.IsL.update e f
  rw [hf] at q
  refine I.write (x := l) (e := l) (by rw [hH]; exact trivial) (.inl rfl) (fun b' u hb hu => (Heap.get?_update_other s.heap (Obj.mapSeq f) (Ne.symm hb)).trans hu) ⟨_, q⟩ ?_
  exact ⟨hz, its', _, hv, q⟩
theorem Inv.lnew {its : List Value} {t' : Nat} (I : Inv X pins σ H s) (hv : Vals ys its) (hz : ys.length <= sizeLine) :
    Inv X pins σ (upd H s.heap.objs.size (.lst ys)) { s with heap := s.heap.push { cls := .type "list", data := .seq its.toArray }, toks := t' } :=
  I.laid (fun _ _ q => Heap.get?_push_of_some _ q) (Nat.le_refl _) ⟨hz, its, 0, hv, Heap.get?_push_size _ rfl⟩
theorem Inv.fresh (I : Inv X pins σ H s) : H s.heap.objs.size = none := I.hok.fresh (Nat.le_refl _)
theorem Inv.lstM (I : Inv X pins σ H s) (hH : H l = some (.lst xs)) : xs.length <= sizeLine /\ ∃ (its : List Value) (n : Nat), Vals xs its /\ xs.length = its.length /\ s.heap.get? l = some { cls := .type "list", data := .seq its.toArray n } := by
  obtain ⟨z, its, n, r, e⟩ := I.hok l _ hH
  exact ⟨z, its, n, r, r.length, e⟩
end
section
variable {X : Cx}
def z4E : V -> List V -> Hp -> VK -> Prop := fun x vs H Q => ∃ l xs y, x = .ref l /\ vs = [y] /\ H l = some (.lst xs) /\ xs.length < sizeLine /\ Q .non (upd H l (.lst (xs ++ [y])))
theorem z0k : MtM X "list.append" z4E := by
  intro pins s σ H x vs v us Q I rx rv h
  obtain ⟨l, xs, y, rfl, rfl, hH, hz, q⟩ := h
  cases rx
  obtain ⟨u, rfl, ru⟩ := rv.one
  obtain ⟨z, its, n, r, hl, e⟩ := I.lstM hH
  refine call_meets F.slot_list_append ⟨_, e, rfl⟩ F.entry_list_append (F.args_list_append_2 _ _) (PySem.list_append l its.toArray n u (by rw [List.size_toArray]; omega)) ⟨e, ?_⟩
  refine ⟨.non, _, I.lset (its' := its ++ [u]) hH e (by simp) (r.append (.cons ru .nil)) ?_, rfl, q⟩
  rw [List.length_append, List.length_singleton]
  omega
def z5i : V -> List V -> Hp -> VK -> Prop := fun x vs H Q => ∃ l b xs zs, x = .ref l /\ vs = [.ref b] /\ H l = some (.lst xs) /\ H b = some (.lst zs) /\ xs.length + zs.length <= sizeLine /\ Q .non (upd H l (.lst (xs ++ zs)))
def z8N : V -> List V -> Hp -> VK -> Prop := fun x vs H Q => ∃ l xs y, x = .ref l /\ vs = [] /\ H l = some (.lst xs) /\ xs[xs.length - 1]? = some y /\ Q y (upd H l (.lst xs.dropLast))
def z6S : V -> List V -> Hp -> VK -> Prop := fun x vs H Q => ∃ l xs i k y, x = .ref l /\ vs = [.int i] /\ H l = some (.lst xs) /\ -(2 ^ 63) <= i /\ i < 2 ^ 63 /\ seqIndex? i xs.length = some k /\ xs[k]? = some y /\ Q y (upd H l (.lst (xs.eraseIdx k)))
def z5F : V -> List V -> Hp -> VK -> Prop := fun x vs H Q => ∃ l xs, x = .ref l /\ vs = [] /\ H l = some (.lst xs) /\ Q .non (upd H l (.lst xs.reverse))
def z6T : V -> List V -> Hp -> VK -> Prop := fun x vs H Q => ∃ l xs, x = .ref l /\ vs = [] /\ H l = some (.lst xs) /\ Q .non (upd H l (.lst []))
def z7X : R2 := fun x y H Q => ∃ l b xs zs, x = .ref l /\ y = .ref b /\ H l = some (.lst xs) /\ H b = some (.lst zs) /\ xs.length + zs.length <= sizeLine /\ ∀ p, H p = none -> Q (.ref p) (upd H p (.lst (xs ++ zs)))
theorem z4q : OpR X (binaryOp .Add) z7X := by
  intro pins s σ H x y v u Q I rx ry h
  obtain ⟨l, b, xs, zs, rfl, rfl, hH, hB, hz, q⟩ := h
  cases rx
  cases ry
  obtain ⟨z, its, n, r, hl, e⟩ := I.lstM hH
  obtain ⟨z2, its2, n2, r2, hl2, e2⟩ := I.lstM hB
  refine PySem.P.add_list e e2 ?_ (by rw [List.size_toArray, List.size_toArray]; omega)
  have ea : its.toArray ++ its2.toArray = (its ++ its2).toArray := by simp
  rw [ea]
  exact ⟨.ref _, _, I.lnew (t' := s.toks) (r.append r2) (by rw [List.length_append]; omega), rfl, q _ I.fresh⟩
def z8O : R2 := fun x y H Q => ∃ l k xs, x = .ref l /\ y = .int k /\ H l = some (.lst xs) /\ -(2 ^ 63) <= k /\ k < 2 ^ 63 /\ xs.length * k.toNat <= sizeLine /\
  ∀ p, H p = none -> Q (.ref p) (upd H p (.lst (List.replicate k.toNat xs).flatten))
end
section
variable {prog : Program} {w : World} {A : Around} {E : Value -> Shared -> Prop} {s : Shared}
end
section
variable {X : Cx}
end
section
variable {κ : Type} [DecidableEq κ]
def z2B (kvs : List (κ × V)) (k : κ) : Option V := (kvs.find? fun kv => decide (kv.1 = k)).map (·.2)
def putK (kvs : List (κ × V)) (k : κ) (v : V) : List (κ × V) :=
  if (kvs.any fun kv => decide (kv.1 = k)) = true then kvs.map (fun kv => if kv.1 = k then (kv.1, v) else kv) else kvs ++ [(k, v)]
def z3G (kvs : List (κ × V)) (k : κ) : List (κ × V) := kvs.filter fun kv => decide (kv.1 ≠ k)
theorem z1Z {p : κ × V} {r : List (κ × V)} {k : κ} (e : p.1 = k) : z2B (p :: r) k = some p.2 := by simp [z2B, List.find?_cons, e]
theorem z1a {p : κ × V} {r : List (κ × V)} {k : κ} (e : ¬ p.1 = k) : z2B (p :: r) k = z2B r k := by simp [z2B, List.find?_cons, e]
theorem z2Y (k : κ) : ∀ kvs : List (κ × V), (kvs.any fun kv => decide (kv.1 = k)) = (z2B kvs k).isSome
  | [] => rfl
  | p :: r => by
    rw [List.any_cons]
    by_cases e : p.1 = k
    . simp only [z1Z e, decide_eq_true e, Bool.true_or, Option.isSome_some]
    . rw [z1a e, decide_eq_false e, Bool.false_or]; exact z2Y k r
theorem RelO.isSome_eq {o : Option V} {u : Option Value} (r : RelO o u) : o.isSome = u.isSome := by
  cases o with
  | none => cases u with
    | none => rfl
    | some _ => exact (show False from r).elim
  | some _ => cases u with
    | none => exact (show False from r).elim
    | some _ => rfl
theorem RelO.getD {o : Option V} {u : Option Value} {d : V} {d' : Value} (r : RelO o u) (rd : RelV d d') : RelV (o.getD d) (u.getD d') := by
  cases o with
  | none => cases u with
    | none => exact rd
    | some _ => exact (show False from r).elim
  | some _ => cases u with
    | none => exact (show False from r).elim
    | some _ => exact r
theorem KV.val {kvs : List (κ × V)} {vs : List (κ × Value)} (r : KV kvs vs) (k : κ) : RelO (z2B kvs k) (valueAt vs k) := by
  unfold KV at r
  induction r with
  | nil => exact True.intro
  | @cons p q ps qs h t ih =>
    obtain ⟨h1, h2⟩ := h
    by_cases e : p.1 = k
    . have e' : q.1 = k := h1.symm.trans e
      have b : valueAt (q :: qs) k = some q.2 := by simp [valueAt, List.find?_cons, e']
      rw [z1Z e, b]; exact h2
    . have e' : ¬ q.1 = k := fun z => e (h1.trans z)
      have b : valueAt (q :: qs) k = valueAt qs k := by simp [valueAt, List.find?_cons, e']
      rw [z1a e, b]; exact ih
theorem KV.any {kvs : List (κ × V)} {vs : List (κ × Value)} (r : KV kvs vs) (k : κ) : (kvs.any fun kv => decide (kv.1 = k)) = vs.any fun kv => decide (kv.1 = k) := by
  unfold KV at r
  induction r with
  | nil => rfl
  | cons h t ih => rw [List.any_cons, List.any_cons, ih, h.1]
theorem KV.repl {kvs : List (κ × V)} {vs : List (κ × Value)} (r : KV kvs vs) (k : κ) {y : V} {u : Value} (ry : RelV y u) :
    KV (kvs.map fun kv => if kv.1 = k then (kv.1, y) else kv) (vs.map fun kv => if kv.1 = k then (kv.1, u) else kv) := by
  unfold KV at r ⊢
  induction r with
  | nil => exact .nil
  | @cons p q ps qs h t ih =>
    rw [List.map_cons, List.map_cons]
    refine .cons ?_ ih
    obtain ⟨h1, h2⟩ := h
    by_cases e : p.1 = k
    . rw [if_pos e, if_pos (h1.symm.trans e)]; exact ⟨h1, ry⟩
    . rw [if_neg e, if_neg (fun z => e (h1.trans z))]; exact ⟨h1, h2⟩
theorem KV.put {kvs : List (κ × V)} {vs : List (κ × Value)} (r : KV kvs vs) (k : κ) {y : V} {u : Value} (ry : RelV y u) : KV (putK kvs k y) (stored vs k u) := by
  unfold putK stored
  rw [r.any k]
  by_cases e : (vs.any fun kv => decide (kv.1 = k)) = true
  . rw [if_pos e, if_pos e]; exact r.repl k ry
  . rw [if_neg e, if_neg e]; exact Paired.snoc r ⟨rfl, ry⟩
theorem KV.drop {kvs : List (κ × V)} {vs : List (κ × Value)} (r : KV kvs vs) (k : κ) : KV (z3G kvs k) (without vs k) := by
  unfold KV at r ⊢
  unfold z3G without
  induction r with
  | nil => exact .nil
  | @cons p q ps qs h t ih =>
    obtain ⟨h1, h2⟩ := h
    rw [List.filter_cons, List.filter_cons]
    by_cases e : p.1 = k
    . have a : ¬ decide (p.1 ≠ k) = true := by simp [e]
      have b : ¬ decide (q.1 ≠ k) = true := by simp [h1.symm.trans e]
      rw [if_neg a, if_neg b]; exact ih
    . have e' : ¬ q.1 = k := fun z => e (h1.trans z)
      have a : decide (p.1 ≠ k) = true := by simp [e]
      have b : decide (q.1 ≠ k) = true := by simp [e']
      rw [if_pos a, if_pos b]; exact .cons ⟨h1, h2⟩ ih
theorem KV.keys {kvs : List (κ × V)} {vs : List (κ × Value)} (r : KV kvs vs) : kvs.map (·.1) = vs.map (·.1) := by
  unfold KV at r
  induction r with
  | nil => rfl
  | cons h t ih => rw [List.map_cons, List.map_cons, ih, h.1]
theorem KV.length {kvs : List (κ × V)} {vs : List (κ × Value)} (r : KV kvs vs) : kvs.length = vs.length := Paired.length r
end
abbrev KT (H : Hp) : List (List Key × V) -> List (List Key × Addr × Value) -> Prop := Paired fun p q => p.1 = q.1 /\ H q.2.1 = some (.tup (p.1.map kV)) /\ RelV p.2 q.2.2
theorem KT.val {H : Hp} {kvs : List (List Key × V)} {xs : List (List Key × Addr × Value)} (r : KT H kvs xs) (k : List Key) : RelO (z2B kvs k) ((atKey xs k).map (·.2)) := by
  induction r with
  | nil => exact True.intro
  | @cons p q ps qs h t ih =>
    obtain ⟨h1, _, h2⟩ := h
    by_cases e : p.1 = k
    . have e' : q.1 = k := h1.symm.trans e
      have b : atKey (q :: qs) k = some q.2 := by simp [atKey, List.find?_cons, e']
      rw [z1Z e, b]; exact h2
    . have e' : ¬ q.1 = k := fun z => e (h1.trans z)
      have b : atKey (q :: qs) k = atKey qs k := by simp [atKey, List.find?_cons, e']
      rw [z1a e, b]; exact ih
theorem KT.repl {H : Hp} {kvs : List (List Key × V)} {xs : List (List Key × Addr × Value)} (r : KT H kvs xs) (k : List Key) {y : V} {u : Value} (ry : RelV y u) :
    KT H (kvs.map fun kv => if kv.1 = k then (kv.1, y) else kv) (xs.map (putAt k u)) := by
  induction r with
  | nil => exact .nil
  | @cons p q ps qs h t ih =>
    rw [List.map_cons, List.map_cons]
    refine .cons ?_ ih
    obtain ⟨h1, h2, h3⟩ := h
    unfold putAt
    by_cases e : p.1 = k
    . rw [if_pos e, if_pos (h1.symm.trans e)]; exact ⟨h1, h2, ry⟩
    . rw [if_neg e, if_neg (fun z => e (h1.trans z))]; exact ⟨h1, h2, h3⟩
theorem KT.put {H : Hp} {kvs : List (List Key × V)} {xs : List (List Key × Addr × Value)} (r : KT H kvs xs) (k : List Key) {b : Addr} {y : V} {u : Value} (hb : H b = some (.tup (k.map kV))) (ry : RelV y u) :
    KT H (putK kvs k y) (storedH xs k b u) := by
  have e : (kvs.any fun kv => decide (kv.1 = k)) = (atKey xs k).isSome := by
    rw [z2Y, (r.val k).isSome_eq, Option.isSome_map]
  unfold putK storedH
  rw [e]
  by_cases q : (atKey xs k).isSome = true
  . rw [if_pos q, if_pos q]; exact r.repl k ry
  . rw [if_neg q, if_neg q]; exact Paired.snoc r ⟨rfl, hb, ry⟩
theorem KT.keeps {H H' : Hp} {kvs : List (List Key × V)} {xs : List (List Key × Addr × Value)} (r : KT H kvs xs) (ht : ∀ b ys, H b = some (.tup ys) -> H' b = some (.tup ys)) : KT H' kvs xs :=
  Paired.mapP r fun _ _ z => ⟨z.1, ht _ _ z.2.1, z.2.2⟩
section
variable {P : Program} {w : World} {H : Hp} {h : Heap} {a : Addr}
end
def DGet (H : Hp) (a : Addr) (y : V) (r : Option V) : Prop :=
  (∃ kvs k, Rd H a (.dK kvs) /\ y = kV k /\ r = z2B kvs k) \/ ∃ kvs k b, Rd H a (.dT kvs) /\ y = .ref b /\ H b = some (.tup (k.map kV)) /\ r = z2B kvs k
def DPut (H : Hp) (a : Addr) (y v : V) (H' : Hp) : Prop :=
  (∃ kvs k, H a = some (.dK kvs) /\ y = kV k /\ kvs.length < sizeLine /\ H' = upd H a (.dK (putK kvs k v))) \/
  ∃ kvs k b, H a = some (.dT kvs) /\ y = .ref b /\ H b = some (.tup (k.map kV)) /\ kvs.length < sizeLine /\ H' = upd H a (.dT (putK kvs k v))
theorem DGet.k {H : Hp} {a : Addr} {kvs : List (Key × V)} {k : Key} (e : H a = some (.dK kvs)) : DGet H a (kV k) (z2B kvs k) := .inl ⟨kvs, k, .inl e, rfl, rfl⟩
theorem DGet.t {H : Hp} {a b : Addr} {kvs : List (List Key × V)} {k : List Key} (e : H a = some (.dT kvs)) (eb : H b = some (.tup (k.map kV))) : DGet H a (.ref b) (z2B kvs k) := .inr ⟨kvs, k, b, .inl e, rfl, eb, rfl⟩
theorem DPut.k {H : Hp} {a : Addr} {kvs : List (Key × V)} {k : Key} {v : V} (e : H a = some (.dK kvs)) (hl : kvs.length < sizeLine) : DPut H a (kV k) v (upd H a (.dK (putK kvs k v))) := .inl ⟨kvs, k, e, rfl, hl, rfl⟩
theorem DPut.t {H : Hp} {a b : Addr} {kvs : List (List Key × V)} {k : List Key} {v : V} (e : H a = some (.dT kvs)) (eb : H b = some (.tup (k.map kV))) (hl : kvs.length < sizeLine) :
    DPut H a (.ref b) v (upd H a (.dT (putK kvs k v))) := .inr ⟨kvs, k, b, e, rfl, eb, hl, rfl⟩
section
variable {X : Cx} {pins : List (Addr × Obj)} {σ : St} {H : Hp} {s : Shared} {a : Addr} {y v : V} {u r : Value} {o : Option V} {A : Around} {E : Value -> Shared -> Prop}
end
section
variable {X : Cx} {pins : List (Addr × Obj)} {σ : St} {H : Hp} {s : Shared} {a : Addr} {kvs : List (Key × V)} {k : Key} {u : Value} {A : Around} {E : Value -> Shared -> Prop}
end
def z8P (i : Expr) : Prop := ∀ ov iv, subscripted i false ov iv = operate [ov, iv] (getItem ov iv)
def z7Y (td ty : TE) : TE := fun σ H Q => td σ H fun x H1 => ty σ H1 fun y H2 => ∃ a v, x = .ref a /\ DGet H2 a y (some v) /\ Q v H2
def z8Q (ty td : TE) : TE := fun σ H Q => ty σ H fun y H1 => td σ H1 fun x H2 => ∃ a o, x = .ref a /\ DGet H2 a y o /\ Q (.bl o.isSome) H2
def z5j (ty td : TE) : TE := fun σ H Q => ty σ H fun y H1 => td σ H1 fun x H2 => ∃ a o, x = .ref a /\ DGet H2 a y o /\ Q (.bl (!o.isSome)) H2
def z7Z (td ty tv : TE) : TS := fun D σ H => tv σ H fun v H1 => td σ H1 fun x H2 => ty σ H2 fun y H3 => ∃ a H4, x = .ref a /\ DPut H3 a y v H4 /\ D.nx σ H4
def z7a (td ty tv : TE) (rd : V -> V -> Hp -> VK -> Prop) : TS := fun D σ H => td σ H fun x H1 => ty σ H1 fun y H2 => ∃ a v, x = .ref a /\ DGet H2 a y (some v) /\
  tv σ H2 fun y2 H3 => rd v y2 H3 fun z H4 => ∃ H5, DPut H4 a y z H5 /\ D.nx σ H5
def z7b (td ty : TE) : TS := fun D σ H => td σ H fun x H1 => ty σ H1 fun y H2 => ∃ a kvs k, x = .ref a /\ H2 a = some (.dK kvs) /\ y = kV k /\ (z2B kvs k).isSome = true /\ D.nx σ (upd H2 a (.dK (z3G kvs k)))
section
variable {X : Cx} {o i e value : Expr} {pos pos' tpos : Pos} {td ty tv : TE}
end
def z6U : TE := fun _ H Q => ∀ p, H p = none -> Q (.ref p) (upd H p (.dK []))
def z6V : TE := fun _ H Q => ∀ p, H p = none -> Q (.ref p) (upd H p (.dT []))
section
variable {X : Cx} {pos : Pos}
end
def z3H : List (TE × TE) -> St -> Hp -> (List (V × V) -> Hp -> Prop) -> Prop
  | [], _, H, Q => Q [] H
  | (tk, tv) :: r, σ, H, Q => tk σ H fun x H1 => tv σ H1 fun y H2 => z3H r σ H2 fun ps H3 => Q ((x, y) :: ps) H3
abbrev VV : List (V × V) -> List (Value × Value) -> Prop := Paired fun p q => RelV p.1 q.1 /\ RelV p.2 q.2
def PPs (X : Cx) (pos : Pos) (keys : List (Option Expr)) (values : List Expr) (trs : List (TE × TE)) : Prop :=
  ∀ (pins : List (Addr × Obj)) (s : Shared) (σ : St) (H : Hp) (Q : List (V × V) -> Hp -> Prop), Inv X pins σ H s -> z3H trs σ H Q ->
    wpAny (model X.prog X.w) X.A (evalPairs (pairTrees keys values X.env pos)) (fun vs s' => ∃ ps H', Inv X pins σ H' s' /\ VV ps vs /\ Q ps H') X.xe s
def z4r (kvs more : List (Key × V)) : List (Key × V) := more.foldl (fun acc kv => putK acc kv.1 kv.2) kvs
def z7c (trs : List (TE × TE)) : TE := fun σ H Q => ∀ p, H p = none -> z3H trs σ (upd H p (.dK [])) fun ps H2 => H2 p = some (.dK []) /\ ∃ kvs : List (Key × V), ps = kvs.map (fun kv => (kV kv.1, kv.2)) /\ kvs.length <= 15 /\ Q (.ref p) (upd H2 p (.dK (z4r [] kvs)))
structure M1 (X : Cx) (o : Expr) (m : Str) (apos : Pos) (e : Expr) (cpos : Pos) : Prop where
  base : attributeBase o m X.env (eval o X.env) = eval o X.env
  few : ((backTo cpos (starEach [e] X.env)).all (fun x => !x.1) && (backToKw cpos (keywordEach [] X.env)).all (fun x => x.1.isSome)
    && decide (([e] : List Expr).length + ([] : List Keyword).length + (if ([] : List Keyword).isEmpty then 0 else 1) < 30)) = true
  line : (apos.endLine == cpos.line) = true
  trees : backTo cpos (starEach [e] X.env) = [(false, eval e X.env)]
structure M2 (X : Cx) (o : Expr) (m : Str) (apos : Pos) (e f : Expr) (cpos : Pos) : Prop where
  base : attributeBase o m X.env (eval o X.env) = eval o X.env
  few : ((backTo cpos (starEach [e, f] X.env)).all (fun x => !x.1) && (backToKw cpos (keywordEach [] X.env)).all (fun x => x.1.isSome)
    && decide (([e, f] : List Expr).length + ([] : List Keyword).length + (if ([] : List Keyword).isEmpty then 0 else 1) < 30)) = true
  line : (apos.endLine == cpos.line) = true
  trees : backTo cpos (starEach [e, f] X.env) = [(false, eval e X.env), (false, eval f X.env)]
def IsD (H : Hp) (a : Addr) : Prop := (∃ kvs, Rd H a (.dK kvs)) \/ ∃ kvs, Rd H a (.dT kvs)
section
variable {X : Cx} {pins : List (Addr × Obj)} {σ : St} {H : Hp} {s : Shared} {a : Addr} {y d : V} {u r : Value} {o : Option V} {A : Around} {E : Value -> Shared -> Prop}
end
def z6W (td ty : TE) : TE := fun σ H Q => td σ H fun x H1 => ∃ a, x = .ref a /\ IsD H1 a /\ ty σ H1 fun y H2 => ∃ o, DGet H2 a y o /\ Q (o.getD .non) H2
def z6X (td ty tx : TE) : TE := fun σ H Q => td σ H fun x H1 => ∃ a, x = .ref a /\ IsD H1 a /\ ty σ H1 fun y H2 => tx σ H2 fun z H3 => ∃ o, DGet H3 a y o /\ Q (o.getD z) H3
def z6Y (td ty : TE) : TE := fun σ H Q => td σ H fun x H1 => ∃ a, x = .ref a /\ IsD H1 a /\ ty σ H1 fun y H2 => ∃ kvs k v, H2 a = some (.dK kvs) /\ y = kV k /\ z2B kvs k = some v /\ Q v (upd H2 a (.dK (z3G kvs k)))
def z6Z (td ty tx : TE) : TE := fun σ H Q => td σ H fun x H1 => ∃ a, x = .ref a /\ IsD H1 a /\ ty σ H1 fun y H2 => tx σ H2 fun z H3 => ∃ kvs k, H3 a = some (.dK kvs) /\ y = kV k /\
  (∀ v, z2B kvs k = some v -> Q v (upd H3 a (.dK (z3G kvs k)))) /\ (z2B kvs k = none -> Q z H3)
section
variable {X : Cx} {o e f : Expr} {apos cpos : Pos} {td ty tx : TE}
end
section
variable {X : Cx} {pins : List (Addr × Obj)} {σ : St} {H : Hp} {s : Shared} {a : Addr} {kvs : List (Key × V)} {A : Around} {E : Value -> Shared -> Prop}
end
section
variable {X : Cx} {pins : List (Addr × Obj)} {σ : St} {H : Hp} {s : Shared} {a : Addr} {y : V} {u : Value} {A : Around} {E : Value -> Shared -> Prop}
end
end L2
namespace Att
open PySem PySem.W PySem.Calls PyProof.Rows
theorem z1E {P : Params} {h : Heap} : ∀ (ns : List Int) (vs : List Value), WellAll P h vs (ns.map WData.int) -> IntsAre vs ns := by
  intro ns
  induction ns with
  | nil =>
    intro vs w
    rw [List.map_nil] at w
    cases w
    exact .nil
  | cons n ns ih =>
    intro vs w
    rw [List.map_cons] at w
    cases w with
    | cons a b =>
      cases a
      exact .cons _ _ (ih _ b)
theorem z3I {l : OpenLaw} {n : Nat} (hn : l.most = some n) {P : Params} {h : Heap} {args : List WData} {vals : List Value}
    (hpre : l.row.toRowW.claim.pre args = true) (hwl : WellAll P h vals args) :
    ∃ a vs ns, vals = [Value.ref a] /\ args = [WData.list (ns.map WData.int)] /\ h.get? a = some { cls := .type "list", data := .seq vs.toArray } /\ IntsAre vs ns /\ ns.length <= n := by
  have hsh : WShape.hasAll [] args [.list .int] = true := (pre_splitW hpre).1
  have hc : l.pre.holds [] { args := args } = true := (pre_splitW hpre).2
  obtain ⟨d, r, rfl, h1, h2⟩ := hasAllW_cons hsh
  obtain rfl := hasAllW_nil h2
  obtain ⟨xs, rfl, h3⟩ := hasW_list h1
  obtain ⟨ns, rfl⟩ := items_int h3
  have hlen : ns.length <= n := by
    unfold OpenLaw.pre at hc
    have h4 : (WTm.not (.lt (.lit (.int (n : Int))) (.len (.arg 0)))).holds [] { args := [.list (ns.map .int)] } = true := by
      have h4 := (holds_andW hc).1
      rw [hn] at h4
      exact h4
    have h5 := condW_of h4 (w_not (w_lt w_lit (w_len_list (w_arg rfl))))
    rw [List.length_map] at h5
    refine Nat.le_of_not_lt fun q => ?_
    have q' : (n : Int) < ((ns.length : Nat) : Int) := by omega
    first
      | (rw [decide_eq_true q'] at h5; exact absurd h5 (by decide))
      | (simp at h5; omega)
  cases hwl with
  | cons w1 w2 =>
    cases w2
    cases w1 with
    | list ho hall => exact ⟨_, _, ns, rfl, rfl, ho, z1E ns _ hall, hlen⟩
theorem z3J (l : OpenLaw) (args : List WData) : l.row.toRowW.claim.post args (.bool true) args = true :=
  postW_of (r := l.row.toRowW) (X := (true == true))
    (show WShape.has [] (.bool true) .bool = true by first | rfl | decide | simp [WShape.has, WShape.arms, WShape.armsAll])
    (show (WTm.eq .res (.lit (.bool true))).value [] { args := args, res := some (.bool true), after := args } = some (.bool (true == true)) from w_eq_bool (w_res rfl) w_lit) rfl
theorem attach_call {l : OpenLaw} {n : Nat} {q : Program} {loose : List Str} {XP : (Str -> Option Value) -> Heap -> Prop} {YP : World -> Heap -> Prop} {d : DefRec}
    (hn : l.most = some n) (hdf : d.params.defaults = [])
    (call : ∀ (w : World) (s₀ s₁ : Shared) (mg mb : Str -> Option Value) (fa : Addr) (o : Obj) (pm cd doc : Value) (a : Addr) (vs : List Value) (ns : List Int),
      Ground q loose [] XP w s₀ mg mb s₁.heap -> YP w s₁.heap ->
      s₁.heap.get? fa = some o -> o.data = .func (docDef d.name d.params d.body d.scope pm cd doc) -> s₁.heap.CodeRec cd d.name -> mg d.name = some (.ref fa) ->
      s₁.heap.get? a = some { cls := .type "list", data := .seq vs.toArray } -> IntsAre vs ns -> ns.length <= n -> s₁.gens = #[] ->
      codeAny (model l.prog w) callerA (.call (.ref fa) ⟨[.ref a], []⟩) (fun r s' => r = .ok (.ret (.bool true)) /\ OldK s₁.heap s'.heap /\ s'.os = s₁.os /\ AllBare s'.gens) s₁) :
    WalkO q loose XP YP l.row.toRowW d [] (fun f vs => PySem.call f vs) := by
  intro w s₀ s₁ mg mb G Y fa o pm cd doc dV kV ho hd hcd hD hmg hg args vals as hpre hlay hrd hwl hlo
  obtain rfl : dV = .none := Dflts.none hD hdf
  obtain rfl : kV = .none := Dflts.noKw hD
  obtain ⟨a, vs, ns, rfl, rfl, hobj, hints, hlen⟩ := z3I hn hpre hwl
  refine enter_call (codeAny_mono (call w s₀ s₁ mg mb fa o pm cd doc a vs ns G Y ho (fd_plain hd) hcd hmg hobj hints hlen hg) fun r s' hq => ?_)
  obtain ⟨rfl, h2, h3, h4⟩ := hq
  exact ⟨.inl ⟨.bool true, .bool true, [], rfl, fun _ => rfl, .bool true, z3J l _, fun _ => ⟨List.Pairwise.nil, fun _ hm => (nomatch hm)⟩⟩, h2, h3, h4⟩
section
variable {prog : Program} {w : World} {A : Around} {E : Value -> Shared -> Prop} {s : Shared} {K : Frag}
def z6a (h : Heap) : Heap := { h with objs := #[] }
def ledger (h : Heap) (L d : Addr) : List (Addr × Obj) := (List.range h.objs.size).filterMap fun a => if a = L \/ a = d then none else (h.get? a).map fun o => (a, o)
end
end Att
namespace L2
open PySem PySem.Spec PyProof.Rows
theorem z1x : ∀ {vs : List Value} {ns : List Int}, IntsAre vs ns -> Vals (ns.map V.int) vs
  | _, _, .nil => .nil
  | _, _, .cons n t h => .cons ⟨t, rfl⟩ (z1x h)
def z5k (H : Hp) : Prop := ∀ b, H b = none \/ ∃ o xs, H b = some (.frz o (.lst xs))
theorem z3l {P : Program} {w : World} {K : PySem.W.Frag} {mg mb : Str -> Option Value} {CX : CXT} {k : Nat} {fa a : Addr} {fd : FuncData} {x : Str} {sp : Sp} {s₁ : Shared} {vs : List Value} {ns : List Int}
    (KX : K.In s₁.heap) (hns : s₁.heap.Ns mainGlobals mg) (hb : s₁.heap.Ns builtinsNs mb) (hbb : ∀ x : Str, x ≠ "__name__" -> mb x = bootBuiltins x) (hlim : s₁.heap.NoLimit) (hg : s₁.gens = #[])
    (ha : s₁.heap.get? a = some { cls := .type "list", data := .seq vs.toArray }) (hi : IntsAre vs ns) (hl : ns.length <= sizeLine) (hr : Room k callerA)
    (F : ∀ base : Heap, K.In base -> base.Ns mainGlobals mg -> FnOk P w K mg base CX k fa fd [x] sp) (hbind : ∀ (s : Shared) (u : Value), BindsTo s fd ⟨[u], []⟩ [(x, u)])
    (hsp : ∀ H : Hp, z5k H -> SqL K H a (ns.map V.int) -> sp [.ref a] H (fun v _ => v = .bl true) fun _ _ _ => False)
    (hCX : ∀ H e s', CX [] H s₁ (fun _ _ _ => False) e s' -> False) :
    codeAny (model P w) callerA (.call (.ref fa) ⟨[.ref a], []⟩) (fun r s' => r = .ok (.ret (.bool true)) /\ OldK s₁.heap s'.heap /\ s'.os = s₁.os /\ AllBare s'.gens) s₁ := by
  have rv := z1x hi
  have lenV := hi.length
  have core : ∀ H : Hp, z5k H -> SqL K H a (ns.map V.int) -> HOk P w H s₁.heap -> (∀ b, H b ≠ none -> b = a) -> (H a ≠ none -> K.lookup a = none) ->
      codeAny (model P w) callerA (.call (.ref fa) ⟨[.ref a], []⟩) (fun r s' => r = .ok (.ret (.bool true)) /\ OldK s₁.heap s'.heap /\ s'.os = s₁.os /\ AllBare s'.gens) s₁ := by
    intro H hO hS hok hA hK
    have base_of : ∀ {b : Addr} {o : Obj}, s₁.heap.get? b = some o -> H b = none -> (z3c s₁.heap H).get? b = some o := fun e n => z3d e n
    have noA : ∀ {b : Addr} {o : Obj} {es : Array DictEntry} {ep : Nat}, s₁.heap.get? b = some o -> o.data = .dict es ep -> H b = none := fun {b o es ep} e d => by
      cases q : H b with
      | none => rfl
      | some u =>
        have e' : b = a := hA b (by rw [q]; simp)
        subst e'
        rw [ha] at e; cases e
        have d' : Data.seq vs.toArray _ = Data.dict es ep := d
        cases d'
    have nsK : ∀ {b : Addr} {m : Str -> Option Value}, s₁.heap.Ns b m -> (z3c s₁.heap H).Ns b m := fun {b m} ⟨o, es, ep, e, d, r⟩ => ⟨o, es, ep, base_of e (noA e d), d, r⟩
    have hKb : K.In (z3c s₁.heap H) := fun b o e => base_of (KX b o e) (by
      cases q : H b with
      | none => rfl
      | some u =>
        have e' : b = a := hA b (by rw [q]; simp)
        subst e'
        rw [hK (by rw [q]; simp)] at e; cases e)
    have hM : Mod K mg (z3c s₁.heap H) := ⟨hKb, nsK hns, ⟨mb, nsK hb, hbb⟩, let ⟨mc, h1, h2⟩ := hlim; ⟨mc, nsK h1, h2⟩⟩
    have e0 : Env0 P w K mg (z3c s₁.heap H) callerA [] s₁ H := ⟨rfl, hM, fun b o e => z42 e, Nat.le_of_eq (z2w _ _), trivial, fun b hb => absurd (show b ∈ ([] : List Addr) from hb) (by simp), hok, .of_eq hg⟩
    refine codeAny_mono ((F _ hKb (nsK hns)).run callerA [] s₁ H ⟨[.ref a], []⟩ [.ref a] [.ref a] _ _ hr e0 (hbind s₁ (.ref a)) (.cons rfl .nil) (hsp H hO hS)) fun r s' h => ?_
    cases r with
    | error e => exact (hCX H e s' h).elim
    | ok fl =>
      cases fl with
      | next => exact False.elim h
      | brk => exact False.elim h
      | cont => exact False.elim h
      | ret u =>
        obtain ⟨v, H', os, bare, un, hok', r', q⟩ := h
        have q' : v = .bl true := q
        subst q'
        obtain rfl : u = Value.bool true := r'
        refine ⟨rfl, OldK.of_keep fun b o e => ?_, os, bare⟩
        cases q : H b with
        | none => exact un.keep b o e q (by intro z; exact absurd (show b ∈ ([] : List Addr) from z) (by simp)) (by simp)
        | some u =>
          rcases hO b with z | ⟨ob, xs, z⟩
          . rw [q] at z; cases z
          . have z2 := un.frzs b ob _ z
            obtain ⟨e1, _⟩ := hok b _ z
            obtain ⟨e2, _⟩ := hok' b _ z2
            rw [e] at e1; cases e1
            exact e2
  cases hk : K.lookup a with
  | some o =>
    have e := KX a o hk
    rw [ha] at e
    cases e
    refine core (fun _ => none) (fun _ => .inl rfl) (.inr ⟨_, vs.toArray, _, hk, rfl, rfl, rfl, by rw [List.size_toArray, lenV]; exact hl, by simpa using rv⟩) (fun b u z => by have z' : (none : Option HO) = some u := z; cases z') (fun b z => absurd rfl z) fun z => absurd rfl z
  | none =>
    refine core (fun b => if b = a then some (.frz { cls := .type "list", data := .seq vs.toArray } (.lst (ns.map V.int))) else none) (fun b => ?_) (.inl (.inr ⟨{ cls := .type "list", data := .seq vs.toArray }, if_pos rfl⟩)) (fun b u z => ?_) (fun b z => ?_) fun _ => hk
    . by_cases hb : b = a
      . exact .inr ⟨_, _, if_pos hb⟩
      . exact .inl (if_neg hb)
    . by_cases hb : b = a
      . have z' := (if_pos hb).symm.trans z
        cases z'
        subst hb
        exact ⟨ha, by rw [List.length_map]; exact hl, vs, _, rv, ha⟩
      . have z' := (if_neg hb).symm.trans z
        cases z'
    . by_cases hb : b = a
      . exact hb
      . exact absurd (if_neg hb) z
abbrev KOf {K : PySem.W.Frag} {h : Heap} (_ : K.In h) : PySem.W.Frag := K
theorem walk_of {l : PySem.W.OpenLaw} {n k : Nat} {q : Program} {loose : List Str} {XP : (Str -> Option Value) -> Heap -> Prop} {YP : World -> Heap -> Prop} {d : DefRec} {K : Params -> PySem.W.Frag} {CX : World -> CXT} {sp : World -> Sp} {x : Str}
    (hn : l.most = some n) (hn2 : n <= sizeLine) (hdf : d.params.defaults = []) (hr : Room k callerA)
    (hY : ∀ (w : World) (h : Heap), YP w h -> (K w.params).In h)
    (F : ∀ (w : World) (mg : Str -> Option Value) (fa : Addr) (h : Heap), (K w.params).In h -> h.Ns mainGlobals mg -> mg d.name = some (.ref fa) ->
      ∃ fd : FuncData, (∀ (s : Shared) (u : Value), BindsTo s fd ⟨[u], []⟩ [(x, u)]) /\
        ∀ base : Heap, (K w.params).In base -> base.Ns mainGlobals mg -> FnOk l.prog w (K w.params) mg base (CX w) k fa fd [x] (sp w))
    (hsp : ∀ (w : World) (H : Hp) (a : Addr) (ns : List Int), ns.length <= n -> z5k H -> SqL (K w.params) H a (ns.map V.int) -> sp w [.ref a] H (fun v _ => v = .bl true) fun _ _ _ => False)
    (hCX : ∀ (w : World) (H : Hp) (s : Shared) (e : Value) (s' : Shared), CX w [] H s (fun _ _ _ => False) e s' -> False) :
    PySem.W.WalkO q loose XP YP l.row.toRowW d [] (fun f vs => PySem.call f vs) := by
  refine Att.attach_call hn hdf fun w s₀ s₁ mg mb fa o pm cd doc a vs ns G Y ho hd hcd hmg hobj hints hlen hg => ?_
  have KX := hY w _ Y
  obtain ⟨fd, hb, hF⟩ := F w mg fa _ KX G.T.g hmg
  exact z3l KX G.T.g G.T.b G.T.builtins G.T.nolimit hg hobj hints (Nat.le_trans hlen hn2) hr hF hb (fun H hO hS => hsp w H a ns hlen hO hS) fun H e s' => hCX w H s₁ e s'
end L2
/- THE LAST THEOREM (shape; LID, My.* are yours):
   My.Adr: a structure of the addresses that your layer names (classes, functions); My.Txt K t: a structure (Prop) of the equations over K;
   My.txt_mk : {K} {implicit addresses ..} (e1 : nsIn K mainGlobals "law" = some (some (.ref f))) (e2 : K.lookup f = some ⟨oc, od, .func (fnOf "law" "law" params body scope dV kV doc pm an cdv ct), sl⟩) (e3 : codeIn K cdv "law" = true) .. : ∃ t, My.Txt K t
set_option maxRecDepth 100000 in
set_option maxHeartbeats 0 in
theorem PySem.Challenge.cw_LID_holds : PySem.Challenge.rw_LID.Holds := by
  w_on; o_law; k_head; (case hw => w_witness2)
  k_fill
  refine L2.walk_of (l := PySem.Challenge.rw_LID) (n := 63) (k := 40) (x := "script") (CX := fun w => ..) (sp := fun _ => My.sp_law) rfl (by decide) rfl ⟨rfl, by decide, by decide⟩ (fun w h Y => PySem.W.kIn_of Y) ?F ?S ?C
  case F =>
    intro w mg fa h KX G hmg
    have T : ∃ t, My.Txt (L2.KOf KX) t := by
      dsimp only [L2.KOf]
      refine' My.txt_mk ?e1 ?e2 ?e3 ..
      (case e1 => PySem.W.k_is)
      (case e2 => PySem.W.k_is)
      ..
    obtain ⟨t, T⟩ := T
    have e0 := hmg.symm.trans (PySem.W.mg_of KX G T.law)
    cases e0
    exact ⟨_, fun s u => .of_eq rfl, fun base kb nb => My.law_fn T kb nb⟩
  case S => exact fun w H a ns hl hO hS => ..
  case C => exact ..
(the tactic k_is has no namespace: write k_is) -/
namespace L2
open PySem PySem.Spec PyProof.Rows
def inClass (s : Stmt) (j : Nat) : Stmt := match s with
  | .ClassDef _ _ _ body _ _ _ _ _ _ _ => body.getD j (.Pass ⟨0, 0, 0, 0⟩)
  | _ => .Pass ⟨0, 0, 0, 0⟩
def z0C (s : Stmt) : Arguments := match s with
  | .FunctionDef _ a _ _ _ _ _ _ _ _ => a
  | _ => { posonlyargs := [], args := [], vararg := none, kwonlyargs := [], kw_defaults := [], kwarg := none, defaults := [] }
def z0B (s : Stmt) : List Stmt := match s with
  | .FunctionDef _ _ b _ _ _ _ _ _ _ => b
  | _ => []
def z02 (s : Stmt) : Scope := match s with
  | .FunctionDef _ _ _ _ _ _ sc _ _ _ => sc
  | _ => { kind := .function, names := [], isGenerator := false, isCoroutine := false }
abbrev CX0 : CXT := fun _ _ _ _ _ _ => False
abbrev E0 : XK := fun _ _ _ => False
theorem z1y {X : Cx} : z0p CX0 X E0 := fun _ _ _ _ _ _ _ h => h.elim
structure Fun (K : PySem.W.Frag) (x qual : Str) (st : Stmt) (f : Addr) (fd : FuncData) : Prop where
  ex : ∃ (oc : Value) (od : Option Addr) (kV doc pm : Value) (an : Option Addr) (cdv ct : Value) (osl : Array (Option Value)),
    fd = PySem.W.fnOf x qual (z0C st) (z0B st) (z02 st) .none kV doc pm an cdv ct /\ K.lookup f = some ⟨oc, od, .func fd, osl⟩ /\ PySem.W.codeIn K cdv qual = true
  kp : PySem.W.keepIn K (.ref f) = true
section
variable {P : Program} {w : World} {K : PySem.W.Frag} {mg : Str -> Option Value} {base : Heap}
theorem Fun.ok {x qual : Str} {st : Stmt} {f : Addr} {fd : FuncData} {N ps : List Str} {k : Nat} {sp : Sp} (F : Fun K x qual st f fd) (S : FnScope N ps (z02 st)) (len : ∀ vs H Q E, sp vs H Q E -> vs.length = ps.length)
    (hbody : ∀ (cdv : Value) (A : Around) (outer : List Env) (s : Shared) (H : Hp) (vs : List V) (Q : VK) (E : XK), Room k (A.deeper (envOfC qual (z02 st) s.heap.objs.size f cdv)) -> sp vs H Q E ->
      ∃ t, PSs (z4B CX0 P w K mg base N qual (z02 st) f cdv A outer s H E).nox (z0B st) t /\ t { nx := fun _ H' => Q .non H', rt := Q } (start N vs) H) : FnOk P w K mg base CX0 (k + 1) f fd ps sp := by
  obtain ⟨oc, od, kV, doc, pm, an, cdv, ct, osl, rfl, lk, hcd⟩ := F.ex
  refine z4m lk hcd S len fun A outer s H vs Q E hr hsp => ?_
  obtain ⟨t, h, q⟩ := hbody cdv A outer s H vs Q E hr hsp
  exact ⟨t, h.nox, q⟩
theorem Fun.binds {x qual : Str} {st : Stmt} {f : Addr} {fd : FuncData} {ps : List Str} (F : Fun K x qual st f fd)
    (h : ∀ (kV doc pm : Value) (an : Option Addr) (cdv ct : Value) (us : List Value), us.length = ps.length -> bindArgs (PySem.W.fnOf x qual (z0C st) (z0B st) (z02 st) .none kV doc pm an cdv ct) ⟨us, []⟩ = pure (ps.zip us)) : Binds K fd ps [] := by
  obtain ⟨oc, od, kV, doc, pm, an, cdv, ct, osl, rfl, lk, hcd⟩ := F.ex
  exact .all (h kV doc pm an cdv ct)
theorem z0b {x qual : Str} {st : Stmt} {f : Addr} {oc : Value} {od an : Option Addr} {osl : Array (Option Value)} {kV doc pm cdv ct : Value} (l : K.lookup f = some ⟨oc, od, .func (PySem.W.fnOf x qual (z0C st) (z0B st) (z02 st) .none kV doc pm an cdv ct), osl⟩)
    (c : PySem.W.codeIn K cdv qual = true) (k : PySem.W.keepIn K (.ref f) = true) : Fun K x qual st f (PySem.W.fnOf x qual (z0C st) (z0B st) (z02 st) .none kV doc pm an cdv ct) := ⟨⟨oc, od, kV, doc, pm, an, cdv, ct, osl, rfl, l, c⟩, k⟩
end
theorem z0l {n : Nat} (h : n <= 1000) : n < sizeLine := Nat.lt_of_le_of_lt h (by decide)
section
variable {X : Cx}
theorem pv (i : Nat) {x : Str} {pos : Pos} (hN : X.N[i]? = some x := by rfl) (hv : Vis X.env.scope x := by first | exact Or.inl rfl | exact Or.inr (Or.inl rfl) | exact Or.inr (Or.inr rfl)) (hd : (x == ("__debug__" : Str)) = false := by decide)
    (hcd : (x == ("__classdict__" : Str)) = false := by decide) : PE X (.Name x pos) (z6G i) := z4a hN hv hd hcd
end
theorem z6b {A B : Prop} (h : B) : if false = true then A else B := by
  rw [if_neg Bool.false_ne_true]
  exact h
theorem z7d {A B : Prop} (h : A) : if true = true then A else B := by
  rw [if_pos rfl]
  exact h
def Same (H H' : Hp) : Prop := ∀ b o, H b = some o -> H' b = some o
theorem Same.refl (H : Hp) : Same H H := fun _ _ h => h
theorem Same.trans {H H1 H2 : Hp} (a : Same H H1) (b : Same H1 H2) : Same H H2 := fun c o h => b c o (a c o h)
theorem Same.free {H H' : Hp} (e : Same H H') {l : Addr} (h : H' l = Option.none) : H l = Option.none := by
  cases q : H l with
  | none => rfl
  | some o =>
    rw [e l o q] at h
    cases h
theorem Same.seq {K : PySem.W.Frag} {H H' : Hp} {a : Addr} {xs : List V} (e : Same H H') (h : SqL K H a xs) : SqL K H' a xs := by
  rcases h with (h | ⟨o, h⟩) | h
  . exact .inl (.inl (e _ _ h))
  . exact .inl (.inr ⟨o, e _ _ h⟩)
  . exact .inr h
section
variable {κ : Type} [DecidableEq κ]
end
end L2
set_option maxHeartbeats 4000000
namespace L2
open PySem PySem.Spec PyProof.Rows
structure Df (K : PySem.W.Frag) (mg : Str -> Option Value) (x : Str) (st : Stmt) (ps : List Str) (f : Addr) (fd : FuncData) : Prop where
  F : Fun K x x st f fd
  b : Binds K fd ps []
  m : mg x = some (.ref f)
def z3m (K : PySem.W.Frag) : Sp := fun vs H Q _ => ∃ (a : Addr) (ns : List Int), vs = [.ref a] /\ SqL K H a (ns.map V.int) /\ ns.length <= 63 /\ ∀ H', Q (.bl true) H'
theorem Same.new {H : Hp} {l : Addr} {o : HO} (h : H l = none) : Same H (upd H l o) := fun b u e => by
  rw [z04 (z0G e h)]
  exact e
theorem Same.tup {K : PySem.W.Frag} {H H' : Hp} {a : Addr} {xs : List V} (e : Same H H') (h : SqT K H a xs) : SqT K H' a xs := by
  rcases h with (h | ⟨o, h⟩) | h
  . exact .inl (.inl (e _ _ h))
  . exact .inl (.inr ⟨o, e _ _ h⟩)
  . exact .inr h
theorem z4F {xs : List V} {lo hi : Option Int} {x : V} (h : x ∈ z2i xs lo hi) : x ∈ xs := List.mem_of_mem_drop (List.mem_of_mem_take h)
theorem z16 {ns : List Int} {x : V} (h : x ∈ ns.map V.int) : ∃ z, x = .int z := by
  obtain ⟨z, _, e⟩ := List.mem_map.mp h
  exact ⟨z, e.symm⟩
theorem z2E {b : Bool} {A B : Prop} (hb : b = false) (h : B) : if b = true then A else B := by
  subst hb
  exact z6b h
section
variable {X : Cx}
def z8R : R2 := fun x y H Q => ∃ b c, x = V.bl b /\ y = V.bl c /\ Q (.bl (b == c)) H
def z5l : R2 := fun x y H Q => ∃ b c, x = V.bl b /\ y = V.bl c /\ Q (.bl (b != c)) H
def tyS (H : Hp) : V -> Option String
  | .non => some "NoneType"
  | .bl _ => some "bool"
  | .int _ => some "int"
  | .str _ => some "str"
  | .ref a => match H a with
    | some (.lst _) => some "list"
    | some (.frz _ (.lst _)) => some "list"
    | some (.tup _) => some "tuple"
    | some (.dK _) => some "dict"
    | some (.dT _) => some "dict"
    | _ => none
  | _ => none
theorem z4s {K : PySem.W.Frag} {H : Hp} {x : V} {T : String} (h : tyS H x = some T) : TyOf K H x (.type T) := by
  cases x with
  | non => cases h; exact .non
  | bl b => cases h; exact .bl b
  | int i => cases h; exact .int i
  | str z => cases h; exact .str z
  | byt b => cases h
  | flt b => cases h
  | ty n => cases h
  | ref a =>
    simp only [tyS] at h
    split at h
    . rename_i e; cases h; exact .lst e
    . rename_i e; cases h; exact .frz e
    . rename_i e; cases h; exact .tup e
    . rename_i e; cases h; exact .dK e
    . rename_i e; cases h; exact .dT e
    . cases h
def z4G (T c : String) : Bool := T == c || (T == "bool" && c == "int")
def z4H : List String := ["NoneType", "bool", "int", "str", "list", "tuple", "dict"]
theorem z3K : ∀ T ∈ z4H, ∀ c ∈ z4H, (if (Value.type T == Value.type c) = true then some true else if PySem.W.kitMeta c = true then (PySem.fastBuiltinMro T).map (·.contains (.type c)) else none) = some (z4G T c) := by decide +kernel
theorem z4I {K : PySem.W.Frag} {T c : String} (hT : T ∈ z4H) (hc : c ∈ z4H) : PySem.W.kitOne K (.type T) (.type c) = some (z4G T c) := z3K T hT c hc
theorem z3L {H : Hp} {x : V} {T : String} (h : tyS H x = some T) : T ∈ z4H := by
  cases x with
  | non => cases h; decide
  | bl b => cases h; decide
  | int i => cases h; decide
  | str z => cases h; decide
  | byt b => cases h
  | flt b => cases h
  | ty n => cases h
  | ref a =>
    simp only [tyS] at h
    split at h <;> first | (cases h; decide) | cases h
theorem z11 : CallR X (.builtin "isinstance") (fun xs H Q => ∃ x c T, xs = [x, .ty c] /\ c ∈ z4H /\ tyS H x = some T /\ Q (.bl (z4G T c)) H) := by
  intro pins s σ H xs us Q I r h
  obtain ⟨x, c, T, rfl, hc, ht, q⟩ := h
  obtain ⟨v, w', rfl, rx, ry⟩ := vals2 r
  cases (show w' = Value.type c from ry)
  exact z39 I rx (z4s ht) (z4I (z3L ht) hc) fun tk => ⟨.bl (z4G T c), H, I.tok tk, rfl, q⟩
end
theorem z1F {cells : List (Str × Addr)} {f : Str × NameKind -> List (Str × Addr) -> Sem (ForInStep (List (Str × Addr)))}
    (hf : ∀ n k r c, k = NameKind.free -> cells.lookup n = some c -> f (n, k) r = pure (.yield ((n, c) :: r))) (hg : ∀ n k r, k ≠ NameKind.free -> f (n, k) r = pure (.yield r)) :
    ∀ (names : List (Str × NameKind)) (acc : List (Str × Addr)), (∀ y ∈ names, y.2 = .free -> ∃ c, cells.lookup y.1 = some c) -> (∀ x c, acc.lookup x = some c -> cells.lookup x = some c) ->
      ∃ cl, forIn names acc f = (pure cl : Sem _) /\ (∀ x c, cl.lookup x = some c -> cells.lookup x = some c) /\ (∀ x c, acc.lookup x = some c -> ∃ d, cl.lookup x = some d) /\ ∀ y ∈ names, y.2 = .free -> ∃ d, cl.lookup y.1 = some d
  | [], acc, _, ha => ⟨acc, by rw [List.forIn_nil], ha, fun x c e => ⟨c, e⟩, fun _ hy => nomatch hy⟩
  | (n, k) :: r, acc, hn, ha => by
    have hr : ∀ y ∈ r, y.2 = .free -> ∃ c, cells.lookup y.1 = some c := fun y hy => hn y (List.mem_cons_of_mem _ hy)
    by_cases hk : k = .free
    . obtain ⟨c, hc⟩ := hn (n, k) List.mem_cons_self hk
      have ha' : ∀ x d, ((n, c) :: acc).lookup x = some d -> cells.lookup x = some d := fun x d e => by
        rw [List.lookup_cons] at e
        cases hx : x == n with
        | true =>
          rw [hx] at e
          cases e
          rw [beq_iff_eq.mp hx]
          exact hc
        | false =>
          rw [hx] at e
          exact ha x d e
      obtain ⟨cl, e, h1, h2, h3⟩ := z1F hf hg r ((n, c) :: acc) hr ha'
      have hh : ∀ x d, acc.lookup x = some d -> ∃ d', cl.lookup x = some d' := fun x d q => by
        cases hx : x == n with
        | true => exact h2 x c (by rw [List.lookup_cons, hx])
        | false => exact h2 x d (by rw [List.lookup_cons, hx]; exact q)
      refine ⟨cl, ?_, h1, hh, fun y hy e' => ?_⟩
      . rw [List.forIn_cons, hf n k acc c hk hc, pure_bind]
        exact e
      . rcases List.mem_cons.mp hy with rfl | hy
        . exact h2 n c (by rw [List.lookup_cons, beq_self_eq_true])
        . exact h3 y hy e'
    . obtain ⟨cl, e, h1, h2, h3⟩ := z1F hf hg r acc hr ha
      refine ⟨cl, ?_, h1, h2, fun y hy e' => ?_⟩
      . rw [List.forIn_cons, hg n k acc hk, pure_bind]
        exact e
      . rcases List.mem_cons.mp hy with rfl | hy
        . exact absurd e' hk
        . exact h3 y hy e'
theorem z3M {sc : Scope} {env : Env} (hfree : ∀ y ∈ sc.names, y.2 = .free -> ∃ c, env.cells.lookup y.1 = some c) :
    ∃ cl : List (Str × Addr), closureFor sc env = pure cl /\ (∀ x c, cl.lookup x = some c -> env.cells.lookup x = some c) /\ ∀ y ∈ sc.names, y.2 = .free -> ∃ c, cl.lookup y.1 = some c := by
  obtain ⟨cl, e, h1, _, h3⟩ := z1F (cells := env.cells) (f := fun (y : Str × NameKind) r => if (y.2 == NameKind.free) = true then (do let a <- cellOf env y.1; pure (ForInStep.yield ((y.1, a) :: r))) else pure (ForInStep.yield r))
    (fun n k r c hk hc => by
      subst hk
      show (if (NameKind.free == NameKind.free) = true then (cellOf env n >>= fun a => pure (ForInStep.yield ((n, a) :: r))) else pure (ForInStep.yield r)) = _
      rw [if_pos (show (NameKind.free == NameKind.free) = true by decide)]
      have e : cellOf env n = pure c := by unfold cellOf; rw [hc]
      rw [e, pure_bind])
    (fun n k r hk => by
      show (if (k == NameKind.free) = true then (cellOf env n >>= fun a => pure (ForInStep.yield ((n, a) :: r))) else pure (ForInStep.yield r)) = _
      rw [if_neg (by simpa using hk)])
    sc.names [] hfree (fun x c q => nomatch q)
  refine ⟨cl, ?_, h1, h3⟩
  unfold closureFor
  first
    | (rw [e]; rfl)
    | (refine Eq.trans (congrArg (fun t => t >>= fun cs => pure cs) e) ?_; rw [pure_bind])
    | (simp only [bind_pure]; exact e)
theorem z0X {env : Env} : ∀ {names : List (Str × NameKind)} {x : Str}, names.lookup x = some .free ->
    ((names.map fun (n, k) => if (k == NameKind.free && env.scope.kind == .function && env.kindOf n == some .cell) then (n, NameKind.cell) else (n, k)).lookup x = some .cell) \/
    ((names.map fun (n, k) => if (k == NameKind.free && env.scope.kind == .function && env.kindOf n == some .cell) then (n, NameKind.cell) else (n, k)).lookup x = some .free)
  | [], _, h => by cases h
  | (n, k) :: r, x, h => by
    have ih := @z0X env r x
    rw [List.map_cons]
    cases hx : x == n with
    | true =>
      rw [List.lookup_cons, hx] at h
      cases h
      by_cases hc : (NameKind.free == NameKind.free && env.scope.kind == .function && env.kindOf n == some .cell) = true
      . left
        show List.lookup x ((if (NameKind.free == NameKind.free && env.scope.kind == .function && env.kindOf n == some .cell) = true then (n, NameKind.cell) else (n, NameKind.free)) :: _) = _
        rw [if_pos hc, List.lookup_cons, hx]
      . right
        show List.lookup x ((if (NameKind.free == NameKind.free && env.scope.kind == .function && env.kindOf n == some .cell) = true then (n, NameKind.cell) else (n, NameKind.free)) :: _) = _
        rw [if_neg hc, List.lookup_cons, hx]
    | false =>
      rw [List.lookup_cons, hx] at h
      have z : ∀ (y : Str × NameKind) (t : List (Str × NameKind)), y.1 = n -> List.lookup x (y :: t) = List.lookup x t := fun y t e => by
        obtain ⟨y1, y2⟩ := y
        cases (show y1 = n from e)
        rw [List.lookup_cons, hx]
      rw [z _ _ (by
        show (if (k == NameKind.free && env.scope.kind == .function && env.kindOf n == some .cell) = true then (n, NameKind.cell) else (n, k)).1 = n
        split <;> rfl)]
      exact ih h
theorem z0m {env : Env} : ∀ {names : List (Str × NameKind)} {x : Str}, (∀ y ∈ names, y.2 ≠ .cell) ->
    (((names.map fun (n, k) => if (k == NameKind.free && env.scope.kind == .function && env.kindOf n == some .cell) then (n, NameKind.cell) else (n, k)).lookup x = some .cell) \/
    ((names.map fun (n, k) => if (k == NameKind.free && env.scope.kind == .function && env.kindOf n == some .cell) then (n, NameKind.cell) else (n, k)).lookup x = some .free)) -> ∃ y ∈ names, y.1 = x /\ y.2 = .free
  | [], _, _, h => by rcases h with h | h <;> cases h
  | (n, k) :: r, x, hc, h => by
    have ih := @z0m env r x fun y hy => hc y (List.mem_cons_of_mem _ hy)
    rw [List.map_cons] at h
    cases hx : x == n with
    | true =>
      have e : x = n := beq_iff_eq.mp hx
      by_cases hk : k = .free
      . exact ⟨(n, k), List.mem_cons_self, e.symm, hk⟩
      . exfalso
        have q : (if (k == NameKind.free && env.scope.kind == .function && env.kindOf n == some .cell) = true then (n, NameKind.cell) else (n, k)) = (n, k) := by
          rw [if_neg]
          intro z
          rw [Bool.and_eq_true, Bool.and_eq_true] at z
          exact hk (by simpa using z.1.1)
        have h' : List.lookup x ((n, k) :: (r.map fun (n, k) => if (k == NameKind.free && env.scope.kind == .function && env.kindOf n == some .cell) then (n, NameKind.cell) else (n, k))) = some .cell \/
            List.lookup x ((n, k) :: (r.map fun (n, k) => if (k == NameKind.free && env.scope.kind == .function && env.kindOf n == some .cell) then (n, NameKind.cell) else (n, k))) = some .free := by
          rw [<- q]
          exact h
        rw [List.lookup_cons, hx] at h'
        rcases h' with z | z
        . exact hc (n, k) List.mem_cons_self (Option.some.inj z)
        . exact hk (Option.some.inj z)
    | false =>
      have z : ∀ (y : Str × NameKind) (t : List (Str × NameKind)), y.1 = n -> List.lookup x (y :: t) = List.lookup x t := fun y t e => by
        obtain ⟨y1, y2⟩ := y
        cases (show y1 = n from e)
        rw [List.lookup_cons, hx]
      rw [z _ _ (by
        show (if (k == NameKind.free && env.scope.kind == .function && env.kindOf n == some .cell) = true then (n, NameKind.cell) else (n, k)).1 = n
        split <;> rfl)] at h
      obtain ⟨y, hy, e⟩ := ih h
      exact ⟨y, List.mem_cons_of_mem _ hy, e⟩
def z1H (X : Cx) (locs : List Str) (ix : List Nat) : List Str := locs ++ ix.map fun i => X.N.getD i Str.empty
def z3x (k : Nat) (ix : List Nat) (σ : St) : St := List.replicate k none ++ ix.map fun i => (σ[i]?).join
abbrev cxC (X : Cx) (sc : Scope) (cl : List (Str × Addr)) (C : Addr) (N : List Str) (fp : List Addr) (s2 : Shared) (H2 : Hp) (pn : List (Addr × Obj)) : Cx :=
  { X with N := N, s₀ := s2, H₀ := H2, env := compEnvC sc cl C X.env, outer := X.stack, ex := fp, fn := fun _ => false, pn := pn, xe := fun _ _ => False }
structure BlkSc (X : Cx) (sc : Scope) (locs : List Str) (ix : List Nat) : Prop where
  kind : sc.kind = .function
  cell : ∀ y ∈ sc.names, y.2 ≠ .cell
  free : ∀ y ∈ sc.names, y.2 = .free -> X.env.kindOf y.1 = some .cell \/ X.env.kindOf y.1 = some .free
  names : ∀ y ∈ sc.names, y.2 = .local -> sc.names.lookup y.1 = some .local
  fr : ∀ i ∈ ix, ∃ x, X.N[i]? = some x /\ sc.names.lookup x = some .free
section
variable {X : Cx} {pins : List (Addr × Obj)} {σ : St} {H2 : Hp} {s2 : Shared} {sc : Scope} {cl : List (Str × Addr)} {locs : List Str} {ix : List Nat} {fp : List Addr}
theorem z0q {names : List (Str × NameKind)} {x : Str} {k : NameKind} : names.lookup x = some k -> (x, k) ∈ names := by
  induction names with
  | nil => intro h; cases h
  | cons y r ih =>
    obtain ⟨n, j⟩ := y
    intro h
    rw [List.lookup_cons] at h
    cases hx : x == n with
    | true =>
      rw [hx] at h
      cases h
      rw [beq_iff_eq.mp hx]
      exact List.mem_cons_self
    | false =>
      rw [hx] at h
      exact List.mem_cons_of_mem _ (ih h)
theorem z4t (I : Inv X pins σ H2 s2) (B : BlkSc X sc locs ix) (hcl : ∀ x c, cl.lookup x = some c -> X.env.cells.lookup x = some c) (hcl' : ∀ y ∈ sc.names, y.2 = .free -> ∃ c, cl.lookup y.1 = some c)
    (hf : ∀ b ∈ fp, z30 X pins H2 b) {C : Addr} (hC : s2.heap.objs.size <= C) (hfC : ∀ b ∈ fp, b ≠ C) {N : List Str} {pn : List (Addr × Obj)} : (cxC X sc cl C N fp s2 H2 pn).Ok where
  mod := I.ok.mod
  kind := B.kind
  glob := I.ok.glob
  blt := I.ok.blt
  above := hC
  inj := fun x y c h1 h2 => I.ok.inj x y c (hcl x c h1) (hcl y c h2)
  has := fun x h => by
    obtain ⟨y, hy, e, hk⟩ := z0m (env := X.env) B.cell h
    subst e
    exact hcl' y hy hk
  cab := fun x c h _ => nomatch h
  hd := I.ok.hd
  frames := I.ok.frames
  stk := .inl rfl
  exf := fun b hb => ⟨hfC b hb, fun x c e => (hf b hb).2.2.2.2.1 x c (hcl x c e)⟩
  bs := fun b o e => I.bs b o e
  bsz := Nat.le_trans I.ok.bsz I.sz
  noex := fun b o e hb => by
    obtain ⟨_, _, _, h4, _⟩ := hf b hb
    rcases h4 with h | h
    . exact I.ok.noex b o e h
    . exact absurd (Nat.lt_of_lt_of_le (Nat.lt_of_lt_of_le (Heap.lt_size e) I.ok.bsz) h) (Nat.lt_irrefl _)
  exfs := fun b hb z => by
    obtain ⟨_, h2, h3, _⟩ := hf b hb
    rcases List.mem_cons.mp (I.stkSub b z) with e | e
    . exact h2 e
    . exact h3 e
  funs := I.stack
  frf := I.stkFree
theorem z3N (I : Inv X pins σ H2 s2) (B : BlkSc X sc locs ix) (hcl : ∀ x c, cl.lookup x = some c -> X.env.cells.lookup x = some c) (hcl' : ∀ y ∈ sc.names, y.2 = .free -> ∃ c, cl.lookup y.1 = some c)
    (hf : ∀ b ∈ fp, z30 X pins H2 b) (hfl : ∀ b ∈ fp, b < s2.heap.objs.size) {h1 : Heap} {tk : Nat} {m0 : Str -> Option Value} {D C : Addr} {oD : Obj} (hD : s2.heap.objs.size <= D) (hC : s2.heap.objs.size <= C) (hDC : D ≠ C)
    (old : ∀ b o, s2.heap.get? b = some o -> h1.get? b = some o) (ns : h1.Ns C m0) (gD : h1.get? D = some oD) (dD : ∀ v, oD.data ≠ .cell v) :
    Inv (cxC X sc cl C (z1H X locs ix) fp s2 H2 (X.pn ++ pins)) [(D, oD)] (z3x locs.length ix σ) H2 { s2 with heap := h1, toks := tk } := by
  have low : ∀ b o, s2.heap.get? b = some o -> b < s2.heap.objs.size := fun b o e => Heap.lt_size e
  have nst : ∀ b, s2.heap.objs.size <= b -> b ∉ frs X.stack := fun b hb z => by
    obtain ⟨_, o, ho, _⟩ := I.stack.mem z
    exact absurd (Nat.lt_of_lt_of_le (low b o ho) hb) (Nat.lt_irrefl _)
  refine ⟨z4t I B hcl hcl' hf hC fun b hb => Nat.ne_of_lt (Nat.lt_of_lt_of_le (hfl b hb) hC), rfl, I.bare, Un.kept old, ⟨m0, ns, fun i x v e1 e2 e3 => ?_⟩, fun x c e => ?_, I.hok.fresh hC, fun x c e => I.freeC x c (hcl x c e), fun p hp => ?_, I.hok.kept old, ?_⟩
  . have e2' : (z3x locs.length ix σ)[i]? = some (some v) := e2
    have e1' : (z1H X locs ix)[i]? = some x := e1
    unfold z3x at e2'
    unfold z1H at e1'
    by_cases hi : i < locs.length
    . rw [List.getElem?_append_left (by rw [List.length_replicate]; exact hi), List.getElem?_replicate, if_pos hi] at e2'
      cases e2'
    . rw [List.getElem?_append_right (by rw [List.length_replicate]; omega), List.length_replicate, List.getElem?_map] at e2'
      rw [List.getElem?_append_right (by omega), List.getElem?_map] at e1'
      cases hj : ix[i - locs.length]? with
      | none =>
        rw [hj] at e2'
        cases e2'
      | some j =>
        rw [hj] at e2' e1'
        have e4 : (σ[j]?).join = some v := Option.some.inj e2'
        have e5 : X.N.getD j Str.empty = x := Option.some.inj e1'
        obtain ⟨x', hx', hfree⟩ := B.fr j (List.mem_of_getElem? hj)
        have e6 : x' = x := by
          rw [<- e5, List.getD_eq_getElem?_getD, hx']
          rfl
        subst e6
        have e7 : σ[j]? = some (some v) := by
          cases hs : σ[j]? with
          | none => rw [hs] at e4; cases e4
          | some o =>
            rw [hs] at e4
            cases o with
            | none => cases e4
            | some w => cases e4; rfl
        have hk := B.free (x', .free) (z0q hfree) rfl
        obtain ⟨m, _, hl⟩ := I.loc
        obtain ⟨u, r, l⟩ := hl j x' v hx' e7 (hk.elim (fun z => .inr (.inl z)) fun z => .inr (.inr z))
        refine ⟨u, r, .inr ⟨z0X (env := X.env) hfree, ?_⟩⟩
        obtain ⟨c, hc⟩ := hcl' (x', .free) (z0q hfree) rfl
        rcases l with ⟨k, _⟩ | ⟨_, c', hc', z⟩
        . rcases hk with hk | hk
          . rw [hk] at k; cases k
          . rw [hk] at k; cases k
        . have q := hcl x' c hc
          rw [hc'] at q
          cases q
          obtain ⟨o, ho, hd⟩ := z
          exact ⟨_, hc, o, old _ _ ho, hd⟩
  . obtain ⟨v, o, ho, hd⟩ := I.cell x c (hcl x c e)
    exact ⟨v, o, old _ _ ho, hd⟩
  . rcases List.mem_append.mp hp with hp | hp
    . obtain ⟨e, n, ne, nf, d⟩ := I.pin p hp
      refine ⟨old _ _ e, n, Nat.ne_of_lt (Nat.lt_of_lt_of_le (low _ _ e) hC), fun z => ?_, d⟩
      rcases List.mem_cons.mp (I.stkSub p.1 z) with q | q
      . exact ne q
      . exact nf q
    . have e : p = (D, oD) := by simpa using hp
      subst e
      exact ⟨gD, I.hok.fresh hD, hDC, nst D hD, dD⟩
  . show (z3x locs.length ix σ).length = (z1H X locs ix).length
    unfold z3x z1H
    rw [List.length_append, List.length_append, List.length_replicate, List.length_map, List.length_map]
theorem z3n {N : List Str} {pn : List (Addr × Obj)} {C D : Addr} {s' : Shared} {σ' : St} {H' : Hp} {ys : List V} {its : List Value} {n : Nat} (I : Inv X pins σ H2 s2) (hf : ∀ b ∈ fp, z30 X pins H2 b) (hD : s2.heap.objs.size <= D)
    (I' : Inv (cxC X sc cl C N fp s2 H2 pn) [(D, { cls := .type "list", data := .seq its.toArray n })] σ' H' s') (hv : Vals ys its) (hz : ys.length <= sizeLine) : H' D = none /\ Inv X pins σ (upd H' D (.lst ys)) s' := by
  obtain ⟨gD, nD, _⟩ := I'.pin (D, { cls := .type "list", data := .seq its.toArray n }) (List.mem_append_right _ List.mem_cons_self)
  have low : ∀ b o, s2.heap.get? b = some o -> b ≠ D := fun b o e => Nat.ne_of_lt (Nat.lt_of_lt_of_le (Heap.lt_size e) hD)
  have lowH : ∀ b o, H2 b = some o -> b ≠ D := fun b o e => Nat.ne_of_lt (Nat.lt_of_lt_of_le (I.hok.lt e) hD)
  have U : Un (frs X.stack) fp H2 H' s2.heap s'.heap := I'.base
  refine ⟨nD, I.call' (ch := fp) I'.os ⟨U.keep, U.slot, fun b o e hn hx => ?_, U.there, fun b xs e => ?_, fun b o u e => ?_, fun b ps e => ?_⟩ (fun b u e => ?_) I'.bare fun b hb => ?_⟩
  . rw [z04 (low b o e)]
    exact U.free b o e hn hx
  . rw [z04 (lowH b _ e)]
    exact U.tups b xs e
  . rw [z04 (lowH b _ e)]
    exact U.frzs b o u e
  . rw [z04 (lowH b _ e)]
    exact U.tbls b ps e
  . by_cases hb : b = D
    . subst hb
      rw [z01] at e
      cases e
      exact ⟨hz, its, n, hv, gD⟩
    . rw [z04 hb] at e
      exact (I'.hok b u e).stay (fun _ _ _ q => q) (fun c q => by rw [z04 (z0G q nD)]; exact q) fun c xs q => by rw [z04 (z0G q nD)]; exact q
  . obtain ⟨_, f1, _, f3, f4, f5⟩ := hf b hb
    exact ⟨f3, f1, f4, f5⟩
end
section
variable {prog : Program} {w : World} {A : Around} {R : Result -> Shared -> Prop} {s : Shared}
theorem z3O {elt tgt src : Expr} {tests : List Expr} {sc : Scope} {p : Pos} {itv acc : Value} {ev : Env} (J : Nat -> Shared -> Prop)
    (turn : ∀ n s, J n s -> wpAny (model prog w) A (pyNext itv) (fun r s1 => match r with
      | none => R (.ok .next) s1
      | some v => wpAny (model prog w) A (letOwnedTupleGo tgt itv v) (fun _ s2 => wpAny (model prog w) A (assign tgt ev v) (fun _ s3 =>
          wpAny (model prog w) A (forIn tests true fun c r => if r = true then do let ok <- isTrue c ev (eval c ev); pure (ForInStep.yield ok) else pure (ForInStep.yield r)) (fun ok s4 =>
            if ok = true then wpAny (model prog w) A (eval elt ev) (fun x s5 => wpAny (model prog w) A (call (.builtin "list.append") [acc, x]) (fun _ s6 => ∃ m, m < n /\ J m s6) (fun _ _ => False) s5) (fun _ _ => False) s4
            else ∃ m, m < n /\ J m s4) (fun _ _ => False) s3) (fun _ _ => False) s2) (fun _ _ => False) s1) (fun _ _ => False) s)
    (n : Nat) (h : J n s) : codeAny (model prog w) A (.compLoop (.ListComp elt [⟨tgt, src, tests, 0⟩] sc p) 0 itv acc ev) R s := by
  refine codeAny_loop rfl J (fun n s hJ => ?_) n h
  show wpAny _ A ((compTurn (.ListComp elt [⟨tgt, src, tests, 0⟩] sc p) 0 itv acc ev).onRaise (fun x => do noteFrame x ev; theTreesLotGoes x)) _ _ s
  refine wpAny_noted (wpAny_noRaise ?_)
  rw [compTurn_list]
  refine wpAny_bind (wpAny_standAt (wpAny_bind (thn (turn n s hJ) fun r s1 h1 => ?_)))
  cases r with
  | none => exact wpAny_pure h1
  | some v =>
    refine wpAny_bind (thn h1 fun _ s2 h2 => wpAny_bind (thn h2 fun _ s3 h3 => wpAny_bind (thn h3 fun ok s4 h4 => ?_)))
    cases ok with
    | false => exact wpAny_pure ⟨rfl, h4⟩
    | true => exact wpAny_bind (wpAny_bind (thn h4 fun x s5 h5 => wpAny_bind (thn h5 fun _ s6 h6 => wpAny_pure (wpAny_pure ⟨rfl, h6⟩))))
end
def PTs (X : Cx) (tests : List Expr) (t : TT) : Prop :=
  ∀ (pins : List (Addr × Obj)) (s : Shared) (σ : St) (H : Hp) (Q : Bool -> Hp -> Prop), Inv X pins σ H s -> t σ H Q ->
    wpAny (model X.prog X.w) X.A (forIn tests true fun c r => if r = true then do let ok <- isTrue c X.env (eval c X.env); pure (ForInStep.yield ok) else pure (ForInStep.yield r)) (TP X pins σ Q) X.xe s
def z6c : TT := fun _ H Q => Q true H
theorem z0u {X : Cx} : PTs X [] z6c := fun _ _ _ H _ I h => wpAny_tests_nil ⟨H, I, h⟩
def z3o (J : It) (g : TG) (tt : TT) (te : TE) (Fin : List V -> Hp -> Prop) (W : Nat -> Nat -> St -> List V -> Hp -> Prop) : Prop :=
  ∀ i m σ ys H, W i m σ ys H -> (J.stop i H /\ ys.length <= sizeLine /\ Fin ys H) \/
    (J.go i H /\ ys.length < sizeLine /\ ∀ x H', J.yld i H x H' -> g x σ H' fun σ2 H2 => tt σ2 H2 fun b H3 => if b = true then te σ2 H3 fun y H4 => ∃ m', m' < m /\ W (i + 1) m' σ2 (ys ++ [y]) H4 else ∃ m', m' < m /\ W (i + 1) m' σ2 ys H3)
def z5m (wi : TI) (k : Nat) (ix : List Nat) (g : TG) (tt : TT) (te : TE) : TE := fun σ H Q => wi σ H fun J H1 =>
  ∃ W : Nat -> Nat -> St -> List V -> Hp -> Prop, (∃ m, W 0 m (z3x k ix σ) [] H1) /\ z3o J g tt te (fun ys H => ∀ l, H l = none -> Q (.ref l) (upd H l (.lst ys))) W
section
variable {X : Cx} {elt tgt iter : Expr} {tests : List Expr} {sc : Scope} {pos : Pos} {locs : List Str} {ix : List Nat} {wi : TI} {g : TG} {tt : TT} {te : TE}
theorem z1N {pins : List (Addr × Obj)} {σ : St} {H2 : Hp} {s2 : Shared} {cl : List (Str × Addr)} {fp : List Addr} {it : Addr} {tn : Nat -> Heap -> Prop} {J : It} {W : Nat -> Nat -> St -> List V -> Hp -> Prop} {Fin : List V -> Hp -> Prop} {RR : Value -> Addr -> Result -> Shared -> Prop} {m0 : Nat} {E : Value -> Shared -> Prop}
    (hc : X.calm = true) (B : BlkSc X sc locs ix)
    (hg : ∀ cl C fp s2 H2 pn, PG (cxC X sc cl C (z1H X locs ix) fp s2 H2 pn) tgt g) (ht : ∀ cl C fp s2 H2 pn, PTs (cxC X sc cl C (z1H X locs ix) fp s2 H2 pn) tests tt) (he : ∀ cl C fp s2 H2 pn, PE (cxC X sc cl C (z1H X locs ix) fp s2 H2 pn) elt te)
    (I : Inv X pins σ H2 s2) (T : Turn X.prog X.w X.K tgt J fp it tn) (st2 : tn 0 s2.heap) (hf : ∀ b ∈ fp, z30 X pins H2 b)
    (hcl : ∀ x c, cl.lookup x = some c -> X.env.cells.lookup x = some c) (hcl' : ∀ y ∈ sc.names, y.2 = .free -> ∃ c, cl.lookup y.1 = some c)
    (w0 : W 0 m0 (z3x locs.length ix σ) [] H2) (turn : z3o J g tt te Fin W)
    (hR : ∀ D C s' H' ys m, H' D = none -> s2.heap.objs.size <= C -> H' C = none -> C ≠ D -> Inv X pins σ (upd H' D (.lst ys)) s' -> Fin ys H' -> s'.heap.Ns C m -> RR (.ref D) C (.ok .next) s') :
    wpAny (model X.prog X.w) X.A (newList []) (fun acc s₃ => wpAny (model X.prog X.w) X.A (newFunctionEnv sc X.env.globals cl [] X.env.qual none .none (some X.env)) (fun cenv s₄ =>
      codeAny (model X.prog X.w) X.A (.compStart (.ListComp elt [⟨tgt, iter, tests, 0⟩] sc pos) 0 (.ref it) acc { cenv with scope := relabel sc X.env }) (RR acc cenv.locals) s₄) E s₃) E s2 := by
  refine wpAny_newObj_type (wpAny_newFunctionEnv B.cell (by intro y hy; cases hy) (fun h1 ns1 sb1 => ?_) B.kind)
  dsimp only at ns1 sb1 ⊢
  generalize eH : s2.heap.push { cls := .type "list", dict := none, data := .seq ([] : List Value).toArray } = G at ns1 sb1 ⊢
  have zG : G.objs.size = s2.heap.objs.size + 1 := by rw [<- eH, Heap.size_push]
  have hDC : s2.heap.objs.size ≠ G.objs.size := by omega
  have old : ∀ b o, s2.heap.get? b = some o -> h1.get? b = some o := fun b o e => sb1.extBut b o (Nat.ne_of_lt (Nat.lt_of_lt_of_le (Heap.lt_size e) (by omega))) (Heap.get?_push_of_some _ (eH ▸ Heap.get?_push_of_some _ e))
  have gD : h1.get? s2.heap.objs.size = some { cls := .type "list", data := .seq ([] : List Value).toArray 0 } := sb1.extBut _ _ hDC (Heap.get?_push_of_some _ (eH ▸ Heap.get?_push_size _ rfl))
  have hfl : ∀ b ∈ fp, b < s2.heap.objs.size := fun b hb => by
    obtain ⟨o, e, _⟩ := T.obj 0 s2.heap st2 b hb
    exact Heap.lt_size e
  have Y := fun tk => z3N (tk := tk) (locs := locs) I B hcl hcl' hf hfl (Nat.le_refl _) (by omega : s2.heap.objs.size <= G.objs.size) hDC old ns1 gD (fun v z => by cases z)
  have st1 : tn 0 h1 := T.keep 0 _ _ st2 fun b _ o e => old b o e
  have stat : ∀ {oD : Obj} {H' : Hp}, (∀ b ∈ fp, H' b = none) -> ∀ b ∈ fp, z30 (cxC X sc cl G.objs.size (z1H X locs ix) fp s2 H2 (X.pn ++ pins)) [(s2.heap.objs.size, oD)] H' b := fun {oD H'} hn b hb => by
    obtain ⟨_, f1, f2, _, f4, f5⟩ := hf b hb
    refine ⟨hn b hb, Nat.ne_of_lt (Nat.lt_of_lt_of_le (hfl b hb) (by show s2.heap.objs.size <= G.objs.size; omega)), fun z => ?_, .inl hb, fun x c e => f4 x c (hcl x c e), fun p hp => ?_⟩
    . rcases List.mem_cons.mp (I.stkSub b z) with q | q
      . exact f1 q
      . exact f2 q
    . rcases List.mem_append.mp hp with hp | hp
      . exact f5 p hp
      . have e : p = (s2.heap.objs.size, oD) := by simpa using hp
        rw [e]
        exact Nat.ne_of_gt (hfl b hb)
  have loop : ∀ tk, codeAny (model X.prog X.w) X.A (.compLoop (.ListComp elt [⟨tgt, iter, tests, 0⟩] sc pos) 0 (.ref it) (.ref s2.heap.objs.size) (compEnvC sc cl G.objs.size X.env)) (RR (.ref s2.heap.objs.size) G.objs.size) { s2 with heap := h1, toks := tk } := by
    intro tk
    refine z3O (fun n s => ∃ i σ' ys its nn H', Inv (cxC X sc cl G.objs.size (z1H X locs ix) fp s2 H2 (X.pn ++ pins)) [(s2.heap.objs.size, { cls := .type "list", data := .seq (List.toArray its) nn })] σ' H' s /\ tn i s.heap /\ (∀ b ∈ fp, H' b = none) /\ Vals ys its /\ W i n σ' ys H') ?_ m0
      ⟨0, _, [], [], 0, H2, Y tk, st1, fun b hb => (hf b hb).1, .nil, w0⟩
    rintro n s ⟨i, σ', ys, its, nn, H', I1, st, fr, hv, hw⟩
    rcases turn i n σ' ys H' hw with ⟨stop, hz, fin⟩ | ⟨go, hz, step⟩
    . refine thn (T.done (cxC X sc cl G.objs.size (z1H X locs ix) fp s2 H2 (X.pn ++ pins)) rfl rfl rfl hc i _ s σ' H' (fun _ _ => False) I1 (stat fr) st stop) fun r s1 ⟨er, I2⟩ => ?_
      subst er
      obtain ⟨nD, I3⟩ := z3n I hf (Nat.le_refl _) I2 hv hz
      obtain ⟨m, ns, _⟩ := I2.loc
      exact hR _ _ s1 H' ys m nD (by omega) I2.free (Ne.symm hDC) I3 fin ns
    . refine thn (T.item (cxC X sc cl G.objs.size (z1H X locs ix) fp s2 H2 (X.pn ++ pins)) rfl rfl rfl hc i _ s σ' H' (fun _ _ => False) I1 (stat fr) st go) fun r s3 ⟨u, er, h3⟩ => ?_
      subst er
      refine thn h3 fun _ s5 ⟨x, H5, I5, r5, y5, st5, fr5⟩ => ?_
      have I5' := I5.pinned (stat fr5) (T.obj _ _ st5)
      refine thn (hg cl G.objs.size fp s2 H2 (X.pn ++ pins) _ s5 σ' H5 x u _ I5' r5 (step x H5 y5)) fun _ s6 ⟨σ6, H6, I6, q6⟩ => ?_
      refine thn (ht cl G.objs.size fp s2 H2 (X.pn ++ pins) _ s6 σ6 H6 _ I6 q6) fun b s7 ⟨H7, I7, q7⟩ => ?_
      have tn7 : ∀ {s' : Shared} {σ'' : St} {H'' : Hp}, Inv (cxC X sc cl G.objs.size (z1H X locs ix) fp s2 H2 (X.pn ++ pins)) ([(s2.heap.objs.size, { cls := .type "list", data := .seq (List.toArray its) nn })] ++ z1n fp s5.heap) σ'' H'' s' -> tn (i + 1) s'.heap /\ ∀ b ∈ fp, H'' b = none := fun J => by
        refine ⟨T.keep _ _ _ st5 fun b hb o e => (J.pin (b, o) (List.mem_append_right _ (List.mem_append_right _ (z0n hb e)))).1, fun b hb => ?_⟩
        obtain ⟨o, e, d⟩ := T.obj _ _ st5 b hb
        exact (J.pin (b, o) (List.mem_append_right _ (List.mem_append_right _ (z0n hb e)))).2.1
      cases b with
      | false =>
        obtain ⟨m', hm, w'⟩ := q7
        exact ⟨m', hm, i + 1, σ6, ys, its, nn, H7, I7.unpinned, (tn7 I7).1, (tn7 I7).2, hv, w'⟩
      | true =>
        refine thn (he cl G.objs.size fp s2 H2 (X.pn ++ pins) _ s7 σ6 H7 _ I7 q7) fun y s8 ⟨yv, H8, I8, r8, q8⟩ => ?_
        obtain ⟨m', hm, w'⟩ := q8
        obtain ⟨gD8, nD8, _⟩ := I8.pin (s2.heap.objs.size, { cls := .type "list", data := .seq (List.toArray its) nn }) (List.mem_append_right _ (List.mem_append_left _ List.mem_cons_self))
        have hl := hv.length
        refine append_at (hsz := by rw [List.size_toArray]; omega) gD8 fun h9 sb9 gD9 => ?_
        have Iu : Inv (cxC X sc cl G.objs.size (z1H X locs ix) fp s2 H2 (X.pn ++ pins)) [] σ6 H8 s8 := I8.pins_of fun p hp => nomatch hp
        have It : Inv (cxC X sc cl G.objs.size (z1H X locs ix) fp s2 H2 (X.pn ++ pins)) [] σ6 H8 { s8 with heap := h9, toks := s8.toks } := Iu.turned (fun b o hb e => (sb9.2 b hb).trans e) nD8 hDC (.inr (Nat.le_refl _))
          (fun x c e => by
            obtain ⟨v, o, ho, _⟩ := I.cell x c (hcl x c e)
            exact Nat.ne_of_lt (Heap.lt_size ho))
          (fun p hp => by
            rcases List.mem_append.mp hp with hp | hp
            . exact Nat.ne_of_lt (Heap.lt_size (I.pin p hp).1)
            . cases hp)
        have gD9' : h9.get? s2.heap.objs.size = some { cls := .type "list", data := .seq (its ++ [y]).toArray (nn + 1) } := by
          rw [gD9, List.push_toArray]
        have In : Inv (cxC X sc cl G.objs.size (z1H X locs ix) fp s2 H2 (X.pn ++ pins)) [(s2.heap.objs.size, { cls := .type "list", data := .seq (its ++ [y]).toArray (nn + 1) })] σ6 H8 { s8 with heap := h9, toks := s8.toks } := It.pins_of fun p hp => by
          have e : p = (s2.heap.objs.size, { cls := .type "list", data := .seq (its ++ [y]).toArray (nn + 1) }) := by simpa using hp
          subst e
          refine ⟨gD9', nD8, hDC, fun z => ?_, fun v z => by cases z⟩
          obtain ⟨_, o, ho, _⟩ := I.stack.mem z
          exact absurd (Heap.lt_size ho) (Nat.lt_irrefl _)
        refine ⟨m', hm, i + 1, σ6, ys ++ [yv], its ++ [y], nn + 1, H8, In, ?_, (tn7 I8).2, Vals.append hv (.cons r8 .nil), w'⟩
        exact T.keep _ _ _ (tn7 I8).1 fun b hb o e => (sb9.2 b (Nat.ne_of_lt (hfl b hb))).trans e
  exact codeAny_compStart_list (loop _) (T.self X.A 0 _ _ _ st1 (loop _))
theorem z1G (hc : X.calm = true) (B : BlkSc X sc locs ix) (hi : PI X tgt iter wi)
    (hg : ∀ cl C fp s2 H2 pn, PG (cxC X sc cl C (z1H X locs ix) fp s2 H2 pn) tgt g) (ht : ∀ cl C fp s2 H2 pn, PTs (cxC X sc cl C (z1H X locs ix) fp s2 H2 pn) tests tt) (he : ∀ cl C fp s2 H2 pn, PE (cxC X sc cl C (z1H X locs ix) fp s2 H2 pn) elt te)
    (hs : ∀ x, foldedSetIterable iter X.env x = pure x := by intro _; rfl) : PE X (.ListComp elt [⟨tgt, iter, tests, 0⟩] sc pos) (z5m wi locs.length ix g tt te) := by
  intro pins s σ H Q I h
  obtain ⟨cl, ecl, hcl, hcl'⟩ := z3M (sc := sc) (env := X.env) fun y hy hk => I.ok.has y.1 (B.free y hy hk)
  rw [eval_ListComp]
  refine wpAny_comprehension_free (use := none) rfl hs ecl B.kind B.names ?_
  refine thn (hi pins s σ H _ I h) fun v s1 h1 => thn h1 fun itv s2 h2 => ?_
  obtain ⟨it, fp, tn, J, H2, e, I2, T, st2, f2, W, ⟨m0, w0⟩, turn⟩ := h2
  subst e
  refine z1N (iter := iter) (pos := pos) (RR := fun acc C => compPost (model X.prog X.w) X.A X.xe none (EP X pins σ Q) acc C) hc B hg ht he I2 T st2 f2 hcl hcl' w0 turn ?_
  intro D C s' H' ys m nD hC nC hCD I3 fin ns
  refine ⟨m, ns, fun h' hs' => ⟨.ref D, _, I3.turned (t' := s'.toks) (fun b o hb e => (hs'.2 b hb).trans e) (by rw [z04 hCD]; exact nC) (Nat.ne_of_gt (Nat.lt_of_lt_of_le I2.lt hC)) (.inr (Nat.le_trans I2.sz hC)) (fun x c e => ?_) (fun p hp => Nat.ne_of_lt (Nat.lt_of_lt_of_le (Heap.lt_size (I2.pin p hp).1) hC)), rfl, fin D nD⟩⟩
  obtain ⟨v, o, ho, _⟩ := I2.cell x c e
  exact Nat.ne_of_lt (Nat.lt_of_lt_of_le (Heap.lt_size ho) hC)
def z5n (i : Nat) (wi : TI) (k : Nat) (ix : List Nat) (g : TG) (tt : TT) (te : TE) : TS := fun D σ H => wi σ H fun J H1 =>
  ∃ W : Nat -> Nat -> St -> List V -> Hp -> Prop, (∃ m, W 0 m (z3x k ix σ) [] H1) /\ z3o J g tt te (fun ys H => ∀ l, H l = none -> D.nx (σ.set i (some (.ref l))) (upd H l (.lst ys))) W
theorem z3P {i : Nat} {y : Str} {py spos : Pos} (hc : X.calm = true) (hN : X.N.Nodup) (hiy : X.N[i]? = some y) (hy : X.env.scope.names.lookup y = some .local) (B : BlkSc X sc locs ix) (hi : PI X tgt iter wi)
    (hg : ∀ cl C fp s2 H2 pn, PG (cxC X sc cl C (z1H X locs ix) fp s2 H2 pn) tgt g) (ht : ∀ cl C fp s2 H2 pn, PTs (cxC X sc cl C (z1H X locs ix) fp s2 H2 pn) tests tt) (he : ∀ cl C fp s2 H2 pn, PE (cxC X sc cl C (z1H X locs ix) fp s2 H2 pn) elt te)
    (hsw : swapsWith (.ListComp elt [⟨tgt, iter, tests, 0⟩] sc pos) (some (.Name y py)) spos.line X.env = pure true)
    (hs : ∀ x, foldedSetIterable iter X.env x = pure x := by intro _; rfl) : PS X (.Assign [.Name y py] (.ListComp elt [⟨tgt, iter, tests, 0⟩] sc pos) spos) (z5n i wi locs.length ix g tt te) := by
  intro pins s σ H D I h
  obtain ⟨cl, ecl, hcl, hcl'⟩ := z3M (sc := sc) (env := X.env) fun y hy hk => I.ok.has y.1 (B.free y hy hk)
  rw [exec_Assign_Name_used _ _ _ _ hsw]
  refine wpAny_bind (wpAny_standAt (wpAny_bind ?_))
  show wpAny _ X.A (do let _ <- comprehension (.ListComp elt [⟨tgt, iter, tests, 0⟩] sc pos) sc X.env _ (newList []) false (eval iter X.env) (some (assign (.Name y py) X.env))) _ _ s
  refine wpAny_bind (thn (wpAny_comprehension_free (use := some (assign (.Name y py) X.env)) (Q := fun _ s' => SP X pins D .next s') rfl hs ecl B.kind B.names ?_) fun _ s' hq => wpAny_pure (wpAny_pure hq))
  refine thn (hi pins s σ H _ I h) fun v s1 h1 => thn h1 fun itv s2 h2 => ?_
  obtain ⟨it, fp, tn, J, H2, e, I2, T, st2, f2, W, ⟨m0, w0⟩, turn⟩ := h2
  subst e
  refine z1N (iter := iter) (pos := pos) (RR := fun acc C => compPost (model X.prog X.w) X.A X.xe (some (assign (.Name y py) X.env)) (fun _ s' => SP X pins D .next s') acc C) hc B hg ht he I2 T st2 f2 hcl hcl' w0 turn ?_
  intro L C s' H' ys m nL hC nC hCL I3 fin ns
  have cL : C ≠ X.env.locals := Nat.ne_of_gt (Nat.lt_of_lt_of_le I2.lt hC)
  have cC : ∀ x c, X.env.cells.lookup x = some c -> c ≠ C := fun x c e => by
    obtain ⟨v, o, ho, _⟩ := I2.cell x c e
    exact Nat.ne_of_lt (Nat.lt_of_lt_of_le (Heap.lt_size ho) hC)
  have cP : ∀ p ∈ X.pn ++ pins, p.1 ≠ C := fun p hp => Nat.ne_of_lt (Nat.lt_of_lt_of_le (Heap.lt_size (I2.pin p hp).1) hC)
  show wpAny _ X.A (assign (.Name y py) X.env (.ref L)) _ _ _
  refine wpAny_assign_Name (z1k (v := .ref L) I3 hN hiy (.inl hy) rfl (fun s4 I4 ⟨a, sb, ha⟩ => ?_) (.inr hy))
  have hCa : C ≠ a := by
    rcases ha with z | z
    . rw [z]; exact cL
    . exact (cC y a z).symm
  exact ⟨m, ns.sameBut sb hCa, fun h' hs' => ⟨_, _, I4.turned (t' := s4.toks) (fun b o hb e => (hs'.2 b hb).trans e) (by rw [z04 hCL]; exact nC) cL (.inr (Nat.le_trans I2.sz hC)) cC cP, fin L nL⟩⟩
end
section
variable {X : Cx}
theorem z3Q : ∀ {bs : List Bool} {us : List Value}, Vals (bs.map V.bl) us -> us = bs.map Value.bool
  | [], _, .nil => rfl
  | b :: r, _, .cons q t => by
    cases (show _ = Value.bool b from q)
    rw [z3Q t]
    rfl
theorem range_all (bs : List Bool) : (List.range bs.length).all (fun i => bs.getD i true) = bs.all id := by
  rw [Bool.eq_iff_iff, List.all_eq_true, List.all_eq_true]
  constructor
  . intro h b hb
    obtain ⟨i, hi, e⟩ := List.mem_iff_getElem.mp hb
    have q := h i (List.mem_range.mpr hi)
    rw [List.getD_eq_getElem?_getD, List.getElem?_eq_getElem hi, e] at q
    exact q
  . intro h i hi
    have hi' := List.mem_range.mp hi
    rw [List.getD_eq_getElem?_getD, List.getElem?_eq_getElem hi']
    exact h _ (List.getElem_mem hi')
theorem z12 (hc : X.calm = true) : CallR X (.builtin "all") (fun xs H Q => ∃ (a : Addr) (bs : List Bool), xs = [.ref a] /\ SqL X.K H a (bs.map V.bl) /\ Q (.bl (bs.all id)) H) := by
  intro pins s σ H xs us Q I r h
  obtain ⟨a, bs, rfl, hq, q⟩ := h
  obtain ⟨u, rfl, ru⟩ := vals1 r
  cases (show u = Value.ref a from ru)
  obtain ⟨its, rv, p, _⟩ := I.list hq
  have e := z3Q rv
  subst e
  have hh : X.A.in1.handled = none := I.ok.hd hc
  have hlt : a < s.heap.objs.size := by obtain ⟨_, e, _⟩ := p.isList; exact Heap.lt_size e
  refine call_all_walk (wpAny_pyIter_list p.isList ?_)
  refine ⟨s.heap.objs.size, _, _, _, _, _, fun i => bs.getD i true, rfl, Walks.list hh s.heap.objs.size a (Nat.ne_of_lt hlt) (bs.map Value.bool).toArray, ⟨⟨_, Heap.get?_push_size _ rfl, rfl, rfl⟩, p.isList.push _⟩, ?_, fun h' tk k => ?_⟩
  . intro i v s' Q' E' hv hQ
    have e : v = Value.bool (bs.getD i true) := by
      rw [List.getElem?_toArray, List.getElem?_map] at hv
      cases hb : bs[i]? with
      | none => rw [hb] at hv; cases hv
      | some b =>
        rw [hb] at hv
        rw [List.getD_eq_getElem?_getD, hb]
        exact (Option.some.inj hv).symm
    subst e
    exact wpAny_truthy_bool hQ
  . have I' : Inv X pins σ H { s with heap := h', toks := tk } := I.kept fun b o e => k b o (by
      intro z
      have e' : b = s.heap.objs.size := by simpa using z
      exact absurd e' (Nat.ne_of_lt (Heap.lt_size e))) (Heap.get?_push_of_some _ e)
    refine ⟨.bl _, H, I', rfl, ?_⟩
    have e : ((bs.map Value.bool).toArray).size = bs.length := by rw [List.size_toArray, List.length_map]
    rw [e, range_all]
    exact q
end
def Ite (K : PySem.W.Frag) (a : Addr) : It :=
  ⟨fun i H => ∃ xs x, SqL K H a xs /\ xs[i]? = some x, fun i H x H' => ∃ T v, H T = none /\ x = .ref T /\ H' = upd H T (.tup [.int i, v]) /\ ∀ xs, SqL K H a xs -> xs[i]? = some v, fun i H => ∃ xs, SqL K H a xs /\ xs.length <= i⟩
section
variable {X : Cx}
def z7e (K : PySem.W.Frag) (ta : TA) : TI := fun σ H R => ta σ H fun vs H1 => ∃ a, vs = [.ref a] /\ (∃ xs, SqL K H1 a xs) /\ R (Ite K a) H1
end
def Itv (K : PySem.W.Frag) (a : Addr) (xs : List V) : It :=
  ⟨fun i H => i < xs.length /\ SqL K H a xs, fun i H x H' => H' = H /\ xs[xs.length - 1 - i]? = some x, fun i _ => i = xs.length⟩
section
variable {X : Cx} {tg : Expr}
def z8S (K : PySem.W.Frag) (ta : TA) : TI := fun σ H R => ta σ H fun vs H1 => ∃ a xs, vs = [.ref a] /\ SqL K H1 a xs /\ R (Itv K a xs) H1
end
section
variable {prog : Program} {w : World} {A : Around} {E : Value -> Shared -> Prop} {s : Shared}
abbrev zt1 (h : Heap) (l1 : Addr) : Heap := h.push { cls := .type "tuple_iterator", data := .fields #[.ref l1, .int 0 0] }
abbrev zt2 (h : Heap) (l1 l2 : Addr) : Heap := (zt1 h l1).push { cls := .type "tuple_iterator", data := .fields #[.ref l2, .int 0 0] }
abbrev zt3 (h : Heap) (l1 l2 : Addr) : Heap := (zt2 h l1 l2).push { cls := .type "tuple", data := .seq #[.ref h.objs.size, .ref (zt1 h l1).objs.size] }
abbrev zt4 (h : Heap) (l1 l2 : Addr) : Heap := (zt3 h l1 l2).push { cls := .type "tuple", data := .seq #[.none, .none] }
abbrev zt5 (h : Heap) (l1 l2 : Addr) : Heap := (zt4 h l1 l2).push { cls := .type "zip", data := .fields #[.none, .bool false, .bool false, .ref (zt2 h l1 l2).objs.size, .ref (zt3 h l1 l2).objs.size] }
end
def Itz (K : PySem.W.Frag) (a b : Addr) (xs ys : List V) : It :=
  ⟨fun i H => SqT K H a xs /\ SqT K H b ys /\ i < xs.length /\ i < ys.length, fun i H x H' => ∃ T u v, H T = none /\ x = .ref T /\ H' = upd H T (.tup [u, v]) /\ xs[i]? = some u /\ ys[i]? = some v,
    fun i H => SqT K H a xs /\ SqT K H b ys /\ (xs.length <= i \/ ys.length <= i)⟩
section
variable {X : Cx}
def z8T (K : PySem.W.Frag) (ta : TA) : TI := fun σ H R => ta σ H fun vs H1 => ∃ a b xs ys, vs = [.ref a, .ref b] /\ SqT K H1 a xs /\ SqT K H1 b ys /\ R (Itz K a b xs ys) H1
end
def z4u (sc dsc : Scope) (N : List Str) (ix : List Nat) : Bool :=
  sc.kind == .function && sc.names.all (fun y => y.2 != .cell) && sc.names.all (fun y => y.2 != .free || dsc.names.lookup y.1 == some .cell || dsc.names.lookup y.1 == some .free) &&
    sc.names.all (fun y => y.2 != .local || sc.names.lookup y.1 == some .local) && ix.all (fun i => match N[i]? with | some x => sc.names.lookup x == some .free | none => false)
theorem BlkSc.look {X : Cx} {sc dsc : Scope} {locs N : List Str} {ix : List Nat} (hs : X.env.scope = dsc) (hN : X.N = N) (c : z4u sc dsc N ix = true) : BlkSc X sc locs ix := by
  unfold z4u at c
  rw [Bool.and_eq_true, Bool.and_eq_true, Bool.and_eq_true, Bool.and_eq_true] at c
  obtain ⟨⟨⟨⟨c1, c2⟩, c3⟩, c4⟩, c5⟩ := c
  refine ⟨by simpa using c1, fun y hy => ?_, fun y hy hk => ?_, fun y hy hk => ?_, fun i hi => ?_⟩
  . simpa using List.all_eq_true.mp c2 y hy
  . have q := List.all_eq_true.mp c3 y hy
    have z : X.env.kindOf y.1 = dsc.names.lookup y.1 := by rw [<- hs]; rfl
    rw [z]
    rw [hk] at q
    simpa using q
  . have q := List.all_eq_true.mp c4 y hy
    rw [hk] at q
    simpa using q
  . have q := List.all_eq_true.mp c5 i hi
    rw [hN]
    cases hx : N[i]? with
    | none => rw [hx] at q; cases q
    | some x =>
      rw [hx] at q
      exact ⟨x, rfl, by simpa using q⟩
section
variable {X : Cx} {sc : Scope} {cl : List (Str × Addr)} {C : Addr} {N : List Str} {fp : List Addr} {s2 : Shared} {H2 : Hp} {pn : List (Addr × Obj)}
theorem z4J {es : List Expr} {k n : Nat} {t : TGs} {pos : Pos} (hc : X.calm = true) (h : PGs (cxC X sc cl C N fp s2 H2 pn) es t)
    (hn : (assignEach es (cxC X sc cl C N fp s2 H2 pn).env).length = n := by rfl) (hst : (assignEach es (cxC X sc cl C N fp s2 H2 pn).env).findIdx? (·.1) = none := by rfl) :
    PG (cxC X sc cl C N fp s2 H2 pn) (.Tuple es k pos) (z6K X.K n t) := z2S hc h hn hst
end
theorem z0v {J : It} {n : Nat} {g : TG} {te : TE} {σ0 : St} {H1 : Hp} {Fin : List V -> Hp -> Prop} (Pv : Nat -> St -> List V -> Hp -> Prop) (h0 : Pv 0 σ0 [] H1) (hn : n <= sizeLine) (len : ∀ i σ ys H, Pv i σ ys H -> ys.length = i)
    (stop : ∀ σ ys H, Pv n σ ys H -> J.stop n H) (go : ∀ i σ ys H, i < n -> Pv i σ ys H -> J.go i H)
    (hs : ∀ i σ ys H x H' (Z : St -> List V -> Hp -> Prop), i < n -> Pv i σ ys H -> J.yld i H x H' -> (∀ σ' ys' H', Pv (i + 1) σ' ys' H' -> Z σ' ys' H') -> g x σ H' fun σ2 H2 => te σ2 H2 fun y H3 => Z σ2 (ys ++ [y]) H3) (hd : ∀ σ ys H, Pv n σ ys H -> Fin ys H) :
    ∃ W : Nat -> Nat -> St -> List V -> Hp -> Prop, (∃ m, W 0 m σ0 [] H1) /\ z3o J g z6c te Fin W := by
  refine ⟨fun i m σ ys H => m = n - i /\ i <= n /\ Pv i σ ys H, ⟨n, rfl, Nat.zero_le _, h0⟩, ?_⟩
  rintro i m σ ys H ⟨rfl, hi, p⟩
  by_cases hlt : i < n
  . refine .inr ⟨go i σ ys H hlt p, by rw [len i σ ys H p]; omega, fun x H' y => ?_⟩
    have q := hs i σ ys H x H' (fun σ2 ys2 H3 => ∃ m', m' < n - i /\ m' = n - (i + 1) /\ i + 1 <= n /\ Pv (i + 1) σ2 ys2 H3) hlt p y fun σ' ys' H'' p' => ⟨n - (i + 1), by omega, rfl, hlt, p'⟩
    exact q
  . have e : i = n := by omega
    subst e
    exact .inl ⟨stop σ ys H p, by rw [len i σ ys H p]; exact hn, hd σ ys H p⟩
def Alk : Nat -> Hp -> V -> V -> Prop
  | 0, _, _, _ => False
  | n + 1, H, x, y => (x = y /\ (x = .non \/ (∃ b, x = .bl b) \/ (∃ i, x = .int i) \/ ∃ z, x = .str z)) \/
      ∃ a b xs ys, x = .ref a /\ y = .ref b /\ ((H a = some (.lst xs) /\ H b = some (.lst ys)) \/ (H a = some (.tup xs) /\ H b = some (.tup ys))) /\ xs.length <= 1000000 /\ xs.length = ys.length /\ ∀ (i : Nat) u v, xs[i]? = some u -> ys[i]? = some v -> Alk n H u v
theorem Alk.mono {H H' : Hp} (s : Same H H') : ∀ {n : Nat} {x y : V}, Alk n H x y -> Alk n H' x y
  | 0, _, _, h => h.elim
  | n + 1, _, _, h => by
    rcases h with h | ⟨a, b, xs, ys, e1, e2, e3, e4, e5, e6⟩
    . exact .inl h
    . refine .inr ⟨a, b, xs, ys, e1, e2, ?_, e4, e5, fun i u v h1 h2 => (e6 i u v h1 h2).mono s⟩
      rcases e3 with ⟨p, q⟩ | ⟨p, q⟩
      . exact .inl ⟨s _ _ p, s _ _ q⟩
      . exact .inr ⟨s _ _ p, s _ _ q⟩
theorem Alk.up {H : Hp} : ∀ {n m : Nat} {x y : V}, n <= m -> Alk n H x y -> Alk m H x y
  | 0, _, _, _, _, h => h.elim
  | n + 1, 0, _, _, hm, _ => absurd hm (Nat.not_succ_le_zero _)
  | n + 1, m + 1, _, _, hm, h => by
    rcases h with h | ⟨a, b, xs, ys, e1, e2, e3, e4, e5, e6⟩
    . exact .inl h
    . exact .inr ⟨a, b, xs, ys, e1, e2, e3, e4, e5, fun i u v h1 h2 => (e6 i u v h1 h2).up (Nat.le_of_succ_le_succ hm)⟩
theorem Alk.int {n : Nat} {H : Hp} (i : Int) : Alk (n + 1) H (.int i) (.int i) := .inl ⟨rfl, .inr (.inr (.inl ⟨i, rfl⟩))⟩
theorem Alk.non {n : Nat} {H : Hp} : Alk (n + 1) H .non .non := .inl ⟨rfl, .inl rfl⟩
theorem Alk.bl {n : Nat} {H : Hp} (b : Bool) : Alk (n + 1) H (.bl b) (.bl b) := .inl ⟨rfl, .inr (.inl ⟨b, rfl⟩)⟩
theorem Alk.ints {n : Nat} {H : Hp} {a b : Addr} {zs ws : List Int} (h1 : H a = some (.lst (zs.map V.int))) (h2 : H b = some (.lst (ws.map V.int))) (e : zs = ws) (hl : zs.length <= 1000000) : Alk (n + 2) H (.ref a) (.ref b) := by
  subst e
  refine .inr ⟨a, b, _, _, rfl, rfl, .inl ⟨h1, h2⟩, by rw [List.length_map]; exact hl, rfl, fun i u v hu hv => ?_⟩
  rw [hu] at hv
  cases hv
  obtain ⟨z, rfl⟩ := z16 (List.mem_of_getElem? hu)
  exact Alk.int z
theorem Alk.tints {n : Nat} {H : Hp} {a b : Addr} {zs ws : List Int} (h1 : H a = some (.tup (zs.map V.int))) (h2 : H b = some (.tup (ws.map V.int))) (e : zs = ws) (hl : zs.length <= 1000000) : Alk (n + 2) H (.ref a) (.ref b) := by
  subst e
  refine .inr ⟨a, b, _, _, rfl, rfl, .inr ⟨h1, h2⟩, by rw [List.length_map]; exact hl, rfl, fun i u v hu hv => ?_⟩
  rw [hu] at hv
  cases hv
  obtain ⟨z, rfl⟩ := z16 (List.mem_of_getElem? hu)
  exact Alk.int z
def z5o (n : Nat) : Sp := fun vs H Q _ => ∃ x y, vs = [x, y] /\ Alk n H x y /\ ∀ H', Same H H' -> Q (.bl true) H'
structure BltA (mg : Str -> Option Value) : Prop where
  isi : mg "isinstance" = none
  tup : mg "tuple" = none
  lst : mg "list" = none
  boo : mg "bool" = none
  str : mg "str" = none
  int : mg "int" = none
  len : mg "len" = none
  all : mg "all" = none
  rng : mg "range" = none
end L2
namespace G
open PySem
def z3R : List (Option Int) -> Int
  | [] => 0
  | c :: r => c.getD 0 + 16 * z3R r
def z1b : List (Option Int) -> Int
  | [] => 0
  | c :: r => (if c.isSome = true then 1 else 0) + 2 * z1b r
def Cell (c : Option Int) : Prop := ∀ z, c = some z -> 0 <= z /\ z <= 15
def z3S (r : List (Option Int)) : Prop := ∀ c ∈ r, Cell c
theorem Cell.get {c : Option Int} (h : Cell c) : 0 <= c.getD 0 /\ c.getD 0 <= 15 := by
  cases c with
  | none => exact ⟨by decide, by decide⟩
  | some z => exact h z rfl
def pc : Nat -> Nat
  | 0 => 0
  | n + 1 => (n + 1) % 2 + pc ((n + 1) / 2)
decreasing_by omega
def z4K : List (Option Int) -> Nat
  | [] => 0
  | c :: r => (if c.isSome = true then 1 else 0) + z4K r
end G
namespace L2
open PySem PySem.Spec PyProof.Rows G
def z0c : Option Int -> V
  | none => .non
  | some z => .int z
structure RowsAt (H : Hp) (l : Addr) (ps : List Addr) (rows : List (List (Option Int))) : Prop where
  lst : H l = some (.lst (ps.map V.ref))
  len : ps.length = rows.length
  row : ∀ (i : Nat) p r, ps[i]? = some p -> rows[i]? = some r -> H p = some (.lst (r.map z0c))
theorem RowsAt.mono {H H' : Hp} {l : Addr} {ps : List Addr} {rows : List (List (Option Int))} (s : Same H H') (h : RowsAt H l ps rows) : RowsAt H' l ps rows := ⟨s _ _ h.lst, h.len, fun i p r e1 e2 => s _ _ (h.row i p r e1 e2)⟩
structure Rect (w h : Nat) (rows : List (List (Option Int))) : Prop where
  len : rows.length = h
  h1 : 1 <= h
  h2 : h <= 64
  w1 : 1 <= w
  w2 : w <= 64
  row : ∀ r ∈ rows, r.length = w /\ z3S r
def PicAt (H : Hp) (p : Addr) (w : Nat) (rows : List (List (Option Int))) : Prop :=
  ∃ pp pm, H p = some (.tup [.int (w : Int), .int (rows.length : Int), .ref pp, .ref pm]) /\ H pp = some (.tup ((rows.map z3R).map V.int)) /\ H pm = some (.tup ((rows.map z1b).map V.int))
theorem PicAt.mono {H H' : Hp} {p : Addr} {w : Nat} {rows : List (List (Option Int))} (s : Same H H') (h : PicAt H p w rows) : PicAt H' p w rows := by
  obtain ⟨pp, pm, h1, h2, h3⟩ := h
  exact ⟨pp, pm, s _ _ h1, s _ _ h2, s _ _ h3⟩
theorem Alk.cell {n : Nat} {H : Hp} (c : Option Int) : Alk (n + 1) H (z0c c) (z0c c) := by
  cases c with
  | none => exact Alk.non
  | some z => exact Alk.int z
theorem z4L {ns : List Int} (h : 0 < ns.length) (k : Int) : ∃ z, atI (ns.map V.int) (k % ((ns.map V.int).length : Int)) = some (.int z) := by
  have e : ((ns.map V.int).length : Int) = (ns.length : Int) := by rw [List.length_map]
  rw [e]
  have h1 := Int.emod_nonneg k (show (ns.length : Int) ≠ 0 by omega)
  have h2 := Int.emod_lt_of_pos k (show (0 : Int) < ns.length by omega)
  have e2 : k % (ns.length : Int) = (((k % (ns.length : Int)).toNat : Nat) : Int) := by omega
  rw [e2]
  have hj : (k % (ns.length : Int)).toNat < ns.length := by omega
  refine ⟨ns[(k % (ns.length : Int)).toNat], z0j ?_⟩
  rw [List.getElem?_map, List.getElem?_eq_getElem hj]
  rfl
def look (w h : Nat) (rows : List (List (Option Int))) (x y : Int) : Option Int := if 0 <= x /\ x < w /\ 0 <= y /\ y < h then (rows.getD y.toNat []).getD x.toNat none else none
def z6d (K : PySem.W.Frag) : Sp := fun vs H Q _ => ∃ (a : Addr) (ns : List Int) (k m : Int), vs = [.ref a, .int k, .int m] /\ SqL K H a (ns.map V.int) /\ 0 <= k /\ k < 1000000 /\ 0 < m /\ ∀ r, 0 <= r -> r < m -> Q (.int r) H
def z5p (K : PySem.W.Frag) : Sp := fun vs H Q _ => ∃ (a : Addr) (ns : List Int) (k : Int), vs = [.ref a, .int k] /\ SqL K H a (ns.map V.int) /\ 0 <= k /\ k < 10000 /\ ∀ (w h : Int) p, 1 <= w -> w <= 64 -> 1 <= h -> h <= 64 -> H p = none -> Q (.ref p) (upd H p (.tup [.int w, .int h]))
def z6e (K : PySem.W.Frag) : Sp := fun vs H Q _ => ∃ (a : Addr) (ns : List Int) (k w h : Int), vs = [.ref a, .int k, .int w, .int h] /\ SqL K H a (ns.map V.int) /\ 0 <= k /\ k < 10000 /\ 1 <= w /\ w <= 64 /\ 1 <= h /\ h <= 64 /\
  ∀ l ps rows H', Same H H' -> H l = none -> (∀ p ∈ ps, H p = none) -> RowsAt H' l ps rows -> Rect w.toNat h.toNat rows -> Q (.ref l) H'
def z5G : Sp := fun vs H Q _ => ∃ l ps rows w h, vs = [.ref l] /\ RowsAt H l ps rows /\ Rect w h rows /\ ∀ p H', Same H H' -> PicAt H' p w rows -> Q (.ref p) H'
def z6f : Sp := fun vs H Q _ => ∃ p x y w h rows, vs = [.ref p, .int x, .int y] /\ PicAt H p w rows /\ Rect w h rows /\ Q (z0c (look w h rows x y)) H
def z5q : Sp := fun vs H Q _ => ∃ l r, vs = [.ref l] /\ H l = some (.lst (r.map z0c)) /\ z3S r /\ r.length <= 64 /\ ∀ H', Same H H' -> Q (.int (z3R r)) H'
def z6g : Sp := fun vs H Q _ => ∃ l r, vs = [.ref l] /\ H l = some (.lst (r.map z0c)) /\ z3S r /\ r.length <= 64 /\ ∀ H', Same H H' -> Q (.int (z1b r)) H'
structure Ow (P : Program) (w : World) (K : PySem.W.Frag) (mg : Str -> Option Value) (base : Heap) (x : Str) (ps : List Str) (k : Nat) (sp : Sp) : Prop where
  ex : ∃ (f : Addr) (fd : FuncData), mg x = some (.ref f) /\ PySem.W.keepIn K (.ref f) = true /\ Binds K fd ps [] /\ FnOk P w K mg base CX0 k f fd ps sp
theorem Df.ow {P : Program} {w : World} {K : PySem.W.Frag} {mg : Str -> Option Value} {base : Heap} {x : Str} {st : Stmt} {ps : List Str} {f : Addr} {fd : FuncData} {k : Nat} {sp : Sp} (D : Df K mg x st ps f fd) (F : FnOk P w K mg base CX0 k f fd ps sp) :
    Ow P w K mg base x ps k sp := ⟨f, fd, D.m, D.F.kp, D.b, F⟩
theorem Ow.imp {P : Program} {w : World} {K : PySem.W.Frag} {mg : Str -> Option Value} {base : Heap} {x : Str} {ps : List Str} {k : Nat} {sp sp' : Sp} (O : Ow P w K mg base x ps k sp) (h : ∀ vs H Q E, sp' vs H Q E -> sp vs H Q E) : Ow P w K mg base x ps k sp' := by
  obtain ⟨f, fd, a, b, c, F⟩ := O.ex
  exact ⟨f, fd, a, b, c, F.imp h⟩
section
variable {X : Cx} {k j : Nat} {ps : List Str} {sp : Sp} {x : Str} {p pos : Pos} {e : Expr} {es : List Expr} {t : TA}
theorem z0M (O : Ow X.prog X.w X.K X.mg X.base x ps k sp) (hr : Room j X.A) (hg : Gl X x) (ha : PA X (e :: es) t) (hk : k <= j := by decide) (hdb : (x == ("__debug__" : Str)) = false := by decide)
    (he : starEach (e :: es) X.env = (false, eval e X.env) :: starEach es X.env := by rfl) (hpl : (backTo pos (starEach es X.env)).any (·.1) = false := by rfl) :
    PE X (.Call (.Name x p) (e :: es) [] pos) (z4k sp [] E0 t) := by
  obtain ⟨f, fd, m, kp, b, F⟩ := O.ex
  exact z48 F (hr.mono hk) hg m kp b .nil z1y ha hdb he hpl
end
theorem z3y {c A B : Prop} [Decidable c] (h1 : c -> A) (h2 : ¬ c -> B) : if decide c = true then A else B := by
  by_cases h : c
  . rw [decide_eq_true h, if_pos rfl]; exact h1 h
  . rw [decide_eq_false h, if_neg Bool.false_ne_true]; exact h2 h
theorem z5r {c A B : Prop} [Decidable c] (h1 : ¬ c -> A) (h2 : c -> B) : if (!decide c) = true then A else B := by
  by_cases h : c
  . rw [decide_eq_true h, Bool.not_true, if_neg Bool.false_ne_true]; exact h2 h
  . rw [decide_eq_false h, Bool.not_false, if_pos rfl]; exact h1 h
theorem mulL {i j : Int} (h1 : -18446744073709551616 < i) (h2 : i < 18446744073709551616) : CMul i j := .inl ⟨h1, h2⟩
theorem mulR {i j : Int} (h1 : -18446744073709551616 < j) (h2 : j < 18446744073709551616) : CMul i j := .inr ⟨h1, h2⟩
theorem powS {i j : Int} (h1 : 0 <= j) (h2 : j <= 1000000) (h3 : i.natAbs < 18446744073709551616) : z7P i j := ⟨h1, h2, h3⟩
theorem szV {xs : List V} (h : xs.length <= 100000) : xs.length <= sizeLine := Nat.le_trans h (by decide)
theorem z3z {j : Int} (h1 : 0 <= j) (h2 : j <= 1000000000) : -(2 ^ 62) <= j /\ j < 2 ^ 62 := by
  have : (1000000000 : Int) < 2 ^ 62 := by decide
  omega
def z7f (t u : TS) : TS := fun D σ H => ∃ I : St -> Hp -> Prop, t { D with nx := I } σ H /\ ∀ σ' H', I σ' H' -> u D σ' H'
theorem z1c {X : Cx} {st : Stmt} {rest : List Stmt} {t u : TS} (h1 : PS X st t) (h2 : PSs X rest u) : PSs X (st :: rest) (z7f t u) := by
  intro pins s σ H D I h
  obtain ⟨J, h, hj⟩ := h
  refine wpAny_execs_cons (thn (h1 pins s σ H { D with nx := J } I h) fun f s1 q => ?_)
  cases f with
  | next =>
    obtain ⟨σ', H', I', q⟩ := q
    exact h2 pins s1 σ' H' D I' (hj _ _ q)
  | ret v => exact q
  | brk => exact q
  | cont => exact q
end L2
namespace L2
open PySem PySem.Spec PyProof.Rows G
structure RowsB (H0 H : Hp) (l : Addr) (ps : List Addr) (rows : List (List (Option Int))) : Prop where
  same : Same H0 H
  fl : H0 l = none
  fp : ∀ p ∈ ps, H0 p = none /\ p ≠ l
  rat : RowsAt H l ps rows
theorem Same.put {H0 H : Hp} {p : Addr} {o : HO} (s : Same H0 H) (h : H0 p = none) : Same H0 (upd H p o) := fun b u e => by
  rw [z04 (z0G e h)]
  exact s b u e
theorem RowsB.put {H0 H : Hp} {l p : Addr} {ps : List Addr} {rows : List (List (Option Int))} {o : HO} (B : RowsB H0 H l ps rows) (h0 : H0 p = none) (hl : p ≠ l) (hp : p ∉ ps) : RowsB H0 (upd H p o) l ps rows where
  same := B.same.put h0
  fl := B.fl
  fp := B.fp
  rat := ⟨by rw [z04 (Ne.symm hl)]; exact B.rat.lst, B.rat.len, fun i q r e1 e2 => by
    have hq : q ≠ p := fun e => hp (by rw [<- e]; exact List.mem_of_getElem? e1)
    rw [z04 hq]
    exact B.rat.row i q r e1 e2⟩
theorem RowsB.push {H0 H : Hp} {l p : Addr} {ps : List Addr} {rows : List (List (Option Int))} {r : List (Option Int)} (B : RowsB H0 H l ps rows) (h0 : H0 p = none) (hl : p ≠ l) (hr : H p = some (.lst (r.map z0c))) :
    RowsB H0 (upd H l (.lst (ps.map V.ref ++ [.ref p]))) l (ps ++ [p]) (rows ++ [r]) where
  same := B.same.put B.fl
  fl := B.fl
  fp := fun q hq => by
    rcases List.mem_append.mp hq with h | h
    . exact B.fp q h
    . rw [List.mem_singleton.mp h]
      exact ⟨h0, hl⟩
  rat := ⟨by rw [z01, List.map_append]; rfl, by rw [List.length_append, List.length_append, B.rat.len]; rfl, fun i q s e1 e2 => by
    have hq : q ≠ l := by
      rcases List.mem_append.mp (List.mem_of_getElem? e1) with h | h
      . exact (B.fp q h).2
      . rw [List.mem_singleton.mp h]
        exact hl
    rw [z04 hq]
    have hlen := B.rat.len
    by_cases hi : i < ps.length
    . rw [List.getElem?_append_left hi] at e1
      rw [List.getElem?_append_left (by omega)] at e2
      exact B.rat.row i q s e1 e2
    . rw [List.getElem?_append_right (by omega)] at e1
      rw [List.getElem?_append_right (by omega)] at e2
      rw [hlen] at e1
      cases hj : i - rows.length with
      | zero =>
        rw [hj] at e1 e2
        cases e1
        cases e2
        exact hr
      | succ n =>
        rw [hj] at e1
        cases e1⟩
theorem RowsB.mono {H0 H H' : Hp} {l : Addr} {ps : List Addr} {rows : List (List (Option Int))} (B : RowsB H0 H l ps rows) (s : Same H H') : RowsB H0 H' l ps rows := ⟨B.same.trans s, B.fl, B.fp, B.rat.mono s⟩
theorem Rect.ne {w h : Nat} {rows : List (List (Option Int))} (R : Rect w h rows) : 0 < rows.length := by have := R.len; have := R.h1; omega
theorem RowsAt.at {H : Hp} {l : Addr} {ps : List Addr} {rows : List (List (Option Int))} (a : RowsAt H l ps rows) {i : Nat} (hi : i < rows.length) : ∃ p, ps[i]? = some p /\ H p = some (.lst ((rows[i]'hi).map z0c)) := by
  have hl := a.len
  exact ⟨ps[i]'(by omega), List.getElem?_eq_getElem _, a.row i _ _ (List.getElem?_eq_getElem _) (List.getElem?_eq_getElem _)⟩
theorem RowsAt.atI {H : Hp} {l : Addr} {ps : List Addr} {rows : List (List (Option Int))} (a : RowsAt H l ps rows) {i : Nat} (hi : i < rows.length) : ∃ p, L2.atI (ps.map V.ref) (i : Int) = some (.ref p) /\ H p = some (.lst ((rows[i]'hi).map z0c)) := by
  obtain ⟨p, h1, h2⟩ := a.at hi
  exact ⟨p, z0j (by rw [List.getElem?_map, h1]; rfl), h2⟩
theorem Rect.row0 {w h : Nat} {rows : List (List (Option Int))} (R : Rect w h rows) {i : Nat} (hi : i < rows.length) : (rows[i]'hi).length = w /\ z3S (rows[i]'hi) := R.row _ (List.getElem_mem hi)
theorem PicAt.put {H : Hp} {p q : Addr} {w : Nat} {rows : List (List (Option Int))} {xs : List V} {o : HO} (h : PicAt H p w rows) (hq : H q = some (.lst xs)) : PicAt (upd H q o) p w rows := by
  obtain ⟨a, b, h1, h2, h3⟩ := h
  have ne : ∀ {c : Addr} {ys : List V}, H c = some (.tup ys) -> c ≠ q := fun e z => by
    rw [z, hq] at e
    cases e
  exact ⟨a, b, by rw [z04 (ne h1)]; exact h1, by rw [z04 (ne h2)]; exact h2, by rw [z04 (ne h3)]; exact h3⟩
end L2
namespace L2
open PySem PySem.Spec PyProof.Rows G
def inB (x : V) (a b : Int) : Bool := match x with
  | .int i => decide (a <= i) && decide (i <= b)
  | _ => false
def z5s (x : V) : Bool := match x with
  | .non => true
  | x => inB x 0 15
def z3T : Sp := fun vs H Q _ => ∃ x T, vs = [x] /\ tyS H x = some T /\ Q (.bl (T == "int")) H
theorem z2F : ∀ T ∈ z4H, (if z4G T "int" = true then (!z4G T "bool") else false) = (T == "int") := by decide
def z5H : Sp := fun vs H Q _ => ∃ x a b T, vs = [x, .int a, .int b] /\ tyS H x = some T /\ Q (.bl (inB x a b)) H
def z6h : Sp := fun vs H Q _ => ∃ x T, vs = [x] /\ tyS H x = some T /\ Q (.bl (inB x 1 64)) H
def z5I : Sp := fun vs H Q _ => ∃ x T, vs = [x] /\ tyS H x = some T /\ Q (.bl (z5s x)) H
def z4v : Sp := fun vs H Q _ => ∃ (l m : Addr) (r r' : List (Option Int)), vs = [.ref l, .ref m] /\ H l = some (.lst (r.map z0c)) /\ H m = some (.lst (r'.map z0c)) /\ r.length = r'.length /\ 1 <= r.length /\ r.length <= 64 /\ z3S r /\ ∀ H', Same H H' -> Q (.bl true) H'
def z4Q : Sp := fun vs H Q _ => ∃ l ps rows w h, vs = [.ref l] /\ RowsAt H l ps rows /\ Rect w h rows /\ ∀ p H', Same H H' -> H p = none -> PicAt H' p w rows -> Q (.ref p) H'
def z6i : Sp := fun vs H Q _ => ∃ l ps rows w h x y, vs = [.ref l, .int x, .int y] /\ RowsAt H l ps rows /\ Rect w h rows /\ Q (z0c (look w h rows x y)) H
end L2
namespace L2
open PySem PySem.Spec PyProof.Rows G
end L2
namespace L2
open PySem PySem.Spec PyProof.Rows G
def z5t (K : PySem.W.Frag) : Sp := fun vs H Q _ => ∃ (a : Addr) (ns : List Int) (k : Int), vs = [.ref a, .int k] /\ SqL K H a (ns.map V.int) /\ 0 <= k /\ k < 10000 /\ ∀ (z : Int) H', Same H H' -> Q (.int z) H'
def z8U (K : PySem.W.Frag) : Sp := fun vs H Q _ => ∃ (a : Addr) (ns : List Int) (p l : Addr) (ps : List Addr) (rows : List (List (Option Int))) (w h : Nat), vs = [.ref a, .ref p, .ref l] /\ SqL K H a (ns.map V.int) /\ PicAt H p w rows /\ RowsAt H l ps rows /\ Rect w h rows /\ ∀ H', Same H H' -> Q (.bl true) H'
section
variable {X : Cx}
def z7g : R2 := fun x y H Q => ∃ a k v, x = .ref a /\ y = .int k /\ H a = some (.tup [v]) /\ 1 <= k /\ k <= 10000 /\ ∀ p H', Same H H' -> H' p = some (.tup (List.replicate k.toNat v)) -> Q (.ref p) H'
end
structure FunD (K : PySem.W.Frag) (x qual : Str) (st : Stmt) (f : Addr) (fd : FuncData) (T : Addr) : Prop where
  ex : ∃ (oc : Value) (od : Option Addr) (kV doc pm : Value) (an : Option Addr) (cdv ct : Value) (osl : Array (Option Value)),
    fd = PySem.W.fnOf x qual (z0C st) (z0B st) (z02 st) (.ref T) kV doc pm an cdv ct /\ K.lookup f = some ⟨oc, od, .func fd, osl⟩ /\ PySem.W.codeIn K cdv qual = true
  kp : PySem.W.keepIn K (.ref f) = true
theorem FunD.ok {P : Program} {w : World} {K : PySem.W.Frag} {mg : Str -> Option Value} {base : Heap} {x qual : Str} {st : Stmt} {f T : Addr} {fd : FuncData} {N ps : List Str} {k : Nat} {sp : Sp} (F : FunD K x qual st f fd T) (S : FnScope N ps (z02 st)) (len : ∀ vs H Q E, sp vs H Q E -> vs.length = ps.length)
    (hbody : ∀ (cdv : Value) (A : Around) (outer : List Env) (s : Shared) (H : Hp) (vs : List V) (Q : VK) (E : XK), Room k (A.deeper (envOfC qual (z02 st) s.heap.objs.size f cdv)) -> sp vs H Q E ->
      ∃ t, PSs (z4B CX0 P w K mg base N qual (z02 st) f cdv A outer s H E).nox (z0B st) t /\ t { nx := fun _ H' => Q .non H', rt := Q } (start N vs) H) : FnOk P w K mg base CX0 (k + 1) f fd ps sp := by
  obtain ⟨oc, od, kV, doc, pm, an, cdv, ct, osl, rfl, lk, hcd⟩ := F.ex
  refine z4m lk hcd S len fun A outer s H vs Q E hr hsp => ?_
  obtain ⟨t, h, q⟩ := hbody cdv A outer s H vs Q E hr hsp
  exact ⟨t, h.nox, q⟩
structure Owd (P : Program) (w : World) (K : PySem.W.Frag) (mg : Str -> Option Value) (base : Heap) (x : Str) (ps : List Str) (dvs : List V) (k : Nat) (sp : Sp) : Prop where
  ex : ∃ (f : Addr) (fd : FuncData) (ds : List Value), mg x = some (.ref f) /\ PySem.W.keepIn K (.ref f) = true /\ Binds K fd ps ds /\ Vals dvs ds /\ FnOk P w K mg base CX0 k f fd ps sp
def z6j (sc : Scope) : Bool := sc.kind == .function && sc.names.all (fun y => y.2 != .cell && y.2 != .free && (y.2 != .local || sc.names.lookup y.1 == some .local))
section
variable {X : Cx} {sc : Scope} {cl : List (Str × Addr)} {C : Addr} {N : List Str} {fp : List Addr} {s2 : Shared} {H2 : Hp} {pn : List (Addr × Obj)} {tg l : Expr} {tl : TE}
end
structure DfD (K : PySem.W.Frag) (mg : Str -> Option Value) (x : Str) (st : Stmt) (ps : List Str) (f : Addr) (fd : FuncData) (T : Addr) : Prop where
  F : FunD K x x st f fd T
  b : Binds K fd ps []
  b1 : Binds K fd ps [.none]
  m : mg x = some (.ref f)
theorem DfD.ow {P : Program} {w : World} {K : PySem.W.Frag} {mg : Str -> Option Value} {base : Heap} {x : Str} {st : Stmt} {ps : List Str} {f T : Addr} {fd : FuncData} {k : Nat} {sp : Sp} (D : DfD K mg x st ps f fd T) (F : FnOk P w K mg base CX0 k f fd ps sp) :
    Ow P w K mg base x ps k sp := ⟨f, fd, D.m, D.F.kp, D.b, F⟩
end L2
namespace L2
open PySem PySem.Spec PyProof.Rows G
theorem z4w {α : Type} {xs : List α} {v : α} (h0 : 0 < xs.length) (h : xs[xs.length - 1]? = some v) : atI xs (-1) = some v := by
  unfold atI ixN
  rw [if_neg (by decide), if_pos (by omega)]
  have e : (-1 + (xs.length : Int)).toNat = xs.length - 1 := by omega
  rw [e]
  exact h
def z5u : Sp := fun vs H Q _ => ∃ p y w h rows, vs = [.ref p, .int y] /\ PicAt H p w rows /\ Rect w h rows /\ 0 <= y /\ y < h /\ ∀ l H', Same H H' -> H l = none -> H' l = some (.lst ((rows.getD y.toNat []).map z0c)) -> Q (.ref l) H'
def z5J : Sp := fun vs H Q _ => ∃ p w h rows, vs = [.ref p] /\ PicAt H p w rows /\ Rect w h rows /\ ∀ l ps H', RowsB H H' l ps rows -> Q (.ref l) H'
def z6k : Sp := fun vs H Q _ => ∃ m : Int, vs = [.int m] /\ 0 <= m /\ Q (.int (pc m.toNat : Int)) H
def z5v : Sp := fun vs H Q _ => ∃ p w h rows, vs = [.ref p] /\ PicAt H p w rows /\ Rect w h rows /\ ∀ H', Same H H' -> Q (.int ((rows.map fun r => (z4K r : Int)).sum)) H'
def z5w : Sp := fun vs H Q _ => ∃ l ps w h rows, vs = [.ref l] /\ RowsAt H l ps rows /\ Rect w h rows /\ ∀ H', Same H H' -> Q (.int ((rows.map fun r => (z4K r : Int)).sum)) H'
end L2
namespace L2
open PySem PySem.Spec PyProof.Rows G
def z5K : Sp := fun vs H Q _ => ∃ (w h : Int) (c : Option Int), vs = [.int w, .int h, z0c c] /\ 1 <= w /\ w <= 64 /\ 1 <= h /\ h <= 64 /\ Cell c /\ ∀ p H', Same H H' -> PicAt H' p w.toNat (List.replicate h.toNat (List.replicate w.toNat c)) -> Q (.ref p) H'
end L2
namespace G
open PySem
def z4M : Nat -> Int -> Int -> List (Option Int)
  | 0, _, _ => []
  | n + 1, P, M => (if M % 2 = 1 then some (P % 16) else none) :: z4M n (P / 16) (M / 2)
def z5x : Nat -> Int -> Int -> Bool
  | 0, P, M => decide (P = 0) && decide (M = 0)
  | n + 1, P, M => (decide (M % 2 = 1) || decide (P % 16 = 0)) && z5x n (P / 16) (M / 2)
def roomI : Nat -> Int -> Int
  | 0, _ => 0
  | n + 1, M => (if M % 2 = 1 then 15 else 0) + 16 * roomI n (M / 2)
end G
namespace L2
open PySem PySem.Spec PyProof.Rows
def z7h (K : PySem.W.Frag) : R2 := fun x y H Q => ∃ a b xs ys, x = .ref a /\ y = .ref b /\ SqT K H a xs /\ SqT K H b ys /\ xs.length + ys.length <= sizeLine /\
  (xs = [] -> Q (.ref b) H) /\ (xs ≠ [] -> ys = [] -> Q (.ref a) H) /\ (xs ≠ [] -> ys ≠ [] -> ∀ p, H p = none -> Q (.ref p) (upd H p (.tup (xs ++ ys))))
section
variable {X : Cx}
def z8V (K : PySem.W.Frag) : R2 := fun x y H Q => ∃ (a b pa pb qa qb : Addr) (w h w' h' : Int) (ns ms ns' ms' : List Int), x = .ref a /\ y = .ref b /\ SqT K H a [.int w, .int h, .ref pa, .ref pb] /\ SqT K H b [.int w', .int h', .ref qa, .ref qb] /\
  SqT K H pa (ns.map V.int) /\ SqT K H pb (ms.map V.int) /\ SqT K H qa (ns'.map V.int) /\ SqT K H qb (ms'.map V.int) /\ Q (.bl ((w == w') && ((h == h') && (decide (ns = ns') && decide (ms = ms'))))) H
def z7i (i j : Int) : Prop := i.natAbs < 2 ^ 1000 /\ j.natAbs < 2 ^ 1000
end
def z6l : Sp := fun vs H Q _ => ∃ w m : Int, vs = [.int w, .int m] /\ 0 <= w /\ w <= 64 /\ 0 <= m /\ Q (.int (G.roomI w.toNat m)) H
end L2
namespace G
def tk : Nat -> List (Option Int) -> List (Option Int)
  | 0, _ => []
  | w + 1, [] => none :: tk w []
  | w + 1, c :: r => c :: tk w r
def z6m (x : Int) (r : List (Option Int)) : List (Option Int) := if 0 <= x then r.drop x.toNat else List.replicate (-x).toNat none ++ r
def z5y (b at' many : Int) : Int := (if 0 <= at' then b / 2 ^ at'.toNat else b * 2 ^ (-at').toNat) % 2 ^ many.toNat
def atR (r : List (Option Int)) (x : Int) : Option Int := if 0 <= x then (r[x.toNat]?).join else none
end G
namespace G
open PySem
def layR : List (Option Int) -> List (Option Int) -> List (Option Int)
  | u :: us, c :: cs => c.or u :: layR us cs
  | _, _ => []
def loI : List (Option Int) -> Nat
  | [] => 0
  | c :: r => if c.isSome = true then 0 else loI r + 1
def hiI : List (Option Int) -> Nat
  | [] => 0
  | c :: r => if hiI r = 0 then (if c.isSome = true then 1 else 0) else hiI r + 1
def isP (r : List (Option Int)) (i : Nat) : Prop := ((r[i]?).join).isSome = true
end G
namespace G
theorem z4x {r : List (Option Int)} {i : Nat} (h : isP r i) : i < r.length := by
  unfold isP at h
  cases hi : r[i]? with
  | none => rw [hi] at h; cases h
  | some c => exact (List.getElem?_eq_some_iff.mp hi).1
def z3U (w : Nat) (rows : List (List (Option Int))) : List (Option Int) := rows.foldl layR (List.replicate w none)
def anyR (rows : List (List (Option Int))) : List (Option Int) := rows.map fun r => if z1b r = 0 then none else some 0
def z8W (rows : List (List (Option Int))) (n : Nat) : List Nat := (List.range n).filter fun y => decide (zR rows y ≠ 0) where
  zR (rows : List (List (Option Int))) (y : Nat) : Int := z1b ((rows[y]?).getD [])
end G
namespace L2
open G
abbrev Rws := List (List (Option Int))
def z0w (rows : Rws) (x y : Nat) : Option Int := (((rows[y]?).getD [])[x]?).join
def z1z (w h : Nat) (f : Nat -> Nat -> Option Int) : Rws := (List.range h).map fun y => (List.range w).map fun x => f x y
theorem z3p (w h : Nat) (f : Nat -> Nat -> Option Int) : (z1z w h f).length = h := by unfold z1z; rw [List.length_map, List.length_range]
theorem Rect.cell {w h : Nat} {rows : Rws} (R : Rect w h rows) (x y : Nat) : Cell (z0w rows x y) := by
  unfold z0w
  cases hy : rows[y]? with
  | none => exact fun z e => nomatch e
  | some r =>
    show Cell ((r[x]?).join)
    cases hx : r[x]? with
    | none => exact fun z e => nomatch e
    | some c => exact (R.row r (List.mem_of_getElem? hy)).2 c (List.mem_of_getElem? hx)
theorem z20 {w h : Nat} {f : Nat -> Nat -> Option Int} (h1 : 1 <= h) (h2 : h <= 64) (w1 : 1 <= w) (w2 : w <= 64) (hc : ∀ x y, Cell (f x y)) : Rect w h (z1z w h f) :=
  ⟨z3p w h f, h1, h2, w1, w2, fun r hr => by
    unfold z1z at hr
    obtain ⟨y, _, rfl⟩ := List.mem_map.mp hr
    refine ⟨by rw [List.length_map, List.length_range], fun c hc' => ?_⟩
    obtain ⟨x, _, rfl⟩ := List.mem_map.mp hc'
    exact hc x y⟩
def z4y (w h : Nat) (rows : Rws) : Rws := z1z h w fun x y => z0w rows y (h - 1 - x)
def z7j (w h : Nat) (rows : Rws) : Rws := z1z w h fun x y => z0w rows (w - 1 - x) y
def z6n (w h : Nat) (rows : Rws) : Rws := z1z w h fun x y => z0w rows x (h - 1 - y)
theorem Rect.turn {w h : Nat} {rows : Rws} (R : Rect w h rows) : Rect h w (z4y w h rows) := z20 R.w1 R.w2 R.h1 R.h2 fun _ _ => R.cell _ _
theorem Rect.upd {w h : Nat} {rows : Rws} (R : Rect w h rows) : Rect w h (z6n w h rows) := z20 R.h1 R.h2 R.w1 R.w2 fun _ _ => R.cell _ _
end L2
namespace L2
open PySem PySem.Spec PyProof.Rows G
def z7k (i j : Int) : Prop := 0 <= j /\ j <= 1000000 /\ i.natAbs < 2 ^ 1000
def rowAt (rows : List (List (Option Int))) (y : Int) : List (Option Int) := if 0 <= y then (rows[y.toNat]?).getD [] else []
def zAt (zs : List Int) (y : Int) : Int := if 0 <= y then (zs[y.toNat]?).getD 0 else 0
def z7l (rows : List (List (Option Int))) (x y : Int) (w : Nat) : List (Option Int) := (List.range w).map fun (i : Nat) => atR (rowAt rows y) (x + (i : Int))
def cutRows (rows : List (List (Option Int))) (x y : Int) (w h : Nat) : List (List (Option Int)) := (List.range h).map fun (j : Nat) => z7l rows x (y + (j : Int)) w
def z4z : Sp := fun vs H Q _ => ∃ (t : Addr) (zs : List Int) (y : Int), vs = [.ref t, .int y] /\ H t = some (.tup (zs.map V.int)) /\ Q (.int (zAt zs y)) H
def z50 : Sp := fun vs H Q _ => ∃ b a m : Int, vs = [.int b, .int a, .int m] /\ 0 <= b /\ b < 2 ^ 256 /\ -1000 <= a /\ a <= 1000 /\ 0 <= m /\ m <= 1000 /\ Q (.int (z5y b a m)) H
def z7m : Sp := fun vs H Q _ => ∃ p x y w h rows w' h', vs = [.ref p, .int x, .int y, .int w', .int h'] /\ PicAt H p w rows /\ Rect w h rows /\ 1 <= w' /\ w' <= 64 /\ 1 <= h' /\ h' <= 64 /\
  ∀ q H', Same H H' -> PicAt H' q w'.toNat (cutRows rows x y w'.toNat h'.toNat) -> Q (.ref q) H'
end L2
namespace L2
open PySem PySem.Spec PyProof.Rows G
structure Made (H H2 : Hp) (f : Nat -> List (Option Int)) (i : Nat) (qs : List Addr) : Prop where
  same : Same H H2
  len : qs.length = i
  fr : ∀ q ∈ qs, H q = none
  at' : ∀ (j : Nat) q, qs[j]? = some q -> H2 q = some (.lst ((f j).map z0c))
  nd : qs.Nodup
theorem Made.nil {H : Hp} {f : Nat -> List (Option Int)} : Made H H f 0 [] := ⟨Same.refl _, rfl, (fun _ h => nomatch h), (fun _ _ h => nomatch h), List.nodup_nil⟩
theorem Made.push {H H2 H3 : Hp} {f : Nat -> List (Option Int)} {i : Nat} {qs : List Addr} {l : Addr} (M : Made H H2 f i qs) (s : Same H2 H3) (n : H2 l = none) (g : H3 l = some (.lst ((f i).map z0c))) : Made H H3 f (i + 1) (qs ++ [l]) where
  same := M.same.trans s
  len := by rw [List.length_append, M.len]; rfl
  fr := fun q hq => by
    rcases List.mem_append.mp hq with h | h
    . exact M.fr q h
    . rw [List.mem_singleton.mp h]
      exact M.same.free n
  at' := fun j q e => by
    have hl := M.len
    by_cases hj : j < qs.length
    . rw [List.getElem?_append_left hj] at e
      exact s _ _ (M.at' j q e)
    . rw [List.getElem?_append_right (by omega)] at e
      cases hk : j - qs.length with
      | zero =>
        rw [hk] at e
        cases e
        have ej : j = i := by omega
        rw [ej]
        exact g
      | succ n =>
        rw [hk] at e
        cases e
  nd := by
    refine List.nodup_append.mpr ⟨M.nd, by simp, fun q hq r hr e => ?_⟩
    rw [List.mem_singleton.mp hr] at e
    obtain ⟨j, hj, ej⟩ := List.mem_iff_getElem.mp hq
    have := M.at' j q (by rw [List.getElem?_eq_getElem hj, ej])
    rw [e, n] at this
    cases this
theorem Made.rows {H H2 : Hp} {f : Nat -> List (Option Int)} {n : Nat} {qs : List Addr} {l : Addr} (M : Made H H2 f n qs) (nl : H2 l = none) : RowsB H (upd H2 l (.lst (qs.map V.ref))) l qs ((List.range n).map f) where
  same := M.same.trans (Same.new nl)
  fl := M.same.free nl
  fp := fun p hp => ⟨M.fr p hp, fun e => by
    obtain ⟨j, hj, ej⟩ := List.mem_iff_getElem.mp hp
    have := M.at' j p (by rw [List.getElem?_eq_getElem hj, ej])
    rw [e, nl] at this
    cases this⟩
  rat := ⟨z01, by rw [M.len, List.length_map, List.length_range], fun i p r e1 e2 => by
    have hi : i < n := by
      have := (List.getElem?_eq_some_iff.mp e1).1
      have := M.len
      omega
    rw [List.getElem?_map, List.getElem?_range hi] at e2
    cases e2
    exact (Same.new nl) _ _ (M.at' i p e1)⟩
theorem PicAt.of {H : Hp} {p : Addr} {w : Nat} {rows rows' : List (List (Option Int))} (h : PicAt H p w rows) (e : rows = rows') : PicAt H p w rows' := e ▸ h
def z8X : Sp := fun vs H Q _ => ∃ (l : Addr) (ps : List Addr) (rows : List (List (Option Int))) (w h : Nat), vs = [.int (w : Int), .ref l] /\ RowsAt H l ps rows /\ Rect w h rows /\ ∀ p H', Same H H' -> H p = none -> PicAt H' p w rows -> Q (.ref p) H'
def z5z : Sp := fun vs H Q _ => ∃ (l : Addr) (x : Nat) (ps : List Addr) (rows : List (List (Option Int))) (w h : Nat), vs = [.ref l, .int (x : Int)] /\ RowsAt H l ps rows /\ Rect w h rows /\ x < w /\ ∀ l' H', Same H H' -> H l' = none -> H' l' = some (.lst (((List.range h).map fun i => z0w rows x (h - 1 - i)).map z0c)) -> Q (.ref l') H'
def z5L : Sp := fun vs H Q _ => ∃ p w h rows, vs = [.ref p] /\ PicAt H p w rows /\ Rect w h rows /\ ∀ q H', Same H H' -> PicAt H' q h (z4y w h rows) -> Q (.ref q) H'
def z4R : Sp := fun vs H Q _ => ∃ p w h rows, vs = [.ref p] /\ PicAt H p w rows /\ Rect w h rows /\ ∀ q H', Same H H' -> PicAt H' q w (z7j w h rows) -> Q (.ref q) H'
def z51 : Sp := fun vs H Q _ => ∃ p w h rows, vs = [.ref p] /\ PicAt H p w rows /\ Rect w h rows /\ ∀ q H', Same H H' -> PicAt H' q w (z6n w h rows) -> Q (.ref q) H'
theorem RowsAt.cell {H : Hp} {l : Addr} {ps : List Addr} {rows : List (List (Option Int))} {w h : Nat} (a : RowsAt H l ps rows) (R : Rect w h rows) {x y : Nat} (hx : x < w) (hy : y < h) :
    ∃ p xs, ps[y]? = some p /\ L2.atI (ps.map V.ref) (y : Int) = some (.ref p) /\ H p = some (.lst xs) /\ L2.atI xs (x : Int) = some (z0c (z0w rows x y)) := by
  have hR := R.len
  have hl : y < rows.length := by omega
  obtain ⟨p, e0, g⟩ := a.at hl
  have e1 : L2.atI (ps.map V.ref) (y : Int) = some (.ref p) := z0j (by rw [List.getElem?_map, e0]; rfl)
  have hw := (R.row0 hl).1
  refine ⟨p, _, e0, e1, g, z0j ?_⟩
  have e : z0w rows x y = (rows[y]'hl)[x]'(by omega) := by
    unfold z0w
    rw [List.getElem?_eq_getElem hl]
    show ((rows[y]'hl)[x]?).join = _
    rw [List.getElem?_eq_getElem (by omega)]
    rfl
  rw [List.getElem?_map, List.getElem?_eq_getElem (by omega), e]
  rfl
abbrev z7n (h : Heap) (T : Addr) (x y v : Value) : Prop := h.get? T = some { cls := .type "tuple", data := .seq #[x, y, v] }
structure Ap3 (z TI TO i1 i2 i3 l1 l2 l3 : Addr) : Prop where
  TIz : TI ≠ z
  TOz : TO ≠ z
  i1z : i1 ≠ z
  i2z : i2 ≠ z
  i3z : i3 ≠ z
  TITO : TI ≠ TO
  TIi1 : TI ≠ i1
  TIi2 : TI ≠ i2
  TIi3 : TI ≠ i3
  TOi1 : TO ≠ i1
  TOi2 : TO ≠ i2
  TOi3 : TO ≠ i3
  i12 : i1 ≠ i2
  i13 : i1 ≠ i3
  i23 : i2 ≠ i3
  l1z : l1 ≠ z
  l2z : l2 ≠ z
  l3z : l3 ≠ z
  l2i1 : l2 ≠ i1
  l2TO : l2 ≠ TO
  l3i1 : l3 ≠ i1
  l3i2 : l3 ≠ i2
  l3TO : l3 ≠ TO
section
variable {prog : Program} {w : World} {A : Around} {E : Value -> Shared -> Prop} {s : Shared}
abbrev zw1 (h : Heap) (l1 : Addr) : Heap := h.push { cls := .type "tuple_iterator", data := .fields #[.ref l1, .int 0 0] }
abbrev zw2 (h : Heap) (l1 l2 : Addr) : Heap := (zw1 h l1).push { cls := .type "tuple_iterator", data := .fields #[.ref l2, .int 0 0] }
abbrev zw3 (h : Heap) (l1 l2 l3 : Addr) : Heap := (zw2 h l1 l2).push { cls := .type "tuple_iterator", data := .fields #[.ref l3, .int 0 0] }
abbrev zw4 (h : Heap) (l1 l2 l3 : Addr) : Heap := (zw3 h l1 l2 l3).push { cls := .type "tuple", data := .seq #[.ref h.objs.size, .ref (zw1 h l1).objs.size, .ref (zw2 h l1 l2).objs.size] }
abbrev zw5 (h : Heap) (l1 l2 l3 : Addr) : Heap := (zw4 h l1 l2 l3).push { cls := .type "tuple", data := .seq #[.none, .none, .none] }
abbrev zw6 (h : Heap) (l1 l2 l3 : Addr) : Heap := (zw5 h l1 l2 l3).push { cls := .type "zip", data := .fields #[.none, .bool false, .bool false, .ref (zw3 h l1 l2 l3).objs.size, .ref (zw4 h l1 l2 l3).objs.size] }
end
def Itw (K : PySem.W.Frag) (a b c : Addr) (xs ys zs : List V) : It :=
  ⟨fun i H => SqT K H a xs /\ SqT K H b ys /\ SqT K H c zs /\ i < xs.length /\ i < ys.length /\ i < zs.length, fun i H x H' => ∃ T u v r, H T = none /\ x = .ref T /\ H' = upd H T (.tup [u, v, r]) /\ xs[i]? = some u /\ ys[i]? = some v /\ zs[i]? = some r,
    fun i H => SqT K H a xs /\ xs.length <= i⟩
section
variable {X : Cx}
def z7o (K : PySem.W.Frag) (ta : TA) : TI := fun σ H R => ta σ H fun vs H1 => ∃ a b c xs ys zs, vs = [.ref a, .ref b, .ref c] /\ SqT K H1 a xs /\ SqT K H1 b ys /\ SqT K H1 c zs /\ R (Itw K a b c xs ys zs) H1
end
section
variable {X : Cx}
def z8Y (K : PySem.W.Frag) : R2 := fun x y H Q => ∃ (a b : Addr) (xs : List V), x = .ref a /\ y = .ref b /\ SqL K H a xs /\ SqL K H b [] /\ Q (.bl (decide (xs.length = 0))) H
end
structure Df2 (K : PySem.W.Frag) (mg : Str -> Option Value) (x : Str) (st : Stmt) (ps : List Str) (f : Addr) (fd : FuncData) (T : Addr) (d e : Int) : Prop where
  F : FunD K x x st f fd T
  b : Binds K fd ps []
  b1 : ∃ t, Binds K fd ps [.int e t]
  b2 : ∃ t u, Binds K fd ps [.int d t, .int e u]
  m : mg x = some (.ref f)
section
variable {P : Program} {w : World} {K : PySem.W.Frag} {mg : Str -> Option Value} {base : Heap} {x : Str} {st : Stmt} {ps : List Str} {f T : Addr} {fd : FuncData} {k : Nat} {sp : Sp} {d e : Int}
theorem Df2.ow (D : Df2 K mg x st ps f fd T d e) (F : FnOk P w K mg base CX0 k f fd ps sp) : Ow P w K mg base x ps k sp := ⟨f, fd, D.m, D.F.kp, D.b, F⟩
end
end L2
namespace L2
open PySem PySem.Spec PyProof.Rows G
def z4N : Sp := fun vs H Q _ => ∃ w lo up m : Int, vs = [.int w, .int lo, .int up, .int m] /\ 0 <= w /\ w <= 64 /\ 0 <= m /\ Q (.int (Builtin.bitOr (Builtin.bitAnd lo (Builtin.bitNot (roomI w.toNat m))) up)) H
def z3V (us cs : Rws) : Rws := List.zipWith layR us cs
def llR (w w2 h2 : Nat) (rows rows2 : Rws) (x y : Int) (j : Nat) : List (Option Int) := (List.range w).map fun (i : Nat) => (look w2 h2 rows2 ((i : Int) - x) ((j : Int) - y)).or (z0w rows i j)
def z6o : Sp := fun vs H Q _ => ∃ (p o : Addr) (x y : Int) (w h w2 h2 : Nat) (rows rows2 : Rws), vs = [.ref p, .ref o, .int x, .int y] /\ PicAt H p w rows /\ Rect w h rows /\ PicAt H o w2 rows2 /\ Rect w2 h2 rows2 /\
  ∀ q H', Same H H' -> PicAt H' q w (z3V rows (cutRows rows2 (-x) (-y) w h)) -> Q (.ref q) H'
def z60 : Sp := fun vs H Q _ => ∃ (l m : Addr) (x y : Int) (w h w2 h2 : Nat) (ps ps2 : List Addr) (rows rows2 : Rws), vs = [.ref l, .ref m, .int x, .int y] /\ RowsAt H l ps rows /\ Rect w h rows /\ RowsAt H m ps2 rows2 /\ Rect w2 h2 rows2 /\
  ∀ l' ps' H', Same H H' -> RowsAt H' l' ps' (z3V rows (cutRows rows2 (-x) (-y) w h)) -> Q (.ref l') H'
def z6p : Sp := fun vs H Q _ => ∃ (p : Addr) (w h : Nat) (rows : Rws), vs = [.ref p] /\ PicAt H p w rows /\ Rect w h rows /\ Q (.int (z1b (z3U w rows))) H
def z6q (w : Nat) (rows : Rws) : Option (List Int) := if z1b (z3U w rows) = 0 then none else some [(loI (z3U w rows) : Int), (loI (anyR rows) : Int), (hiI (z3U w rows) : Int) - (loI (z3U w rows) : Int), (hiI (anyR rows) : Int) - 1 - (loI (anyR rows) : Int) + 1]
def BoxV (H : Hp) (v : V) : Option (List Int) -> Prop
  | none => v = .non
  | some zs => ∃ t, v = .ref t /\ H t = some (.tup (zs.map V.int))
theorem BoxV.mono {H H' : Hp} {v : V} {b : Option (List Int)} (s : Same H H') (h : BoxV H v b) : BoxV H' v b := by
  cases b with
  | none => exact h
  | some zs => obtain ⟨t, e, g⟩ := h; exact ⟨t, e, s _ _ g⟩
def z7p : Sp := fun vs H Q _ => ∃ (p : Addr) (w h : Nat) (rows : Rws), vs = [.ref p] /\ PicAt H p w rows /\ Rect w h rows /\ ∀ v H', Same H H' -> BoxV H' v (z6q w rows) -> Q v H'
def z6r : Sp := fun vs H Q _ => ∃ (l : Addr) (ps : List Addr) (w h : Nat) (rows : Rws), vs = [.ref l] /\ RowsAt H l ps rows /\ Rect w h rows /\ ∀ v H', Same H H' -> BoxV H' v (z6q w rows) -> Q v H'
def pt (rows : Rws) (x y : Nat) : Prop := (z0w rows x y).isSome = true
theorem z61 {w h : Nat} {rows : Rws} (R : Rect w h rows) {x y : Nat} (p : pt rows x y) : x < w /\ y < h := by
  have hR := R.len
  unfold pt z0w at p
  cases hr : rows[y]? with
  | none =>
    rw [hr] at p
    have p' : ((([] : List (Option Int))[x]?).join).isSome = true := p
    cases x <;> cases p'
  | some r =>
    rw [hr] at p
    have hw := (R.row r (List.mem_of_getElem? hr)).1
    have hy := (List.getElem?_eq_some_iff.mp hr).1
    have hx := z4x (r := r) (i := x) p
    omega
structure Gone (w : Nat) (rows : Rws) (y x : Nat) (A D : List Int) : Prop where
  len : A.length = D.length
  small : A.length <= y * w + x
  a : ∀ z, z ∈ A ↔ ∃ x' y' : Nat, (y' < y \/ (y' = y /\ x' < x)) /\ pt rows x' y' /\ z = (x' : Int)
  d : ∀ z, z ∈ D ↔ ∃ x' y' : Nat, (y' < y \/ (y' = y /\ x' < x)) /\ pt rows x' y' /\ z = (y' : Int)
theorem Gone.nil {w : Nat} {rows : Rws} : Gone w rows 0 0 [] [] :=
  ⟨rfl, Nat.zero_le _, fun z => ⟨(fun h => nomatch h), fun ⟨x', y', h, _⟩ => by omega⟩, fun z => ⟨(fun h => nomatch h), fun ⟨x', y', h, _⟩ => by omega⟩⟩
theorem Gone.hole {w : Nat} {rows : Rws} {y x : Nat} {A D : List Int} (g : Gone w rows y x A D) (n : z0w rows x y = none) : Gone w rows y (x + 1) A D := by
  have np : ¬ pt rows x y := fun p => by unfold pt at p; rw [n] at p; cases p
  have key : ∀ x' y' : Nat, pt rows x' y' -> ((y' < y \/ (y' = y /\ x' < x)) ↔ (y' < y \/ (y' = y /\ x' < x + 1))) := fun x' y' p => by
    constructor
    . rintro (h | ⟨h1, h2⟩)
      . exact .inl h
      . exact .inr ⟨h1, by omega⟩
    . rintro (h | ⟨h1, h2⟩)
      . exact .inl h
      . by_cases e : x' = x
        . rw [e, h1] at p
          exact absurd p np
        . exact .inr ⟨h1, by omega⟩
  refine ⟨g.len, by have := g.small; omega, fun z => (g.a z).trans ⟨?_, ?_⟩, fun z => (g.d z).trans ⟨?_, ?_⟩⟩
  all_goals
    rintro ⟨x', y', h, p, e⟩
    exact ⟨x', y', by first | exact (key x' y' p).mp h | exact (key x' y' p).mpr h, p, e⟩
theorem Gone.put {w : Nat} {rows : Rws} {y x : Nat} {A D : List Int} (g : Gone w rows y x A D) {c : Int} (n : z0w rows x y = some c) : Gone w rows y (x + 1) (A ++ [(x : Int)]) (D ++ [(y : Int)]) := by
  have p0 : pt rows x y := by unfold pt; rw [n]; rfl
  have l := g.len
  refine ⟨by rw [List.length_append, List.length_append, l]; rfl, by rw [List.length_append]; have := g.small; show _ + 1 <= _; omega, fun z => ?_, fun z => ?_⟩
  . rw [List.mem_append, g.a z, List.mem_singleton]
    constructor
    . rintro (⟨x', y', h, p, e⟩ | e)
      . exact ⟨x', y', by omega, p, e⟩
      . exact ⟨x, y, by omega, p0, e⟩
    . rintro ⟨x', y', h, p, e⟩
      by_cases q : y' < y \/ (y' = y /\ x' < x)
      . exact .inl ⟨x', y', q, p, e⟩
      . have : x' = x := by omega
        rw [this] at e
        exact .inr e
  . rw [List.mem_append, g.d z, List.mem_singleton]
    constructor
    . rintro (⟨x', y', h, p, e⟩ | e)
      . exact ⟨x', y', by omega, p, e⟩
      . exact ⟨x, y, by omega, p0, e⟩
    . rintro ⟨x', y', h, p, e⟩
      by_cases q : y' < y \/ (y' = y /\ x' < x)
      . exact .inl ⟨x', y', q, p, e⟩
      . have : y' = y := by omega
        rw [this] at e
        exact .inr e
theorem Gone.row {w h : Nat} {rows : Rws} (R : Rect w h rows) {y : Nat} {A D : List Int} (g : Gone w rows y w A D) : Gone w rows (y + 1) 0 A D := by
  have key : ∀ x' y' : Nat, pt rows x' y' -> ((y' < y \/ (y' = y /\ x' < w)) ↔ (y' < y + 1 \/ (y' = y + 1 /\ x' < 0))) := fun x' y' p => by
    have := (z61 R p).1
    omega
  refine ⟨g.len, by have := g.small; rw [Nat.add_mul]; omega, fun z => (g.a z).trans ⟨?_, ?_⟩, fun z => (g.d z).trans ⟨?_, ?_⟩⟩
  all_goals
    rintro ⟨x', y', h, p, e⟩
    exact ⟨x', y', by first | exact (key x' y' p).mp h | exact (key x' y' p).mpr h, p, e⟩
end L2
namespace L2
open PySem PySem.Spec PyProof.Rows G
def z2G (K : PySem.W.Frag) : Sp := fun vs H Q _ => ∃ (a : Addr) (ns : List Int) (k p m : Int), vs = [.ref a, .int k, .int p, .int m] /\ SqL K H a (ns.map V.int) /\ 0 <= k /\ k < 1000000 /\ 0 < p /\ 0 < m /\ ∀ r, 0 <= r -> r < m -> Q (.int r) H
def z62 (K : PySem.W.Frag) : Sp := fun vs H Q _ => ∃ (a : Addr) (ns : List Int) (k : Int), vs = [.ref a, .int k] /\ SqL K H a (ns.map V.int) /\ 0 <= k /\ k < 100000 /\ ∀ c, Cell c -> Q (z0c c) H
def z63 : Sp := fun vs H Q _ => ∃ (p d : Addr) (w h : Nat) (rows : Rws), vs = [.ref p, .ref d] /\ PicAt H p w rows /\ PicAt H d w rows /\ Rect w h rows /\ ∀ H', Same H H' -> Q (.bl true) H'
def z52 (w h : Nat) (rows : Rws) (dx dy : Int) : Rws := z1z w h fun i j => look w h rows ((i : Int) + dx) ((j : Int) + dy)
def z6s : Sp := fun vs H Q _ => ∃ (p : Addr) (w h : Nat) (rows : Rws) (dx dy : Int), vs = [.ref p, .int dx, .int dy] /\ PicAt H p w rows /\ Rect w h rows /\ ∀ q H', Same H H' -> PicAt H' q w (z52 w h rows dx dy) -> Q (.ref q) H'
def z6t : Sp := fun vs H Q _ => ∃ (l : Addr) (ps : List Addr) (w h : Nat) (rows : Rws) (dx dy : Int), vs = [.ref l, .int dx, .int dy] /\ RowsAt H l ps rows /\ Rect w h rows /\ ∀ q H', Same H H' -> PicAt H' q w (z52 w h rows dx dy) -> Q (.ref q) H'
abbrev Bx := Int × Int × Int × Int
def bxV (b : Bx) : List V := [.int b.1, .int b.2.1, .int b.2.2.1, .int b.2.2.2]
def z7q (b : Bx) (i j : Int) : Bool := (decide (b.1 <= i) && decide (i < b.1 + b.2.2.1)) && (decide (b.2.1 <= j) && decide (j < b.2.1 + b.2.2.2))
def z7r (w h : Nat) (dx dy : Int) (i j : Int) : Bool := !(decide (0 <= i + dx) && decide (i + dx < w)) || !(decide (0 <= j + dy) && decide (j + dy < h))
def z6u (w h : Nat) (b : Bx) : Prop := 1 <= b.2.2.1 /\ 1 <= b.2.2.2 /\ 0 <= b.1 /\ 0 <= b.2.1 /\ b.1 + b.2.2.1 <= w /\ b.2.1 + b.2.2.2 <= h
structure FreshOk (w h : Nat) (dx dy : Int) (bs : List Bx) : Prop where
  len : bs.length <= 2
  box : ∀ b ∈ bs, z6u w h b
  cnt : ∀ i j : Nat, i < w -> j < h -> bs.countP (fun b => z7q b i j) = if z7r w h dx dy i j = true then 1 else 0
structure BxsAt (H : Hp) (l : Addr) (ts : List Addr) (bs : List Bx) : Prop where
  lst : H l = some (.lst (ts.map V.ref))
  len : ts.length = bs.length
  at' : ∀ (i : Nat) t b, ts[i]? = some t -> bs[i]? = some b -> H t = some (.tup (bxV b))
theorem BxsAt.mono {H H' : Hp} {l : Addr} {ts : List Addr} {bs : List Bx} (s : Same H H') (h : BxsAt H l ts bs) : BxsAt H' l ts bs := ⟨s _ _ h.lst, h.len, fun i t b e1 e2 => s _ _ (h.at' i t b e1 e2)⟩
def z64 : Sp := fun vs H Q _ => ∃ (w h : Nat) (dx dy : Int), vs = [.int w, .int h, .int dx, .int dy] /\ 1 <= w /\ w <= 64 /\ 1 <= h /\ h <= 64 /\ ∀ l ts bs H', Same H H' -> H l = none -> BxsAt H' l ts bs -> FreshOk w h dx dy bs -> Q (.ref l) H'
def z5M : Sp := fun vs H Q _ => ∃ (t : Addr) (b : Bx) (w h : Nat), vs = [.ref t, .int w, .int h] /\ H t = some (.tup (bxV b)) /\ z6u w h b /\ ∀ H', Same H H' -> Q (.bl true) H'
def z5N : Sp := fun vs H Q _ => ∃ (l : Addr) (ts : List Addr) (bs : List Bx) (w h : Nat) (dx dy : Int), vs = [.ref l, .int w, .int h, .int dx, .int dy] /\ w <= 64 /\ h <= 64 /\ BxsAt H l ts bs /\ FreshOk w h dx dy bs /\ ∀ H', Same H H' -> Q (.bl true) H'
def z6v (K : PySem.W.Frag) : Sp := fun vs H Q _ => ∃ (a : Addr) (ns : List Int) (k s : Int), vs = [.ref a, .int k, .int s] /\ SqL K H a (ns.map V.int) /\ 0 <= k /\ k < 1000 /\ 0 <= s /\ s <= 64 /\ ∀ z, Q (.int z) H
end L2
namespace L2
open PySem PySem.Spec PyProof.Rows G
def z4S (z : Int) : Int := if z < 0 then -z else z
def bxA (w h : Nat) (dx : Int) : List Bx := if 0 < z4S dx then [(if 0 < dx then (w : Int) - dx else 0, 0, z4S dx, (h : Int))] else []
def bxB (w h : Nat) (dx dy : Int) : List Bx := if 0 < z4S dy then [(if 0 < dx then 0 else z4S dx, if 0 < dy then (h : Int) - dy else 0, (w : Int) - z4S dx, z4S dy)] else []
def Sc (x : V) : Prop := x = .non \/ (∃ b, x = .bl b) \/ (∃ i, x = .int i) \/ (∃ z, x = .str z) \/ ∃ a, x = .ref a
theorem Sc.int (i : Int) : Sc (.int i) := .inr (.inr (.inl ⟨i, rfl⟩))
theorem Sc.non : Sc .non := .inl rfl
theorem Sc.str (z : Str) : Sc (.str z) := .inr (.inr (.inr (.inl ⟨z, rfl⟩)))
theorem Sc.ref (a : Addr) : Sc (.ref a) := .inr (.inr (.inr (.inr ⟨a, rfl⟩)))
def Eqv : Nat -> Hp -> V -> V -> Prop
  | 0, _, x, y => x = y /\ Sc x
  | n + 1, H, x, y => (x = y /\ Sc x) \/ ∃ a b xs ys, x = .ref a /\ y = .ref b /\ ((H a = some (.lst xs) /\ H b = some (.lst ys)) \/ (H a = some (.tup xs) /\ H b = some (.tup ys))) /\ xs.length = ys.length /\ ∀ (i : Nat) u v, xs[i]? = some u -> ys[i]? = some v -> Eqv n H u v
theorem Eqv.same {n : Nat} {H : Hp} {x : V} (h : Sc x) : Eqv n H x x := by
  cases n with
  | zero => exact ⟨rfl, h⟩
  | succ n => exact .inl ⟨rfl, h⟩
theorem Eqv.mono {H H' : Hp} (s : Same H H') : ∀ {n : Nat} {x y : V}, Eqv n H x y -> Eqv n H' x y
  | 0, _, _, h => h
  | n + 1, _, _, h => by
    rcases h with h | ⟨a, b, xs, ys, e1, e2, e3, e5, e6⟩
    . exact .inl h
    . refine .inr ⟨a, b, xs, ys, e1, e2, ?_, e5, fun i u v h1 h2 => (e6 i u v h1 h2).mono s⟩
      rcases e3 with ⟨p, q⟩ | ⟨p, q⟩
      . exact .inl ⟨s _ _ p, s _ _ q⟩
      . exact .inr ⟨s _ _ p, s _ _ q⟩
theorem z21 : ∀ {xs : List V} {its : List Value} {j : Nat} {v : Value}, Vals xs its -> its[j]? = some v -> ∃ x, xs[j]? = some x /\ RelV x v
  | _, _, _, _, .nil, e => by simp at e
  | _, _, 0, _, .cons r _, e => by
    simp at e
    exact ⟨_, rfl, e ▸ r⟩
  | _, _, j + 1, _, .cons _ rs, e => z21 (j := j) rs (by simpa using e)
theorem z3W {A : Around} {k : Nat} (hr : Room k A) : A.units + 9 < cLine := by
  have := hr.un
  omega
section
variable {X : Cx} {pins : List (Addr × Obj)} {σ : St} {H : Hp} {s : Shared} {A : Around}
theorem z1d {a b : Addr} {xs ys : List V} (hu : A.units < cLine) (I : Inv X pins σ H s) (ha : H a = some (.lst xs)) (hb : H b = some (.lst ys)) (hl : xs.length = ys.length)
    (he : ∀ (j : Nat) x y vx vy, xs[j]? = some x -> ys[j]? = some y -> RelV x vx -> RelV y vy -> SeqAt.EqAt A.in1 s vx vy true) : SeqAt.RcAt A s (.ref a) (.ref b) true /\ SeqAt.RcNeAt A s (.ref a) (.ref b) false := by
  obtain ⟨its, r1, p1, _⟩ := I.list (SqL.of ha)
  obtain ⟨its2, r2, p2, _⟩ := I.list (SqL.of hb)
  have l1 := r1.length
  have l2 := r2.length
  have hsz : its.toArray.size = its2.toArray.size := by rw [List.size_toArray, List.size_toArray]; omega
  have hx : ∀ (j : Nat) (h1 : j < its.toArray.size) (h2 : j < its2.toArray.size), SeqAt.EqAt A.in1 s its.toArray[j] its2.toArray[j] ((fun _ => true) j) := fun j h1 h2 => by
    have i1 : j < its.length := by simpa using h1
    have i2 : j < its2.length := by simpa using h2
    obtain ⟨x, ex, rx⟩ := z21 r1 (List.getElem?_eq_getElem i1)
    obtain ⟨y, ey, ry⟩ := z21 r2 (List.getElem?_eq_getElem i2)
    have := he j x y _ _ ex ey rx ry
    simpa using this
  have e : ((List.range its.toArray.size).all fun _ => true) = true := by simp
  have q1 := SeqAt.RcAt.lists (A := A) (s := s) (e := fun _ => true) p1.isList p2.isList hsz hu hx
  have q2 := SeqAt.RcNeAt.lists (A := A) (s := s) (e := fun _ => true) p1.isList p2.isList hsz hu hx
  rw [e] at q1 q2
  exact ⟨q1, q2⟩
theorem z2H {a b : Addr} {xs ys : List V} (hu : A.units < cLine) (I : Inv X pins σ H s) (ha : H a = some (.tup xs)) (hb : H b = some (.tup ys)) (hl : xs.length = ys.length)
    (he : ∀ (j : Nat) x y vx vy, xs[j]? = some x -> ys[j]? = some y -> RelV x vx -> RelV y vy -> SeqAt.EqAt A.in1 s vx vy true) : SeqAt.RcAt A s (.ref a) (.ref b) true /\ SeqAt.RcNeAt A s (.ref a) (.ref b) false := by
  obtain ⟨its, r1, p1, _⟩ := I.tuple (SqT.of ha)
  obtain ⟨its2, r2, p2, _⟩ := I.tuple (SqT.of hb)
  have l1 := r1.length
  have l2 := r2.length
  have hx : ∀ (j : Nat) (h1 : j < its.toArray.size) (h2 : j < its2.toArray.size), SeqAt.EqAt A.in1 s its.toArray[j] its2.toArray[j] ((fun _ => true) j) := fun j h1 h2 => by
    have i1 : j < its.length := by simpa using h1
    have i2 : j < its2.length := by simpa using h2
    obtain ⟨x, ex, rx⟩ := z21 r1 (List.getElem?_eq_getElem i1)
    obtain ⟨y, ey, ry⟩ := z21 r2 (List.getElem?_eq_getElem i2)
    have := he j x y _ _ ex ey rx ry
    simpa using this
  have e1 : ((List.range (min its.toArray.size its2.toArray.size)).all (fun _ => true) && its.toArray.size == its2.toArray.size) = true := by
    rw [List.size_toArray, List.size_toArray, <- l1, <- l2, hl]
    simp
  have q1 := SeqAt.RcAt.tuples (A := A) (s := s) (e := fun _ => true) p1 p2 hu hx
  have q2 := SeqAt.RcNeAt.tuples (A := A) (s := s) (e := fun _ => true) p1 p2 hu hx
  rw [e1] at q1 q2
  exact ⟨q1, q2⟩
theorem z40 {n : Nat} : ∀ {A : Around} {x y : V} {vx vy : Value}, A.units + n < cLine -> Inv X pins σ H s -> Eqv n H x y -> RelV x vx -> RelV y vy -> SeqAt.EqAt A s vx vy true := by
  have z4i : ∀ {A : Around} {x : V} {vx vy : Value}, Sc x -> RelV x vx -> RelV x vy -> SeqAt.EqAt A s vx vy true := fun {A x vx vy} h rx ry => by
    rcases h with rfl | ⟨b, rfl⟩ | ⟨i, rfl⟩ | ⟨z, rfl⟩ | ⟨a, rfl⟩
    . cases (show vx = Value.none from rx)
      cases (show vy = Value.none from ry)
      exact SeqAt.EqAt.same _
    . cases (show vx = Value.bool b from rx)
      cases (show vy = Value.bool b from ry)
      exact SeqAt.EqAt.same _
    . obtain ⟨t1, rfl⟩ := rx
      obtain ⟨t2, rfl⟩ := ry
      have := SeqAt.EqAt.int_int (A := A) (s := s) i t1 i t2
      rw [beq_self_eq_true] at this
      exact this
    . obtain ⟨t1, rfl⟩ := rx
      obtain ⟨t2, rfl⟩ := ry
      have := SeqAt.EqAt.str_str (A := A) (s := s) z t1 z t2
      rw [beq_self_eq_true] at this
      exact this
    . cases (show vx = Value.ref a from rx)
      cases (show vy = Value.ref a from ry)
      exact SeqAt.EqAt.same _
  induction n with
  | zero =>
    intro A x y vx vy hu I h rx ry
    obtain ⟨rfl, hs⟩ := h
    exact z4i hs rx ry
  | succ n ih =>
    intro A x y vx vy hu I h rx ry
    rcases h with ⟨rfl, hs⟩ | ⟨a, b, xs, ys, rfl, rfl, e3, e5, e6⟩
    . exact z4i hs rx ry
    . cases (show vx = Value.ref a from rx)
      cases (show vy = Value.ref b from ry)
      by_cases e : a = b
      . subst e
        exact SeqAt.EqAt.same _
      . refine SeqAt.EqAt.of_refs e ?_
        have hx : ∀ (j : Nat) x y vx vy, xs[j]? = some x -> ys[j]? = some y -> RelV x vx -> RelV y vy -> SeqAt.EqAt A.in1 s vx vy true := fun j x y vx vy h1 h2 r1 r2 => ih (A := A.in1) (show A.units + 1 + n < cLine by omega) I (e6 j x y h1 h2) r1 r2
        rcases e3 with ⟨p, q⟩ | ⟨p, q⟩
        . exact (z1d (by omega) I p q e5 hx).1
        . exact (z2H (by omega) I p q e5 hx).1
end
def EqT (n : Nat) (H : Hp) (x y : V) : Prop := ∃ a b xs ys, x = .ref a /\ y = .ref b /\ ((H a = some (.lst xs) /\ H b = some (.lst ys)) \/ (H a = some (.tup xs) /\ H b = some (.tup ys))) /\ xs.length = ys.length /\ ∀ (i : Nat) u v, xs[i]? = some u -> ys[i]? = some v -> Eqv n H u v
theorem EqT.eqv {n : Nat} {H : Hp} {x y : V} (h : EqT n H x y) : Eqv (n + 1) H x y := .inr h
theorem EqT.mono {n : Nat} {H H' : Hp} {x y : V} (s : Same H H') (h : EqT n H x y) : EqT n H' x y := by
  obtain ⟨a, b, xs, ys, e1, e2, e3, e5, e6⟩ := h
  refine ⟨a, b, xs, ys, e1, e2, ?_, e5, fun i u v h1 h2 => (e6 i u v h1 h2).mono s⟩
  rcases e3 with ⟨p, q⟩ | ⟨p, q⟩
  . exact .inl ⟨s _ _ p, s _ _ q⟩
  . exact .inr ⟨s _ _ p, s _ _ q⟩
theorem EqT.tints {n : Nat} {H : Hp} {a b : Addr} {zs : List Int} (ha : H a = some (.tup (zs.map V.int))) (hb : H b = some (.tup (zs.map V.int))) : EqT n H (.ref a) (.ref b) := ⟨a, b, _, _, rfl, rfl, .inr ⟨ha, hb⟩, rfl, fun i u v h1 h2 => by
  rw [h1] at h2
  cases h2
  obtain ⟨z, rfl⟩ := z16 (List.mem_of_getElem? h1)
  exact Eqv.same (Sc.int z)⟩
theorem EqT.copy {n : Nat} {H : Hp} {a b : Addr} {xs : List V} (ha : H a = some (.lst xs)) (hb : H b = some (.lst xs)) (h : ∀ x ∈ xs, Sc x) : EqT n H (.ref a) (.ref b) := ⟨a, b, _, _, rfl, rfl, .inl ⟨ha, hb⟩, rfl, fun i u v h1 h2 => by
  rw [h1] at h2
  cases h2
  exact Eqv.same (h u (List.mem_of_getElem? h1))⟩
def z7s (n : Nat) : R2 := fun x y H Q => EqT n H x y /\ Q (.bl true) H
def z7t (n : Nat) : R2 := fun x y H Q => EqT n H x y /\ Q (.bl false) H
section
variable {X : Cx} {n : Nat}
theorem z41 (hu : X.A.units + 9 < cLine) (hn : n <= 8 := by decide) : OpR X (compareOp .Eq) (z7s n) := by
  intro pins s σ H x y v u Q I rx ry h0
  obtain ⟨⟨a, b, xs, ys, rfl, rfl, e3, e5, e6⟩, q⟩ := h0
  cases rx
  cases ry
  have hx : ∀ (j : Nat) x y vx vy, xs[j]? = some x -> ys[j]? = some y -> RelV x vx -> RelV y vy -> SeqAt.EqAt X.A.in1 s vx vy true := fun j x y vx vy h1 h2 r1 r2 => z40 (A := X.A.in1) (show X.A.units + 1 + n < cLine by omega) I (e6 j x y h1 h2) r1 r2
  rcases e3 with ⟨p, p2⟩ | ⟨p, p2⟩
  . exact (z1d (by omega) I p p2 e5 hx).1 X.prog X.w X.xe _ ⟨.bl _, H, I, rfl, q⟩
  . exact (z2H (by omega) I p p2 e5 hx).1 X.prog X.w X.xe _ ⟨.bl _, H, I, rfl, q⟩
theorem z53 (hu : X.A.units + 9 < cLine) (hn : n <= 8 := by decide) : OpR X (compareOp .NotEq) (z7t n) := by
  intro pins s σ H x y v u Q I rx ry h0
  obtain ⟨⟨a, b, xs, ys, rfl, rfl, e3, e5, e6⟩, q⟩ := h0
  cases rx
  cases ry
  have hx : ∀ (j : Nat) x y vx vy, xs[j]? = some x -> ys[j]? = some y -> RelV x vx -> RelV y vy -> SeqAt.EqAt X.A.in1 s vx vy true := fun j x y vx vy h1 h2 r1 r2 => z40 (A := X.A.in1) (show X.A.units + 1 + n < cLine by omega) I (e6 j x y h1 h2) r1 r2
  rcases e3 with ⟨p, p2⟩ | ⟨p, p2⟩
  . exact (z1d (by omega) I p p2 e5 hx).2 X.prog X.w X.xe _ ⟨.bl _, H, I, rfl, q⟩
  . exact (z2H (by omega) I p p2 e5 hx).2 X.prog X.w X.xe _ ⟨.bl _, H, I, rfl, q⟩
end
end L2
namespace L2
open G
def z54 (w h : Nat) (b : Nat -> Nat -> Bool) : Option (Nat × Nat) :=
  match (List.range h).find? (fun j => (List.range w).any fun i => b i j) with
  | none => none
  | some j => ((List.range w).find? fun i => b i j).map fun i => (i, j)
structure Plc where
  w : Nat
  h : Nat
  rows : List (List (Option Int))
  x : Int
  y : Int
def z65 (A B : Plc) (i j : Nat) : Bool := (z0w A.rows i j).isSome && (look B.w B.h B.rows (A.x + i - B.x) (A.y + j - B.y)).isSome
def z7u (A B : Plc) : Option (Int × Int) := (z54 A.w A.h (z65 A B)).map fun p => (A.x + (p.1 : Int), A.y + (p.2 : Int))
def z7v (us cs : List (Option Int)) : List (Option Int) := List.zipWith (fun a c => if a.isSome && c.isSome then some 0 else none) us cs
end L2
namespace L2
open PySem PySem.Spec PyProof.Rows G
def z7w : Sp := fun vs H Q _ => ∃ r : List (Option Int), vs = [.int (z1b r)] /\ z1b r ≠ 0 /\ Q (.int (loI r)) H
def PlAt (H : Hp) (t : Addr) (A : Plc) : Prop := ∃ p, H t = some (.tup [.ref p, .int A.x, .int A.y]) /\ PicAt H p A.w A.rows
theorem PlAt.mono {H H' : Hp} {t : Addr} {A : Plc} (s : Same H H') (h : PlAt H t A) : PlAt H' t A := by
  obtain ⟨p, h1, h2⟩ := h
  exact ⟨p, s _ _ h1, h2.mono s⟩
def LPlAt (H : Hp) (t : Addr) (A : Plc) : Prop := ∃ l ps, H t = some (.tup [.ref l, .int A.x, .int A.y]) /\ RowsAt H l ps A.rows
theorem LPlAt.mono {H H' : Hp} {t : Addr} {A : Plc} (s : Same H H') (h : LPlAt H t A) : LPlAt H' t A := by
  obtain ⟨l, ps, h1, h2⟩ := h
  exact ⟨l, ps, s _ _ h1, h2.mono s⟩
def z5O (A B : Plc) : Option (List Int) := (z7u A B).map fun p => [p.1, p.2]
abbrev z2u (A : Plc) : Prop := Rect A.w A.h A.rows
def z66 : Sp := fun vs H Q _ => ∃ (s t : Addr) (A B : Plc), vs = [.ref s, .ref t] /\ PlAt H s A /\ PlAt H t B /\ z2u A /\ z2u B /\ ∀ v H', Same H H' -> BoxV H' v (z5O A B) -> Q v H'
def z55 : Sp := fun vs H Q _ => ∃ (l s m t : Addr) (ps qs : List Addr) (A B : Plc), vs = [.ref l, .ref s, .ref m, .ref t] /\ RowsAt H l ps A.rows /\ H s = some (.tup [.int A.x, .int A.y]) /\ RowsAt H m qs B.rows /\ H t = some (.tup [.int B.x, .int B.y]) /\ z2u A /\ z2u B /\ ∀ v H', Same H H' -> BoxV H' v (z5O A B) -> Q v H'
def z5P : Sp := fun vs H Q _ => ∃ (s t : Addr) (A B : Plc), vs = [.ref s, .ref t] /\ LPlAt H s A /\ LPlAt H t B /\ z2u A /\ z2u B /\ ∀ v H', Same H H' -> BoxV H' v (z5O A B) -> Q v H'
def z67 (n : Nat) : Sp := fun vs H Q _ => ∃ (u v : V) (o : Option (List Int)), vs = [u, v] /\ BoxV H u o /\ BoxV H v o /\ (∀ zs, o = some zs -> zs.length = n) /\ ∀ H', Same H H' -> Q (.bl true) H'
def z5Q (K : PySem.W.Frag) : Sp := fun vs H Q _ => ∃ (a : Addr) (ns : List Int) (k s : Int), vs = [.ref a, .int k, .int s] /\ SqL K H a (ns.map V.int) /\ 0 <= k /\ k < 1000 /\ 0 <= s /\ s < 1000 /\ ∀ l ps rows w h H', Same H H' -> RowsAt H' l ps rows -> Rect w h rows -> Q (.ref l) H'
def z6w (K : PySem.W.Frag) : Sp := fun vs H Q _ => ∃ (a : Addr) (ns : List Int) (k : Int), vs = [.ref a, .int k] /\ SqL K H a (ns.map V.int) /\ 0 <= k /\ k < 1000 /\ ∀ z, Q (.int z) H
def z5R (K : PySem.W.Frag) : Sp := fun vs H Q _ => ∃ (a : Addr) (ns : List Int), vs = [.ref a] /\ SqL K H a (ns.map V.int) /\ ∀ (u s t : Addr) (x y x2 y2 : Int) H', Same H H' -> H' u = some (.tup [.ref s, .ref t]) -> H' s = some (.tup [.int x, .int y]) -> H' t = some (.tup [.int x2, .int y2]) -> Q (.ref u) H'
end L2
namespace L2
open PySem PySem.Spec PyProof.Rows G
structure ListP (R : Hp -> Addr -> Plc -> Prop) (H : Hp) (l : Addr) (ts : List Addr) (As : List Plc) : Prop where
  lst : H l = some (.lst (ts.map V.ref))
  len : ts.length = As.length
  at' : ∀ (i : Nat) t A, ts[i]? = some t -> As[i]? = some A -> R H t A
theorem ListP.get {R : Hp -> Addr -> Plc -> Prop} {H : Hp} {l : Addr} {ts : List Addr} {As : List Plc} (h : ListP R H l ts As) {i : Nat} (hi : i < As.length) : ∃ t, ts[i]? = some t /\ R H t (As[i]'hi) /\ atI (ts.map V.ref) ((i : Nat) : Int) = some (.ref t) := by
  have h1 : i < ts.length := by rw [h.len]; exact hi
  have e := List.getElem?_eq_getElem h1
  exact ⟨_, e, h.at' i _ _ e (List.getElem?_eq_getElem hi), z0j (by rw [List.getElem?_map, e]; rfl)⟩
abbrev PlsAt := ListP PlAt
abbrev LPlsAt := ListP LPlAt
theorem PlsAt.mono {H H' : Hp} {l : Addr} {ts : List Addr} {As : List Plc} (s : Same H H') (h : PlsAt H l ts As) : PlsAt H' l ts As := ⟨s _ _ h.lst, h.len, fun i t L a b => (h.at' i t L a b).mono s⟩
theorem LPlsAt.mono {H H' : Hp} {l : Addr} {ts : List Addr} {As : List Plc} (s : Same H H') (h : LPlsAt H l ts As) : LPlsAt H' l ts As := ⟨s _ _ h.lst, h.len, fun i t L a b => (h.at' i t L a b).mono s⟩
def tz2 (As : List Plc) (i j : Nat) : List (List Int) := match As[i]?, As[j]? with
  | some A, some B => (match z5O A B with | none => [] | some zs => [(i : Int) :: (j : Int) :: zs])
  | _, _ => []
def z56 (As : List Plc) (i : Nat) : Nat -> List (List Int)
  | 0 => []
  | k + 1 => z56 As i k ++ tz2 As i (i + 1 + k)
def z4O (As : List Plc) : Nat -> List (List Int)
  | 0 => []
  | i + 1 => z4O As i ++ z56 As i (As.length - (i + 1))
structure TusB (H0 H : Hp) (l : Addr) (ts : List Addr) (zss : List (List Int)) : Prop where
  same : Same H0 H
  fl : H0 l = none
  lst : H l = some (.lst (ts.map V.ref))
  len : ts.length = zss.length
  at' : ∀ (i : Nat) t zs, ts[i]? = some t -> zss[i]? = some zs -> H t = some (.tup (zs.map V.int))
theorem z57 {H0 H : Hp} {l : Addr} (s : Same H0 H) (h : H l = none) : TusB H0 (upd H l (.lst [])) l [] [] := ⟨s.trans (Same.new h), s.free h, z01, rfl, fun i t zs e => nomatch e⟩
theorem TusB.mono {H0 H H' : Hp} {l : Addr} {ts : List Addr} {zss : List (List Int)} (B : TusB H0 H l ts zss) (s : Same H H') : TusB H0 H' l ts zss := ⟨B.same.trans s, B.fl, s _ _ B.lst, B.len, fun i t zs e1 e2 => s _ _ (B.at' i t zs e1 e2)⟩
theorem TusB.push {H0 H : Hp} {l t : Addr} {ts : List Addr} {zss : List (List Int)} {zs : List Int} (B : TusB H0 H l ts zss) (h : H t = some (.tup (zs.map V.int))) : TusB H0 (upd H l (.lst (ts.map V.ref ++ [.ref t]))) l (ts ++ [t]) (zss ++ [zs]) := by
  have ot : ∀ {b : Addr} {xs : List V}, H b = some (.tup xs) -> (upd H l (.lst (ts.map V.ref ++ [.ref t]))) b = some (.tup xs) := fun {b xs} e => (z04 (z1P e B.lst fun z => nomatch z)).trans e
  refine ⟨B.same.put B.fl, B.fl, by rw [z01, List.map_append]; rfl, by rw [List.length_append, List.length_append, B.len]; rfl, fun i u ws e1 e2 => ?_⟩
  have hl := B.len
  by_cases hi : i < ts.length
  . rw [List.getElem?_append_left hi] at e1
    rw [List.getElem?_append_left (by omega)] at e2
    exact ot (B.at' i u ws e1 e2)
  . rw [List.getElem?_append_right (by omega)] at e1
    rw [List.getElem?_append_right (by omega), <- hl] at e2
    cases hk : i - ts.length with
    | zero =>
      rw [hk] at e1 e2
      cases e1
      cases e2
      exact ot h
    | succ n =>
      rw [hk] at e1
      cases e1
structure TusAt (H : Hp) (l : Addr) (ts : List Addr) (zss : List (List Int)) : Prop where
  lst : H l = some (.lst (ts.map V.ref))
  len : ts.length = zss.length
  at' : ∀ (i : Nat) t zs, ts[i]? = some t -> zss[i]? = some zs -> H t = some (.tup (zs.map V.int))
theorem TusB.at {H0 H : Hp} {l : Addr} {ts : List Addr} {zss : List (List Int)} (B : TusB H0 H l ts zss) : TusAt H l ts zss := ⟨B.lst, B.len, B.at'⟩
theorem TusAt.mono {H H' : Hp} {l : Addr} {ts : List Addr} {zss : List (List Int)} (B : TusAt H l ts zss) (s : Same H H') : TusAt H' l ts zss := ⟨s _ _ B.lst, B.len, fun i t zs e1 e2 => s _ _ (B.at' i t zs e1 e2)⟩
theorem TusAt.eqT {H : Hp} {l m : Addr} {ts us : List Addr} {zss : List (List Int)} (a : TusAt H l ts zss) (b : TusAt H m us zss) : EqT 1 H (.ref l) (.ref m) := by
  have h1 := a.len
  have h2 := b.len
  refine ⟨l, m, _, _, rfl, rfl, .inl ⟨a.lst, b.lst⟩, by rw [List.length_map, List.length_map]; omega, fun i u v e1 e2 => ?_⟩
  have hi : i < ts.length := by
    have := (List.getElem?_eq_some_iff.mp e1).1
    rwa [List.length_map] at this
  rw [List.getElem?_map, List.getElem?_eq_getElem hi] at e1
  rw [List.getElem?_map, List.getElem?_eq_getElem (by omega)] at e2
  cases e1
  cases e2
  have hz : zss[i]? = some (zss[i]'(by omega)) := List.getElem?_eq_getElem (by omega)
  exact (EqT.tints (n := 0) (a.at' i _ _ (List.getElem?_eq_getElem hi) hz) (b.at' i _ _ (List.getElem?_eq_getElem (by omega)) hz)).eqv
def z58 : Sp := fun vs H Q _ => ∃ (l : Addr) (ts : List Addr) (As : List Plc), vs = [.ref l] /\ PlsAt H l ts As /\ (∀ A ∈ As, z2u A) /\ As.length <= 60 /\ ∀ m us H', TusB H H' m us (z4O As As.length) -> Q (.ref m) H'
def z4T : Sp := fun vs H Q _ => ∃ (l : Addr) (ts : List Addr) (As : List Plc), vs = [.ref l] /\ LPlsAt H l ts As /\ (∀ A ∈ As, z2u A) /\ As.length <= 60 /\ ∀ m us H', TusB H H' m us (z4O As As.length) -> Q (.ref m) H'
def z59 (n : Nat) : Sp := fun vs H Q _ => ∃ (l m : Addr) (ts us : List Addr) (zss : List (List Int)), vs = [.ref l, .ref m] /\ TusAt H l ts zss /\ TusAt H m us zss /\ (∀ zs ∈ zss, zs.length = n) /\ zss.length <= 10000 /\ ∀ H', Same H H' -> Q (.bl true) H'
def z6x (K : PySem.W.Frag) : Sp := fun vs H Q _ => ∃ (a : Addr) (ns : List Int), vs = [.ref a] /\ SqL K H a (ns.map V.int) /\ ∀ l ts As H', Same H H' -> H l = none -> LPlsAt H' l ts As -> (∀ A ∈ As, z2u A) -> As.length <= 60 -> Q (.ref l) H'
end L2
namespace L2
open PySem PySem.Spec PyProof.Rows G
theorem RowsAt.past {H : Hp} {l m : Addr} {ps ts : List Addr} {rows : List (List (Option Int))} {w h : Nat} {o : HO} (a : RowsAt H l ps rows) (R : Rect w h rows) (hm : H m = some (.lst (ts.map V.ref))) (ht : ∀ t ∈ ts, ∃ xs, H t = some (.tup xs)) : RowsAt (upd H m o) l ps rows := by
  have hlen := a.len
  have hR := R.len
  have h1 := R.h1
  have w1 := R.w1
  have nl : l ≠ m := fun e => by
    have g := a.lst
    rw [e, hm] at g
    have g1 : ts.map V.ref = ps.map V.ref := HO.lst.inj (Option.some.inj g)
    have g2 : ts = ps := (List.map_inj_right (fun _ _ h => by injection h)).mp g1
    have hp : ps[0]? = some (ps[0]'(by omega)) := List.getElem?_eq_getElem (by omega)
    have r0 := a.row 0 _ _ hp (List.getElem?_eq_getElem (by omega))
    obtain ⟨xs, e2⟩ := ht (ps[0]'(by omega)) (by rw [g2]; exact List.getElem_mem _)
    rw [r0] at e2
    cases e2
  refine ⟨by rw [z04 nl]; exact a.lst, a.len, fun i p r e1 e2 => ?_⟩
  have g := a.row i p r e1 e2
  have np : p ≠ m := fun e => by
    rw [e, hm] at g
    have g1 : ts.map V.ref = r.map z0c := HO.lst.inj (Option.some.inj g)
    have hw := (R.row r (List.mem_of_getElem? e2)).1
    have g2 : (ts.map V.ref)[0]? = (r.map z0c)[0]? := by rw [g1]
    rw [List.getElem?_map, List.getElem?_map, List.getElem?_eq_getElem (show 0 < r.length by omega)] at g2
    cases hq : ts[0]? with
    | none => rw [hq] at g2; cases g2
    | some q =>
      rw [hq] at g2
      have e3 := Option.some.inj g2
      cases hcc : r[0]'(show 0 < r.length by omega) with
      | none => rw [hcc] at e3; cases e3
      | some z => rw [hcc] at e3; cases e3
  rw [z04 np]
  exact g
theorem LPlsAt.push {H : Hp} {m t : Addr} {ts : List Addr} {As : List Plc} {A : Plc} (h : LPlsAt H m ts As) (ok : ∀ A ∈ As, z2u A) (hA : z2u A) (ht : LPlAt H t A) : LPlsAt (upd H m (.lst (ts.map V.ref ++ [.ref t]))) m (ts ++ [t]) (As ++ [A]) := by
  have hl := h.len
  have tu : ∀ u ∈ ts, ∃ xs, H u = some (.tup xs) := fun u hu => by
    obtain ⟨i, hi, e⟩ := List.mem_iff_getElem.mp hu
    obtain ⟨_, _, g, _⟩ := h.at' i u (As[i]'(by omega)) (by rw [List.getElem?_eq_getElem hi, e]) (List.getElem?_eq_getElem _)
    exact ⟨_, g⟩
  have keep : ∀ {u : Addr} {B : Plc}, z2u B -> LPlAt H u B -> LPlAt (upd H m (.lst (ts.map V.ref ++ [.ref t]))) u B := fun {u B} hB hu => by
    obtain ⟨l, ps, g1, g2⟩ := hu
    exact ⟨l, ps, (z04 (z1P g1 h.lst fun z => nomatch z)).trans g1, g2.past hB h.lst tu⟩
  refine ⟨by rw [z01, List.map_append]; rfl, by rw [List.length_append, List.length_append, hl]; rfl, fun i u B e1 e2 => ?_⟩
  by_cases hi : i < ts.length
  . rw [List.getElem?_append_left hi] at e1
    rw [List.getElem?_append_left (by omega)] at e2
    exact keep (ok _ (List.mem_of_getElem? e2)) (h.at' i u B e1 e2)
  . rw [List.getElem?_append_right (by omega)] at e1
    rw [List.getElem?_append_right (by omega), <- hl] at e2
    cases hk : i - ts.length with
    | zero =>
      rw [hk] at e1 e2
      cases e1
      cases e2
      exact keep hA ht
    | succ n =>
      rw [hk] at e1
      cases e1
def z8Z (K : PySem.W.Frag) : R2 := fun x y H Q => ∃ (a b pa pb qa qb : Addr) (w h w' h' : Int) (ns ms ns' ms' : List Int), x = .ref a /\ y = .ref b /\ SqT K H a [.int w, .int h, .ref pa, .ref pb] /\ SqT K H b [.int w', .int h', .ref qa, .ref qb] /\
  SqT K H pa (ns.map V.int) /\ SqT K H pb (ms.map V.int) /\ SqT K H qa (ns'.map V.int) /\ SqT K H qb (ms'.map V.int) /\ Q (.bl (!((w == w') && ((h == h') && (decide (ns = ns') && decide (ms = ms')))))) H
section
variable {X : Cx}
end
section
variable {X : Cx} {pins : List (Addr × Obj)} {σ : St} {H : Hp} {s : Shared}
end
structure Fly (P : Program) (w : World) (st : List Env) (H H' : Hp) (B : Heap) (a C t : Addr) (h h' : Heap) : Prop where
  un : Un (frs st) [] H H' h h'
  keep : ∀ b o, h.get? b = some o -> H b = none -> b ∉ frs st -> B.get? b = some o
  thr : ∀ b o, h.get? b = some o -> b ∉ frs st -> ∃ o', B.get? b = some o'
  hok : HOk P w H' B
  fl : Heap.FlyingW B st a (.ref C) (.ref t) h'
def CX1 (P : Program) (w : World) : CXT := fun st H s E e s' => ∃ (a t C : Addr) (B : Heap) (H' : Hp), e = .ref a /\ s'.os = s.os /\ AllBare s'.gens /\ Fly P w st H H' B a C t s.heap s'.heap /\ E (.ref C) none H'
section
variable {X : Cx} {pins : List (Addr × Obj)} {σ : St} {H H' : Hp} {s : Shared}
theorem nin {b : Addr} : b ∉ ([] : List Addr) := fun h => nomatch h
theorem z17 {env : Env} {outer : List Env} {L : Addr} (hf : env.frame = some L) : frs (env :: outer) = L :: frs outer := by
  unfold frs
  rw [List.filterMap_cons, hf]
theorem Fly.leave {B : Heap} {a C t : Addr} {h1 h' : Heap} (I : Inv X pins σ H s) (hst : X.stack = X.env :: X.outer) (hf : X.env.frame = some X.env.locals) (hex : X.ex = []) (F : Fly X.prog X.w X.stack H H' B a C t s.heap h1)
    (fl : Heap.FlyingW B X.outer a (.ref C) (.ref t) h') (sm : h1.UpToSlots h') : Fly X.prog X.w X.outer X.H₀ H' B a C t X.s₀.heap h' := by
  have hS : frs X.stack = X.env.locals :: frs X.outer := by rw [hst]; exact z17 hf
  have hx : ∀ b, b ∉ X.ex := fun b => by rw [hex]; exact nin
  have ne : ∀ b o, X.s₀.heap.get? b = some o -> b ≠ X.env.locals := fun b o e => Nat.ne_of_lt (Nat.lt_of_lt_of_le (Heap.lt_size e) I.ok.above)
  have out : ∀ b o, X.s₀.heap.get? b = some o -> b ∉ frs X.outer -> b ∉ frs X.stack := fun b o e n hb => by
    rw [hS] at hb
    rcases List.mem_cons.mp hb with z | z
    . exact ne b o e z
    . exact n z
  have inn : ∀ b, b ∈ frs X.outer -> b ∈ frs X.stack := fun b hb => by rw [hS]; exact List.mem_cons_of_mem _ hb
  have kB : ∀ b o, X.s₀.heap.get? b = some o -> X.H₀ b = none -> b ∉ frs X.outer -> B.get? b = some o := fun b o e n nb =>
    F.keep b o (I.base.keep b o e n nb (hx b)) (I.base.free b o e n (hx b)) (out b o e nb)
  have tB : ∀ b o, X.s₀.heap.get? b = some o -> b ∉ frs X.outer -> ∃ o', B.get? b = some o' := fun b o e nb => by
    obtain ⟨o', e'⟩ := I.base.there b o e (hx b)
    exact F.thr b o' e' (out b o e nb)
  have sl : ∀ b o, X.s₀.heap.get? b = some o -> X.H₀ b = none -> b ∈ frs X.outer -> ∃ sl, h'.get? b = some { o with slots := sl } := fun b o e n hb => by
    obtain ⟨s1, e1⟩ := I.base.slot b o e n hb (hx b)
    obtain ⟨s2, e2⟩ := F.un.slot b _ e1 (I.base.free b o e n (hx b)) (inn b hb) nin
    obtain ⟨_, o', ho', hd⟩ := I.ok.funs.mem hb
    rw [e] at ho'
    cases ho'
    obtain ⟨s3, e3⟩ := sm b _ e2 hd
    exact ⟨s3, e3⟩
  refine ⟨⟨fun b o e n nb _ => fl.1 b o (kB b o e n nb), fun b o e n hb _ => sl b o e n hb, fun b o e n _ => ?_, fun b o e _ => ?_, fun b xs e => F.un.tups b xs (I.base.tups b xs e), fun b o u e => F.un.frzs b o u (I.base.frzs b o u e), fun b ps e => ?_⟩, kB, tB, F.hok, fl⟩
  . obtain ⟨s1, e1⟩ := I.base.any e n (hx b)
    exact F.un.free b _ e1 (I.base.free b o e n (hx b)) nin
  . by_cases hb : b ∈ frs X.outer
    . obtain ⟨s1, e1⟩ := sl b o e (I.ok.frf b hb) hb
      exact ⟨_, e1⟩
    . obtain ⟨o', e'⟩ := tB b o e hb
      exact ⟨o', fl.1 b o' e'⟩
  . obtain ⟨m1, e1⟩ := I.base.tbls b ps e
    obtain ⟨m2, e2⟩ := F.un.tbls b _ e1
    exact ⟨m1 ++ m2, by rw [e2, Array.append_assoc]⟩
theorem Fly.first {e C t : Addr} {vs : List Value} {h1 h' : Heap} (I : Inv X pins σ H s) (hst : X.stack = X.env :: X.outer) (hf : X.env.frame = some X.env.locals) (hex : X.ex = []) (hx : Heap.MadeExcOf s.heap h1 e (.ref C) vs)
    (fl : Heap.FlyingW (PySem.W.hideAll s.heap (frs X.stack)) X.outer e (.ref C) (.ref t) h') (sm : h1.UpToSlots h') : Fly X.prog X.w X.outer X.H₀ H (PySem.W.hideAll s.heap (frs X.stack)) e C t X.s₀.heap h' := by
  have hS : frs X.stack = X.env.locals :: frs X.outer := by rw [hst]; exact z17 hf
  have hxx : ∀ b, b ∉ X.ex := fun b => by rw [hex]; exact nin
  have ne : ∀ b o, X.s₀.heap.get? b = some o -> b ≠ X.env.locals := fun b o e => Nat.ne_of_lt (Nat.lt_of_lt_of_le (Heap.lt_size e) I.ok.above)
  have out : ∀ b o, X.s₀.heap.get? b = some o -> b ∉ frs X.outer -> b ∉ frs X.stack := fun b o e n hb => by
    rw [hS] at hb
    rcases List.mem_cons.mp hb with z | z
    . exact ne b o e z
    . exact n z
  have kB : ∀ b o, X.s₀.heap.get? b = some o -> X.H₀ b = none -> b ∉ frs X.outer -> (PySem.W.hideAll s.heap (frs X.stack)).get? b = some o := fun b o e n nb => PySem.W.hideAll_get _ (I.base.keep b o e n nb (hxx b)) (out b o e nb)
  have tB : ∀ b o, X.s₀.heap.get? b = some o -> b ∉ frs X.outer -> ∃ o', (PySem.W.hideAll s.heap (frs X.stack)).get? b = some o' := fun b o e nb => by
    obtain ⟨o', e'⟩ := I.base.there b o e (hxx b)
    exact ⟨o', PySem.W.hideAll_get _ e' (out b o e nb)⟩
  have sl : ∀ b o, X.s₀.heap.get? b = some o -> X.H₀ b = none -> b ∈ frs X.outer -> ∃ sl, h'.get? b = some { o with slots := sl } := fun b o e n hb => by
    obtain ⟨s1, e1⟩ := I.base.slot b o e n hb (hxx b)
    obtain ⟨_, o', ho', hd⟩ := I.ok.funs.mem hb
    rw [e] at ho'
    cases ho'
    obtain ⟨s3, e3⟩ := sm b _ (hx.keeps b _ e1) hd
    exact ⟨s3, e3⟩
  refine ⟨⟨fun b o e n nb _ => fl.1 b o (kB b o e n nb), fun b o e n hb _ => sl b o e n hb, fun b o e n _ => I.base.free b o e n (hxx b), fun b o e _ => ?_, fun b xs e => I.base.tups b xs e, fun b o u e => I.base.frzs b o u e, fun b ps e => I.base.tbls b ps e⟩, kB, tB, fun b u q => ?_, fl⟩
  . by_cases hb : b ∈ frs X.outer
    . obtain ⟨s1, e1⟩ := sl b o e (I.ok.frf b hb) hb
      exact ⟨_, e1⟩
    . obtain ⟨o', e'⟩ := tB b o e hb
      exact ⟨o', fl.1 b o' e'⟩
  . refine (I.hok b u q).stay (fun c v hc e => PySem.W.hideAll_get _ e fun hm => ?_) (fun _ z => z) fun _ _ z => z
    have n := I.stkFree c hm
    rcases hc with z | z
    . rw [z, q] at n
      cases n
    . rw [z] at n
      cases n
end
section
variable {P : Program} {w : World} {K : PySem.W.Frag} {mg : Str -> Option Value} {base : Heap} {N : List Str} {qual : Str} {scope : Scope} {f : Addr} {cd : Value} {A : Around} {outer : List Env} {s : Shared} {H : Hp} {E : XK}
end
def z6y (X : Cx) (E : XK) : Prop := ∀ (pins : List (Addr × Obj)) (σ : St) (H : Hp) (s : Shared) (h' : Heap) (e C : Addr) (vs : List Value), Inv X pins σ H s -> Heap.MadeExcOf s.heap h' e (.ref C) vs -> E (.ref C) none H -> X.xe (.ref e) { s with heap := h' }
abbrev z2k : List Value := [.type "ValueError", .type "Exception", .type "BaseException", .type "object"]
def XCls (K : PySem.W.Frag) (C : Addr) : Prop := PySem.W.excIn K C z2k "ValueError.__new__" = true
theorem XCls.obj {K : PySem.W.Frag} {C : Addr} {h : Heap} (X : K.In h) (q : XCls K C) : ∃ bm N nm qn bs hdct sn sub ab col dd k0 k1 k2 k3 k5 mN, h.get? C = some (excClassObj nm qn C N bs bm hdct sn sub ab col dd k0 k1 k2 k3 k5 "ValueError.__new__") /\ h.Ns N mN /\ mN "__init__" = none /\ OwnTail h z2k bm /\
    ∃ c0 d0 cd0 sl0, K.lookup C = some ⟨c0, d0, .cls cd0, sl0⟩ /\ cd0.mro = .ref C :: bm := by
  unfold XCls PySem.W.excIn at q
  split at q
  . rename_i dd cd sl ho
    split at q
    . rename_i C' bm k0 k1 k2 k3 n k5 hm hs
      simp only [Bool.and_eq_true, beq_iff_eq, Bool.not_eq_true'] at q
      obtain ⟨⟨⟨⟨⟨rfl, rfl⟩, hdel⟩, ht⟩, hok⟩, hni⟩ := q
      obtain ⟨nm, bs, mro, ns, qn, hd, sn, sub, ab, col, del⟩ := cd
      dsimp only at hm hdel hok hni
      subst hm hdel
      have hsl : sl = #[k0, k1, k2, k3, some (.builtin "ValueError.__new__"), k5] := by
        obtain ⟨l⟩ := sl
        simp only at hs
        rw [hs]
      subst hsl
      exact ⟨bm, ns, nm, qn, bs, hd, sn, sub, ab, col, dd, k0, k1, k2, k3, k5, _, X _ _ ho, .of_isNs (PySem.W.isNs_of_in X hok), PySem.W.nsMap_none_of_in X hok hni, PySem.W.tail_of_in X ht, _, _, _, _, ho, rfl⟩
    . cases q
  . cases q
section
variable {X : Cx} {E : XK} {x : Str} {np cpos pos : Pos} {e : Expr} {es : List Expr} {t : TA} {C : Addr}
def z6z (C : Addr) (E : XK) (t : TA) : TS := fun _ σ H => t σ H fun vs H1 => vs.length <= 1000 /\ E (.ref C) none H1
end
structure XC (K : PySem.W.Frag) (C : Addr) : Prop where
  cls : XCls K C
  ga : PySem.W.findIn K (.ref C) "__getattribute__" = some (some (.builtin "BaseException.__getattribute__"))
  gn : PySem.W.findIn K (.ref C) "__getattr__" = some none
  kc : PySem.W.findIn K (.ref C) "__class__" = some (some (.builtin "object.__class__"))
  kg : PySem.W.specialIn K (.builtin "object.__class__") "__get__" = some (some (.builtin "getset_descriptor.__get__"))
  kt : PySem.W.takesIn K (.builtin "object.__class__") = some true
  km : PySem.W.mroIn K C (.type "object") = some true
section
variable {prog : Program} {w : World} {A : Around} {E : Value -> Shared -> Prop} {s : Shared} {K : PySem.W.Frag} {x C : Addr} {ox : Obj}
def ExcAt (x C : Addr) (h : Heap) : Prop := ∃ o, h.get? x = some o /\ o.cls = .ref C
theorem ExcAt.ty {M : Model} {h : Heap} (I : ExcAt x C h) : PySem.W.Looks M h (typeOf (.ref x)) (.ref C) := by
  obtain ⟨o, h1, h2⟩ := I
  have L : PySem.W.Looks M h (typeOf (.ref x)) o.cls := (PySem.W.Looks.ld h1).andThen .now
  rw [h2] at L
  exact L
end
section
variable {M : Model} {A : Around} {E : Value -> Shared -> Prop}
variable {nm q : Str} {C N : Addr} {bs bm : List Value} {hdct : Bool} {sn : List Str} {sub : List Value} {ab : Bool} {col : Option Bool} {dd : Option Addr} {k0 k1 k2 k3 k5 : Option Value} {newId : String}
variable {nm' q' : Str} {G N' : Addr} {bs' bm' : List Value} {hdct' : Bool} {sn' : List Str} {sub' : List Value} {ab' : Bool} {col' : Option Bool} {dd' : Option Addr} {k0' k1' k2' k3' k5' : Option Value} {newId' : String}
theorem z1I {h : Heap} {g : Array GenState} {d : Drawn} {t : Nat} {os : OsState} {e : Addr} {oe : Obj} {Q : Bool -> Shared -> Prop}
    (hC : h.get? C = some (excClassObj nm q C N bs bm hdct sn sub ab col dd k0 k1 k2 k3 k5 newId)) (hG : h.get? G = some (excClassObj nm' q' G N' bs' bm' hdct' sn' sub' ab' col' dd' k0' k1' k2' k3' k5' newId'))
    (he : h.get? e = some oe) (hcls : oe.cls = .ref C) (hbase : bm'.contains (.type "BaseException") = true) (hsub : (Value.ref C :: bm).contains (.ref G) = true)
    (hq : Q true ⟨h, g, d, t, os⟩) : wpAny M A (excMatches (.ref e) (.ref G)) Q E ⟨h, g, d, t, os⟩ := by
  have hcB : (Value.ref G :: bm').contains (.type "BaseException") = true := by rw [List.contains_cons, hbase, Bool.or_true]
  have f := tc_notTuple
  unfold excMatches
  repeat (first | (with_reducible refine wpAny_loadPart_at he ?_; rw [hcls]) | with_reducible refine wpAny_loadPart_at hG ?_ | (with_reducible refine wpAny_isSubtype_exc hG ?_; rw [hcB]) | (with_reducible refine wpAny_isSubtype_exc hC ?_; rw [hsub]) | wp_step)
  exact hq
end
section
variable {X : Cx} {pins : List (Addr × Obj)} {σ : St} {H : Hp} {s : Shared}
theorem z13 {M : Model} {A : Around} {E : Value -> Shared -> Prop} {i : Nat} {n : Str} {pos : Pos} {Q : Unit -> Shared -> Prop} (I : Inv X pins σ H s) (hN : X.N.Nodup) (hi : X.N[i]? = some n) (hk : X.env.scope.names.lookup n = some .local)
    (h : ∀ s', Inv X pins (σ.set i none) H s' -> Q () s') : wpAny M A (do bindName X.env n .none; unbindBehindTheSuite X.env n pos) Q E s := by
  obtain ⟨m, hn, hl⟩ := id I.loc
  have hcls : (X.env.scope.kind == .class || (X.env.scope.kind == .module && X.env.locals != X.env.globals)) = false := by rw [I.ok.kind]; rfl
  refine wpAny_nameGoes_keeps hk hn hcls fun h' v hn' hs => ?_
  obtain ⟨oL, _, _, hoL, _⟩ := id hn
  refine h _ ⟨I.ok, I.os, I.bare, ⟨fun b o e n' hb hx => ?_, fun b o e n' hb hx => ?_, I.base.free, fun b o e hx => ?_, I.base.tups, I.base.frzs, I.base.tbls⟩, ⟨_, hn', fun j y v' e1 e2 e3 => ?_⟩, fun y c e => ?_, I.free, I.freeC, fun p hp => ?_, fun b ob e => ?_, by simpa using I.len⟩
  . exact (hs.2 b (Nat.ne_of_lt (Nat.lt_of_lt_of_le (Heap.lt_size e) I.ok.above))).trans (I.base.keep b o e n' hb hx)
  . obtain ⟨sl, e1⟩ := I.base.slot b o e n' hb hx
    exact ⟨sl, (hs.2 b (Nat.ne_of_lt (Nat.lt_of_lt_of_le (Heap.lt_size e) I.ok.above))).trans e1⟩
  . obtain ⟨o', e1⟩ := I.base.there b o e hx
    exact ⟨o', (hs.2 b (Nat.ne_of_lt (Nat.lt_of_lt_of_le (Heap.lt_size e) I.ok.above))).trans e1⟩
  . have hj : j ≠ i := fun z => by
      rw [z] at e2
      have hiσ : i < σ.length := by rw [I.len]; exact (List.getElem?_eq_some_iff.mp hi).1
      rw [List.getElem?_set_self hiσ] at e2
      cases e2
    rw [List.getElem?_set_ne (Ne.symm hj)] at e2
    obtain ⟨u', r', q⟩ := hl j y v' e1 e2 e3
    refine ⟨u', r', ?_⟩
    rcases q with ⟨k, e⟩ | ⟨k, c, e, o, ho, hd⟩
    . refine .inl ⟨k, ?_⟩
      have : y ≠ n := fun e => hj (z1Q hN e1 (e ▸ hi))
      simp [this, e]
    . exact .inr ⟨k, c, e, o, (hs.2 c (I.cne y c e)).trans ho, hd⟩
  . obtain ⟨v', o, ho, hd⟩ := I.cell y c e
    exact ⟨v', o, (hs.2 c (I.cne y c e)).trans ho, hd⟩
  . obtain ⟨e1, n1, ne, nf, d⟩ := I.pin p hp
    exact ⟨(hs.2 p.1 ne).trans e1, n1, ne, nf, d⟩
  . refine (I.hok b ob e).stay (fun c w' hc q => (hs.2 c ?_).trans q) (fun _ q => q) fun _ _ q => q
    rintro rfl
    have hfree := I.free
    rcases hc with z | z
    . rw [<- z, hfree] at e; cases e
    . rw [hfree] at z; cases z
end
theorem Fly.on {P : Program} {w : World} {st : List Env} {H H' : Hp} {B : Heap} {a C t : Addr} {h h1 h2 : Heap} (F : Fly P w st H H' B a C t h h1) (fl : Heap.FlyingW B st a (.ref C) (.ref t) h2) (sm : h1.UpToSlots h2) : Fly P w st H H' B a C t h h2 := by
  have sl : ∀ b o, h.get? b = some o -> H b = none -> b ∈ frs st -> ∃ sl, h2.get? b = some { o with slots := sl } := fun b o e n hb => by
    obtain ⟨s1, e1⟩ := F.un.slot b o e n hb nin
    obtain ⟨_, o', ho', hd⟩ := F.fl.2.2.1.mem hb
    rw [e1] at ho'
    cases ho'
    obtain ⟨s2, e2⟩ := sm b _ e1 hd
    exact ⟨s2, e2⟩
  refine ⟨⟨fun b o e n nb _ => fl.1 b o (F.keep b o e n nb), fun b o e n hb _ => sl b o e n hb, F.un.free, fun b o e _ => ?_, F.un.tups, F.un.frzs, F.un.tbls⟩, F.keep, F.thr, F.hok, fl⟩
  by_cases hb : b ∈ frs st
  . obtain ⟨o', e'⟩ := F.un.there b o e nin
    obtain ⟨_, o2, ho2, hd⟩ := F.fl.2.2.1.mem hb
    obtain ⟨s2, e2⟩ := sm b _ ho2 hd
    exact ⟨_, e2⟩
  . obtain ⟨o', e'⟩ := F.thr b o e hb
    exact ⟨o', fl.1 b o' e'⟩
theorem Fly.free {P : Program} {w : World} {st : List Env} {H H' : Hp} {B : Heap} {a C t : Addr} {h h1 : Heap} (F : Fly P w st H H' B a C t h h1) : H' a = none := by
  cases q : H' a with
  | none => rfl
  | some u =>
    have x := F.hok a u q
    have n : B.get? a = none := F.fl.2.1
    exfalso
    have some_of : ∃ o, B.get? a = some o := by
      clear q
      induction u with
      | lst xs => obtain ⟨_, _, _, _, e⟩ := x; exact ⟨_, e⟩
      | tup xs => obtain ⟨_, _, _, o, e, _⟩ := x; exact ⟨_, e⟩
      | dK kvs => obtain ⟨_, _, _, _, o, _, _, e, _⟩ := x; exact ⟨_, e⟩
      | dT kvs => obtain ⟨_, _, _, _, o, _, _, e, _⟩ := x; exact ⟨_, e⟩
      | set S n => obtain ⟨o, _, _, _, e, _⟩ := x; exact ⟨_, e⟩
      | ins C dx fs => obtain ⟨_, _, _, e, _⟩ := x; exact ⟨_, e⟩
      | own y => exact x
      | xd fs => obtain ⟨_, ⟨_, _, _, e, _⟩, _⟩ := x; exact ⟨_, e⟩
      | rng lo hi => obtain ⟨_, _, _, e⟩ := x; exact ⟨_, e⟩
      | frz ob u ih => obtain ⟨e, _⟩ := x; exact ⟨_, e⟩
      | tbl ps => exact ⟨_, (show B.get? a = some _ from x)⟩
      | met f y => exact ⟨_, (show B.get? a = some _ from x)⟩
      | ext φ => obtain ⟨_, ⟨_, e⟩, _⟩ := x; exact ⟨_, e⟩
    obtain ⟨o, e⟩ := some_of
    rw [n] at e
    cases e
abbrev Xh (X : Cx) (a : Addr) (oe : Obj) : Cx := { X with A := X.A.mark (some (.ref a)), calm := false, pn := X.pn ++ [(a, oe)], xe := fun _ _ => False }
section
variable {X : Cx} {pins : List (Addr × Obj)} {σ : St} {H : Hp} {s : Shared} {a : Addr} {oe : Obj}
theorem Cx.Ok.hand (ok : X.Ok) : (Xh X a oe).Ok :=
  ⟨ok.mod, ok.kind, ok.glob, ok.blt, ok.above, ok.inj, ok.has, ok.cab, (fun z => nomatch z), ok.frames, ok.stk, ok.exf, ok.bs, ok.bsz, ok.noex, ok.exfs, ok.funs, ok.frf⟩
theorem Inv.hand (I : Inv X pins σ H s) (e : s.heap.get? a = some oe) (n : H a = none) (ne : a ≠ X.env.locals) (nf : a ∉ X.fs) (d : ∀ v, oe.data ≠ .cell v) : Inv (Xh X a oe) pins σ H s :=
  ⟨I.ok.hand, I.os, I.bare, I.base, I.loc, I.cell, I.free, I.freeC, fun p hp => by
    rcases List.mem_append.mp hp with hp | hp
    . rcases List.mem_append.mp hp with hp | hp
      . exact I.pin p (List.mem_append_left _ hp)
      . rw [List.mem_singleton.mp hp]
        exact ⟨e, n, ne, nf, d⟩
    . exact I.pin p (List.mem_append_right _ hp), I.hok, I.len⟩
theorem Inv.unhand (ok : X.Ok) (I : Inv (Xh X a oe) pins σ H s) : Inv X pins σ H s :=
  ⟨ok, I.os, I.bare, I.base, I.loc, I.cell, I.free, I.freeC, fun p hp => by
    rcases List.mem_append.mp hp with hp | hp
    . exact I.pin p (List.mem_append_left _ (List.mem_append_left _ hp))
    . exact I.pin p (List.mem_append_right _ hp), I.hok, I.len⟩
def z8a : V -> Option Value
  | .ref a => some (.ref a)
  | .ty n => some (.type n)
  | _ => none
end
def z8b (K : PySem.W.Frag) (G : Addr) (sp : Sp) (dvs : List V) (t : TA) (i : Nat) (th : Addr -> Addr -> TS) : TS := fun D σ H => t σ H fun vs H1 => ∃ E : XK, sp (vs ++ dvs) H1 (fun _ H2 => D.nx σ H2) E /\
  ∀ Cv d H2, E Cv d H2 -> ∃ c, Cv = .ref c /\ XC K c /\ PySem.W.mroIn K c (.ref G) = some true /\ ∀ a, th a c { nx := fun σ' H' => D.nx (σ'.set i none) H', rt := D.rt, bk := fun σ' H' => D.bk (σ'.set i none) H', ct := fun σ' H' => D.ct (σ'.set i none) H' } (σ.set i (some (.ref a))) H2
section
variable {X : Cx} {k : Nat} {fa G : Addr} {fd : FuncData} {ps : List Str} {sp : Sp} {dvs : List V} {ds : List Value} {x gn n : Str} {p cp ep gp hp tp : Pos} {e : Expr} {es : List Expr} {t : TA} {b₀ : Stmt} {suite : List Stmt} {i : Nat} {th : Addr -> Addr -> TS}
theorem z3X {pins : List (Addr × Obj)} {D : Ends} {a : Addr} {oe : Obj} {f : Flow} {s : Shared} {E : Value -> Shared -> Prop} (ok : X.Ok) (hN : X.N.Nodup) (hi : X.N[i]? = some n) (hloc : X.env.scope.names.lookup n = some .local)
    (h : SP (Xh X a oe) pins { nx := fun σ' H' => D.nx (σ'.set i none) H', rt := D.rt, bk := fun σ' H' => D.bk (σ'.set i none) H', ct := fun σ' H' => D.ct (σ'.set i none) H' } f s) :
    wpAny (model X.prog X.w) X.A (do bindName X.env n .none; unbindBehindTheSuite X.env n hp) (fun _ s' => SP X pins D f s') E s := by
  cases f with
  | next => obtain ⟨σ', H', I, q⟩ := h; exact z13 (I.unhand ok) hN hi hloc fun s' I' => ⟨_, H', I', q⟩
  | brk => obtain ⟨σ', H', I, q⟩ := h; exact z13 (I.unhand ok) hN hi hloc fun s' I' => ⟨_, H', I', q⟩
  | cont => obtain ⟨σ', H', I, q⟩ := h; exact z13 (I.unhand ok) hN hi hloc fun s' I' => ⟨_, H', I', q⟩
  | ret u => obtain ⟨v, σ', H', I, r, q⟩ := h; exact z13 (I.unhand ok) hN hi hloc fun s' I' => ⟨v, _, H', I', r, q⟩
theorem z70 {pins : List (Addr × Obj)} {σ : St} {H1 H' : Hp} {s1 s' : Shared} {B : Heap} {a c t' : Addr} {D : Ends} {E : Value -> Shared -> Prop} (I : Inv X pins σ H1 s1) (hst : X.stack = X.env :: X.outer) (hf : X.env.frame = some X.env.locals)
    (hgG : Gl X gn) (hmG : X.mg gn = some (.ref G)) (hG : XC X.K G) (hN : X.N.Nodup) (hi : X.N[i]? = some n) (hloc : X.env.scope.names.lookup n = some .local)
    (hs : ∀ a oe c, oe.cls = .ref c -> XC X.K c -> PSs (Xh X a oe) (b₀ :: suite) (th a c)) (os : s'.os = s1.os) (bare : AllBare s'.gens) (F : Fly X.prog X.w X.stack H1 H' B a c t' s1.heap s'.heap) (Zc : XC X.K c) (ab : PySem.W.mroIn X.K c (.ref G) = some true)
    (q : th a c { nx := fun σ' H' => D.nx (σ'.set i none) H', rt := D.rt, bk := fun σ' H' => D.bk (σ'.set i none) H', ct := fun σ' H' => D.ct (σ'.set i none) H' } (σ.set i (some (.ref a))) H') (hdG : (gn == ("__debug__" : Str)) = false) :
    wpAny (model X.prog X.w) X.A (noteFrame (.ref a) X.env) (fun _ s₂ => wpAny (model X.prog X.w) X.A (setFlight (.ref a) none) (fun _ s₃ =>
      wpAny (model X.prog X.w) X.A (handleBy (.ref a) X.env [.ExceptHandler (some (.Name gn gp)) (some n) (b₀ :: suite) hp]) (SP X pins D) E s₃) E s₂) E s' := by
  have hfr : X.A.frames = some (X.env :: X.outer) := by rw [<- hst]; exact I.ok.frames
  have hfl : Heap.FlyingW B (X.env :: X.outer) a (.ref c) (.ref t') s'.heap := by rw [<- hst]; exact F.fl
  refine wpAny_looks_onW hfr hf hfl fun h₄ held₄ sm₄ => ?_
  refine wpAny_landsW held₄ fun h₅ fl₅ sm₅ => ?_
  have F₅ := F.on (by rw [hst]; exact fl₅) (sm₄.trans sm₅)
  have at5 : ∀ {h : Heap}, Fly X.prog X.w X.stack H1 H' B a c t' s1.heap h -> Inv X pins σ H' { s' with heap := h } := fun {h} Fh => I.call' (s' := { s' with heap := h }) os Fh.un (Fh.hok.kept Fh.fl.1) bare (fun b z => absurd z nin)
  have pinok : ∀ {h : Heap}, Fly X.prog X.w X.stack H1 H' B a c t' s1.heap h -> ∃ oe, h.get? a = some oe /\ oe.cls = .ref c /\ (∀ v, oe.data ≠ .cell v) /\ a ≠ X.env.locals /\ a ∉ X.fs := fun {h} Fh => by
    obtain ⟨_, _, ff, oe, vs, T, oT, ts, he, hcl, hdat, _⟩ := Fh.fl
    have nofr : ∀ b ∈ frs X.stack, b ≠ a := fun b hb z => by
      obtain ⟨_, o, ho, hd⟩ := ff.mem hb
      rw [z, he] at ho
      cases ho
      exact hd vs hdat
    refine ⟨oe, he, hcl.1, (fun v z => by rw [hdat] at z; cases z), fun z => nofr X.env.locals (by rw [hst, z17 hf]; exact List.mem_cons_self) z.symm, fun z => nofr a (by rw [hst, z17 hf]; exact List.mem_cons_of_mem _ z) rfl⟩
  have I₅ := at5 F₅
  obtain ⟨oe₅, e₅, c₅, d₅, l₅, f₅⟩ := pinok F₅
  have J₅ : Inv (Xh X a oe₅) pins σ H' { s' with heap := h₅ } := I₅.hand e₅ F₅.free l₅ f₅ d₅
  refine wpAny_handleBy_cons (codeAny_handlers_test (z2C (X := Xh X a oe₅) J₅ hgG hmG ?_ hdG)) (by intro z; cases z)
  obtain ⟨bm, N, nm, qn, bs, hdct, sn, sub, ab', col, dd, k0, k1, k2, k3, k5, mN, hC, hN', hni, T, c0, d0, cd0, sl0, ho, hmro⟩ := XCls.obj I₅.kIn Zc.cls
  obtain ⟨bm2, N2, nm2, qn2, bs2, hdct2, sn2, sub2, ab2, col2, dd2, j0, j1, j2, j3, j5, mN2, hC2, hN2, hni2, T2, _⟩ := XCls.obj I₅.kIn hG.cls
  have hsub : (Value.ref c :: bm).contains (.ref G) = true := by
    unfold PySem.W.mroIn PySem.W.clsIn at ab
    rw [ho] at ab
    dsimp only [Option.bind] at ab
    rw [hmro, if_neg (by simp)] at ab
    exact Option.some.inj ab
  obtain ⟨sh, sg, sd, stk, sos⟩ := s'
  refine z1I hC hC2 e₅ c₅ (T2.hasType (X := "BaseException") (b := true) (by decide +kernel)) hsub (codeAny_handlers_suite_as ?_)
  refine lands_againW (by rw [hst] at F₅; exact F₅.fl) fun h₆ fl₆ sm₆ => ?_
  have F₆ := F₅.on (by rw [hst]; exact fl₆) sm₆
  have I₆ := at5 F₆
  obtain ⟨oe, e₆, c₆, d₆, l₆, f₆⟩ := pinok F₆
  have J₆ : Inv (Xh X a oe) pins σ H' _ := I₆.hand e₆ F₆.free l₆ f₆ d₆
  refine z1R (X := Xh X a oe) (v := .ref a) J₆ hN hi (.inl hloc) rfl (fun s₇ J₇ => ?_) (.inr hloc)
  refine wpAny_mono (hs a oe c c₆ Zc pins s₇ _ H' _ J₇ q) (fun f s₈ h₈ => ?_) fun _ _ z => z.elim
  exact z3X I.ok hN hi hloc h₈
end
structure Owx (P : Program) (w : World) (K : PySem.W.Frag) (mg : Str -> Option Value) (base : Heap) (x : Str) (ps : List Str) (k : Nat) (sp : Sp) : Prop where
  ex : ∃ (f : Addr) (fd : FuncData), mg x = some (.ref f) /\ PySem.W.keepIn K (.ref f) = true /\ Binds K fd ps [] /\ FnOk P w K mg base (CX1 P w) k f fd ps sp
structure Ec (K : PySem.W.Frag) (mg : Str -> Option Value) (x : Str) (C : Addr) : Prop where
  m : mg x = some (.ref C)
  c : XC K C
section
variable {X : Cx} {k j : Nat} {ps : List Str} {sp : Sp} {x gn n : Str} {G : Addr} {p pos cp ep gp hp tp : Pos} {e : Expr} {es : List Expr} {t : TA} {E : XK} {b₀ : Stmt} {suite : List Stmt} {i : Nat} {th : Addr -> Addr -> TS}
end
section
variable {prog : Program} {w : World} {A : Around} {E : Value -> Shared -> Prop} {h : Heap} {g : Array GenState} {d : Drawn} {t : Nat} {os : OsState}
variable {nm q : Str} {C N : Addr} {bs bm bmB : List Value} {hdct : Bool} {sn : List Str} {sub : List Value} {ab : Bool} {col : Option Bool} {dd : Option Addr} {k0 k1 k2 k3 k5 : Option Value} {B newId initId : String}
abbrev z5A (C t : Addr) : Obj := { cls := .ref C, data := .fields #[.ref t, .none, .none, .none, .bool false, .none] }
end
inductive VeTail : List Value -> Prop
  | base : VeTail z2k
  | step {c : Addr} {r : List Value} : VeTail r -> VeTail (.ref c :: r)
theorem VeTail.passes (self : Value) {l : List Value} (t : VeTail l) : refuseLoop self "__setattr__" l = pure () := by
  induction t with
  | base => exact PySem.F.store_ValueError.passes self
  | step _ ih => rw [refuseLoop_ref]; exact ih
structure XE (K : PySem.W.Frag) (C : Addr) : Prop where
  ex : ∃ (dd : Option Addr) (cd : ClassData) (k0 k1 k2 k3 k5 : Option Value) (bm : List Value), K.lookup C = some ⟨.type "type", dd, .cls cd, #[k0, k1, k2, k3, some (.builtin "ValueError.__new__"), k5]⟩ /\ cd.mro = .ref C :: bm /\ cd.hasDel = false /\ cd.hasDict = true /\
    VeTail bm /\ PySem.W.tailIn K z2k bm = true /\ PySem.W.nsOkIn K cd.ns = true
  ga : PySem.W.findIn K (.ref C) "__getattribute__" = some (some (.builtin "BaseException.__getattribute__"))
  gn : PySem.W.findIn K (.ref C) "__getattr__" = some none
  sa : PySem.W.findIn K (.ref C) "__setattr__" = some (some (.builtin "object.__setattr__"))
  kc : PySem.W.findIn K (.ref C) "__class__" = some (some (.builtin "object.__class__"))
  kg : PySem.W.specialIn K (.builtin "object.__class__") "__get__" = some (some (.builtin "getset_descriptor.__get__"))
  kt : PySem.W.takesIn K (.builtin "object.__class__") = some true
  km : PySem.W.mroIn K C (.type "object") = some true
section
variable {K : PySem.W.Frag} {C : Addr}
theorem XE.obj {h : Heap} (X : K.In h) (Z : XE K C) : ∃ bm N nm qn bs sn sub ab col dd k0 k1 k2 k3 k5 mN, h.get? C = some (excClassObj nm qn C N bs bm true sn sub ab col dd k0 k1 k2 k3 k5 "ValueError.__new__") /\ h.Ns N mN /\ OwnTail h z2k bm /\ VeTail bm /\
    ∃ cd, PySem.W.clsIn K C = some cd /\ cd.mro = .ref C :: bm /\ cd.hasDict = true /\ cd.ns = N /\ ∃ d0 sl0, K.lookup C = some ⟨.type "type", d0, .cls cd, sl0⟩ := by
  obtain ⟨dd, cd, k0, k1, k2, k3, k5, bm, lk, hm, hdel, hdct, vt, ht, hok⟩ := Z.ex
  have hcls : PySem.W.clsIn K C = some cd := by unfold PySem.W.clsIn; rw [lk]
  have lk' := lk
  obtain ⟨nm, bs, mro, ns, qn, hd, sn, sub, ab, col, del⟩ := cd
  dsimp only at hm hdel hok hdct
  subst hm hdel hdct
  exact ⟨bm, ns, nm, qn, bs, sn, sub, ab, col, dd, k0, k1, k2, k3, k5, _, X _ _ lk, (.of_isNs (PySem.W.isNs_of_in X hok)), PySem.W.tail_of_in X ht, vt, _, hcls, rfl, rfl, rfl, _, _, lk'⟩
end
section
variable {prog : Program} {w : World} {A : Around} {E : Value -> Shared -> Prop} {s : Shared} {K : PySem.W.Frag} {x C : Addr}
end
section
variable {prog : Program} {w : World} {A : Around} {E : Value -> Shared -> Prop} {s : Shared} {K : PySem.W.Frag} {x C : Addr}
end
def Vs0 (vs : Array Value) : Prop := (∃ t, vs[0]? = some (.ref t)) /\ vs[1]? = some .none
def ErrO (x C : Addr) (d : Option Addr) (h : Heap) : Prop := ∃ o vs, h.get? x = some o /\ o.cls = .ref C /\ o.data = .fields vs /\ Vs0 vs /\ o.dict = d
def z68 (x C : Addr) (d : Option Addr) (h : Heap) : Prop := ∃ o vs, h.get? x = some o /\ o.cls = .ref C /\ o.data = .fields vs /\ o.dict = d
theorem ErrO.t {x C : Addr} {d : Option Addr} {h : Heap} (I : ErrO x C d h) : z68 x C d h := let ⟨o, vs, a, b, c, _, e⟩ := I; ⟨o, vs, a, b, c, e⟩
theorem Vs0.pos {vs : Array Value} (h : Vs0 vs) : 0 < vs.size := let ⟨⟨_, e⟩, _⟩ := h; (Array.getElem?_eq_some_iff.mp e).1
theorem Vs0.put {vs : Array Value} (h : Vs0 vs) (t : Addr) : Vs0 (vs.setIfInBounds 0 (.ref t)) := ⟨⟨t, by simp [h.pos]⟩, by rw [Array.getElem?_setIfInBounds_ne (by decide)]; exact h.2⟩
section
variable {prog : Program} {w : World} {A : Around} {E : Value -> Shared -> Prop} {s : Shared} {K : PySem.W.Frag} {x C : Addr}
end
section
variable {prog : Program} {w : World} {A : Around} {E : Value -> Shared -> Prop} {s : Shared} {K : PySem.W.Frag} {C : Addr}
abbrev z8c (h : Heap) (C : Addr) (rest : List Value) : Heap := (h.push { cls := .type "tuple", data := .seq rest.toArray }).push (z5A C h.objs.size)
end
def z4U (a : Addr) (fs : List (Str × V)) (h : Heap) : Prop := ∃ mA, h.Ns1 a mA /\ (∀ f, RelO (fs.lookup f) (mA f)) /\ PySem.Within mA (fs.map (·.1))
def HasE (H : Hp) (x C : Addr) (d : Option Addr) : Prop := H x = some (.ext (ErrO x C d)) \/ H x = some (.ext (z68 x C d))
def ErrAt (H : Hp) (x C : Addr) (fs : List (Str × V)) : Prop :=
  (fs = [] /\ HasE H x C none) \/ ∃ dx, dx ≠ x /\ HasE H x C (some dx) /\ H dx = some (.ext (z4U dx fs))
theorem HasE.mono {H H' : Hp} {x C : Addr} {d : Option Addr} (s : Same H H') (h : HasE H x C d) : HasE H' x C d := h.imp (s _ _) (s _ _)
theorem ErrAt.mono {H H' : Hp} {x C : Addr} {fs : List (Str × V)} (s : Same H H') (h : ErrAt H x C fs) : ErrAt H' x C fs := by
  rcases h with ⟨e, h⟩ | ⟨dx, n, h1, h2⟩
  . exact .inl ⟨e, h.mono s⟩
  . exact .inr ⟨dx, n, h1.mono s, s _ _ h2⟩
section
variable {X : Cx} {pins : List (Addr × Obj)} {σ : St} {H : Hp} {s : Shared}
def z7x (K : PySem.W.Frag) (te : TE) (f : Str) : TE := fun σ H Q => te σ H fun v H1 => ∃ x C fs z, v = .ref x /\ ErrAt H1 x C fs /\ XE K C /\ PySem.W.findIn K (.ref C) f = some none /\ fs.lookup f = some z /\ Q z H1
def z7y (K : PySem.W.Frag) (ta tv : TE) (f : Str) : TS := fun D σ H => tv σ H fun y H1 => ta σ H1 fun v H2 => ∃ x C, v = .ref x /\ H2 x = some (.ext (ErrO x C none)) /\ XE K C /\ PySem.W.findIn K (.ref C) f = some none /\
  ∀ d, H2 d = none -> d ≠ x -> D.nx σ (upd (upd H2 x (.ext (ErrO x C (some d)))) d (.ext (z4U d [(f, y)])))
def z7z (K : PySem.W.Frag) (ta tv : TE) (f : Str) : TS := fun D σ H => tv σ H fun y H1 => ta σ H1 fun v H2 => ∃ x C dx fs, v = .ref x /\ dx ≠ x /\ H2 x = some (.ext (ErrO x C (some dx))) /\ H2 dx = some (.ext (z4U dx fs)) /\ fs.length <= 900 /\ XE K C /\ PySem.W.findIn K (.ref C) f = some none /\
  D.nx σ (upd H2 dx (.ext (z4U dx ((f, y) :: fs))))
end
def PF (X : Cx) (e : Expr) (t : St -> Hp -> Prop) : Prop := ∀ (pins : List (Addr × Obj)) (s : Shared) (σ : St) (H : Hp), Inv X pins σ H s -> t σ H ->
  wpAny (model X.prog X.w) X.A (eval e X.env) (fun v s' => ∃ y u, v = .str y u /\ y.length <= 100000 /\ Inv X pins σ H s') X.xe s
def z5B : V -> Prop
  | .non => True
  | .int a => a.natAbs.log2 < 1920
  | _ => False
section
variable {X : Cx}
def PFs (X : Cx) (es : List Expr) (t : St -> Hp -> Prop) : Prop := ∀ (pins : List (Addr × Obj)) (σ : St) (H : Hp), t σ H -> ∀ (s : Shared) (acc : Str) (Q : Str -> Shared -> Prop), Inv X pins σ H s -> acc.length + 100000 * es.length <= sizeLine ->
  (∀ out s', Inv X pins σ H s' -> out.length <= sizeLine -> Q out s') -> Joins (model X.prog X.w) X.A X.xe (evalEach es X.env) acc Q s
def z80 (t : St -> Hp -> Prop) : TE := fun σ H Q => t σ H /\ ∀ z, Q (.str z) H
structure Gi (K : PySem.W.Frag) (G : Addr) : Prop where
  sp : PySem.W.specialIn K (.ref G) "__getattribute__" = some (some (.builtin "type.__getattribute__"))
  rd : PySem.W.readsIn K G (.type "type") = true
  fd : PySem.W.findCls K (.ref G) (.type "type") "__init__" = some (.val (.builtin "ValueError.__init__"))
def z71 (K : PySem.W.Frag) (t : TA) : TE := fun σ H Q => t σ H fun vs H2 => ∃ x C d y, vs = [.ref x, y] /\ H2 x = some (.ext (ErrO x C d)) /\ XE K C /\ Q .non H2
structure Ei (K : PySem.W.Frag) (C fI : Addr) : Prop where
  x : XE K C
  kp : PySem.W.keepIn K (.ref C) = true
  fi : PySem.W.findIn K (.ref C) "__init__" = some (some (.ref fI))
  fn : PySem.W.typeIn K (.ref fI) = some (.type "function")
def z8d (C : Addr) (sp : Sp) (t : TA) : TE := fun σ H Q => t σ H fun vs H1 => vs.length <= 1000 /\ ∀ x, H1 x = none -> sp (.ref x :: vs) (upd H1 x (.ext (ErrO x C none))) (fun v H2 => v = .non /\ Q (.ref x) H2) E0
structure Eo (K : PySem.W.Frag) (C : Addr) : Prop where
  x : XE K C
  kp : PySem.W.keepIn K (.ref C) = true
  fi : PySem.W.findIn K (.ref C) "__init__" = some (some (.builtin "ValueError.__init__"))
def z8e (C : Addr) (t : TA) : TE := fun σ H Q => t σ H fun vs H1 => vs.length <= 1000 /\ ∀ x, H1 x = none -> Q (.ref x) (upd H1 x (.ext (ErrO x C none)))
end
section
variable {X : Cx}
def z8f (K : PySem.W.Frag) : R2 := fun x y H Q => ∃ (a b : Addr) (bs : List Bool), x = .ref a /\ y = .ref b /\ SqL K H a (bs.map V.bl) /\ SqL K H b (bs.map V.bl) /\ Q (.bl false) H
end
def veB : List Value -> Bool
  | .ref _ :: r => veB r
  | [.type a, .type b, .type c, .type d] => a == "ValueError" && b == "Exception" && c == "BaseException" && d == "object"
  | _ => false
def xeB (K : PySem.W.Frag) (C : Addr) : Bool :=
  (match K.lookup C with
  | some ⟨.type "type", _, .cls cd, ⟨[_, _, _, _, some (.builtin n), _]⟩⟩ => (match cd.mro with
    | .ref C' :: bm => decide (C' = C) && (n == "ValueError.__new__" && (cd.hasDel == false && (cd.hasDict && (veB bm && (PySem.W.tailIn K z2k bm && PySem.W.nsOkIn K cd.ns)))))
    | _ => false)
  | _ => false) &&
  (PySem.W.findIn K (.ref C) "__getattribute__" == some (some (.builtin "BaseException.__getattribute__")) && (PySem.W.findIn K (.ref C) "__getattr__" == some none && (PySem.W.findIn K (.ref C) "__setattr__" == some (some (.builtin "object.__setattr__")) &&
  (PySem.W.findIn K (.ref C) "__class__" == some (some (.builtin "object.__class__")) && (PySem.W.specialIn K (.builtin "object.__class__") "__get__" == some (some (.builtin "getset_descriptor.__get__")) && (PySem.W.takesIn K (.builtin "object.__class__") == some true &&
  (PySem.W.mroIn K C (.type "object") == some true && PySem.W.keepIn K (.ref C))))))))
def z72 (K : PySem.W.Frag) (cs : List Addr) (G : Addr) : Bool :=
  (List.range cs.length).all fun i => ((List.range cs.length).all fun j => PySem.W.kitOne K (.ref (cs.getD i 0)) (.ref (cs.getD j 0)) == some (decide (i = j))) &&
    (PySem.W.kitOne K (.ref (cs.getD i 0)) (.ref G) == some true && PySem.W.kitOne K (.ref (cs.getD i 0)) (.type "ValueError") == some true)
structure Kits (K : PySem.W.Frag) (cs : List Addr) (G : Addr) (i : Nat) : Prop where
  one : ∀ j, j < cs.length -> PySem.W.kitOne K (.ref (cs.getD i 0)) (.ref (cs.getD j 0)) = some (decide (i = j))
  g : PySem.W.kitOne K (.ref (cs.getD i 0)) (.ref G) = some true
  v : PySem.W.kitOne K (.ref (cs.getD i 0)) (.type "ValueError") = some true
structure Oe (P : Program) (w : World) (K : PySem.W.Frag) (mg : Str -> Option Value) (base : Heap) (x : Str) (C : Addr) (ps : List Str) (k : Nat) (sp : Sp) : Prop where
  ex : ∃ (fI : Addr) (fd : FuncData), mg x = some (.ref C) /\ Ei K C fI /\ Binds K fd ps [] /\ FnOk P w K mg base CX0 k fI fd ps sp
structure Oo (K : PySem.W.Frag) (mg : Str -> Option Value) (x : Str) (C : Addr) : Prop where
  m : mg x = some (.ref C)
  e : Eo K C
section
variable {X : Cx} {k j : Nat} {ps : List Str} {sp : Sp} {x : Str} {C : Addr} {p pos : Pos} {e : Expr} {es : List Expr} {t : TA}
end
def z8g (C : Addr) (f : Str) : Sp := fun vs H Q _ => ∃ x v, vs = [.ref x, v] /\ H x = some (.ext (ErrO x C none)) /\ z5B v /\ ∀ d, H d = none -> d ≠ x -> Q .non (upd (upd H x (.ext (ErrO x C (some d)))) d (.ext (z4U d [(f, v)])))
def z8h (C : Addr) (f g : Str) : Sp := fun vs H Q _ => ∃ x z v, vs = [.ref x, .str z, v] /\ H x = some (.ext (ErrO x C none)) /\ (reprText z).length <= 100000 /\ z5B v /\
  ∀ d, H d = none -> d ≠ x -> Q .non (upd (upd H x (.ext (ErrO x C (some d)))) d (.ext (z4U d [(g, v), (f, .str z)])))
def fld (n : Int) (t : V) (w : Str) : List (List (Str × V)) := [[("row", t)], [("at", .int n), ("sign", .str w)], [("word", .int n)], [("number", .int n)], [("row", .int n)], [("at", t)], [("part", .int n)], [("owed", .int n)], [], [], [], [], [], [], []]
structure Errs (H : Hp) (l : Addr) (xs cs : List Addr) (fs : List (List (Str × V))) : Prop where
  lst : H l = some (.lst (xs.map V.ref))
  len : xs.length = 15
  one : ∀ i, i < 15 -> ErrAt H (xs.getD i 0) (cs.getD i 0) (fs.getD i [])
theorem Errs.mono {H H' : Hp} {l : Addr} {xs cs : List Addr} {fs : List (List (Str × V))} (s : Same H H') (h : Errs H l xs cs fs) : Errs H' l xs cs fs := ⟨s _ _ h.lst, h.len, fun i hi => (h.one i hi).mono s⟩
theorem Errs.get {H : Hp} {l : Addr} {xs cs : List Addr} {fs : List (List (Str × V))} (h : Errs H l xs cs fs) {i : Nat} (hi : i < 15) : atI (xs.map V.ref) ((i : Nat) : Int) = some (.ref (xs.getD i 0)) := by
  refine z0j ?_
  have : i < xs.length := by have := h.len; omega
  rw [List.getElem?_map, List.getElem?_eq_getElem this, List.getD_eq_getElem?_getD, List.getElem?_eq_getElem this]
  rfl
def ths (i : Nat) : List Bool := (List.range 15).map fun j => decide (i = j)
def z73 (cs : List Addr) : Sp := fun vs H Q _ => ∃ n t w, vs = [.int n, t, .str w] /\ z5B (.int n) /\ z5B t /\ (reprText w).length <= 100000 /\ ∀ l xs H', Same H H' -> Errs H' l xs cs (fld n t w) -> Q (.ref l) H'
def z69 (cs : List Addr) : Sp := fun vs H Q _ => ∃ x i fs, vs = [.ref x] /\ i < 15 /\ ErrAt H x (cs.getD i 0) fs /\ ∀ l H', Same H H' -> H' l = some (.lst ((ths i).map V.bl)) -> Q (.ref l) H'
def z5S (cs : List Addr) : Sp := fun vs H Q _ => ∃ l xs n t w, vs = [.ref l, .int n, t, .str w] /\ Errs H l xs cs (fld n t w) /\ z5B t /\ ∀ H', Same H H' -> Q (.bl true) H'
def DK {α : Type} : Sem α -> Prop
  | .pure _ | .raise _ | .unsupported _ | .finish _ | .register .. | .yield .. | .fork .. | .await .. => True
  | .rule _ k | .at _ k | .point _ k => DK (k ())
  | .load _ _ k => ∀ o, DK (k o)
  | .update _ _ f k => (∀ o : Obj, (f o).dict = o.dict) /\ DK (k ())
  | .loadIfAlive _ k => ∀ o, DK (k o)
  | .alloc _ k => ∀ a, DK (k a)
  | .fresh k => ∀ t, DK (k t)
  | .ask k => ∀ x, DK (k x)
  | .choose _ _ k => ∀ n, DK (k n)
  | .os _ _ k => ∀ r, DK (k r)
  | .call .. | .resume .. => False
  | .handled _ k => ∀ x, DK (k x)
  | .genState _ k => ∀ x, DK (k x)
  | .newGen _ k => ∀ n, DK (k n)
  | .stack k => ∀ l, DK (k l)
  | .thread k => ∀ n, DK (k n)
def RK (h h' : Heap) : Prop := ∀ (b : Addr) (o : Obj), h.objs[b]? = some o -> ∃ o', h'.objs[b]? = some o' /\ o'.dict = o.dict
theorem RK.refl (h : Heap) : RK h h := fun _ o e => ⟨o, e, rfl⟩
theorem RK.trans {a b c : Heap} (x : RK a b) (y : RK b c) : RK a c := fun p o e =>
  let ⟨_, e1, d1⟩ := x p o e; let ⟨o2, e2, d2⟩ := y p _ e1; ⟨o2, e2, d2.trans d1⟩
theorem RK.push (h : Heap) (u : Obj) : RK h (h.push u) := fun b o e => ⟨o, by
  obtain ⟨objs, l⟩ := h
  show (objs.push u)[b]? = some o
  have e' : objs[b]? = some o := e
  have : b < objs.size := (Array.getElem?_eq_some_iff.mp e').1
  rw [Array.getElem?_push_lt this]
  rw [Array.getElem?_eq_getElem this] at e'
  exact e', rfl⟩
theorem RK.update (h : Heap) (a : Addr) (f : Obj -> Obj) (hf : ∀ o : Obj, (f o).dict = o.dict) : RK h (h.update a f) := fun b o e => by
  obtain ⟨objs, l⟩ := h
  have e' : objs[b]? = some o := e
  by_cases z : a = b
  . subst z
    exact ⟨f o, by show (objs.modify a f)[a]? = _; rw [Array.getElem?_modify, if_pos rfl, e']; rfl, hf o⟩
  . exact ⟨o, by show (objs.modify a f)[b]? = _; rw [Array.getElem?_modify, if_neg z]; exact e', rfl⟩
theorem RK.get {h h' : Heap} (r : RK h h') {b : Addr} {o o' : Obj} (e : h.get? b = some o) (e' : h'.get? b = some o') : o'.dict = o.dict := by
  have raw : ∀ {g : Heap} {u : Obj}, g.get? b = some u -> g.objs[b]? = some u := fun {g u} q => by
    unfold Heap.get? at q
    split at q
    . cases q
    . exact q
  obtain ⟨o1, e1, d1⟩ := r b o (raw e)
  rw [raw e'] at e1
  cases e1
  exact d1
def del (H : Hp) (a : Addr) : Hp := fun b => if b = a then none else H b
def CX2 (P : Program) (w : World) : CXT := fun st H s E e s' => ∃ (a t C : Addr) (B : Heap) (H' : Hp) (d : Option Addr), e = .ref a /\ s'.os = s.os /\ AllBare s'.gens /\ s.heap.objs.size <= a /\ Fly P w st H H' B a C t s.heap s'.heap /\ (∃ o, s'.heap.get? a = some o /\ o.dict = d) /\ E (.ref C) d H'
section
variable {X : Cx} {pins : List (Addr × Obj)} {σ : St} {H H' : Hp} {s : Shared}
end
section
variable {P : Program} {w : World} {K : PySem.W.Frag} {mg : Str -> Option Value} {base : Heap} {N : List Str} {qual : Str} {scope : Scope} {f : Addr} {cd : Value} {A : Around} {outer : List Env} {s : Shared} {H : Hp} {E : XK}
def z6A (X : Cx) (E : XK) : Prop := ∀ (pins : List (Addr × Obj)) (σ : St) (H : Hp) (s : Shared) (x C : Addr) (d : Option Addr), Inv X pins σ H s -> H x = some (.ext (ErrO x C d)) -> X.s₀.heap.objs.size <= x -> E (.ref C) d (del H x) -> X.xe (.ref x) s
end
section
variable {X : Cx} {pins : List (Addr × Obj)} {σ : St}
def z6B (C : Addr) (sp : Sp) (t : TA) (E : XK) : TS := fun _ σ H => t σ H fun vs H1 => vs.length <= 1000 /\ ∀ x, H1 x = none -> sp (.ref x :: vs) (upd H1 x (.ext (ErrO x C none))) (fun v H2 => v = .non /\ ∃ d, H2 x = some (.ext (ErrO x C d)) /\ E (.ref C) d (del H2 x)) E0
def z6C (C : Addr) (t : TA) (E : XK) : TS := fun _ σ H => t σ H fun vs H1 => vs.length <= 1000 /\ E (.ref C) none H1
end
abbrev X2h (X : Cx) (a : Addr) : Cx := { X with A := X.A.mark (some (.ref a)), calm := false, xe := fun _ _ => False }
section
variable {X : Cx} {pins : List (Addr × Obj)} {σ : St} {H : Hp} {s : Shared} {a : Addr}
abbrev z6D (D : Ends) (i : Nat) : Ends := { nx := fun σ' H' => D.nx (σ'.set i none) H', rt := D.rt, bk := fun σ' H' => D.bk (σ'.set i none) H', ct := fun σ' H' => D.ct (σ'.set i none) H' }
end
section
variable {X : Cx} {G : Addr} {gn n : Str} {gp hp tp ep : Pos} {b₀ : Stmt} {suite : List Stmt} {i : Nat} {th : TS}
abbrev TEx := St -> Hp -> VK -> XK -> Prop
def PEx (X : Cx) (e : Expr) (t : TEx) : Prop := ∀ (pins : List (Addr × Obj)) (s : Shared) (σ : St) (H : Hp) (Q : VK) (E : XK), Inv X pins σ H s -> t σ H Q E ->
  wpAny (model X.prog X.w) X.A (eval e X.env) (EP X pins σ Q) (fun ev s' => ∃ H1 s1, Inv X pins σ H1 s1 /\ CX2 X.prog X.w X.stack H1 s1 E ev s') s
def z74 (sp : Sp) (dvs : List V) (t : TA) : TEx := fun σ H Q E => t σ H fun vs H1 => sp (vs ++ dvs) H1 Q E
def hE (K : PySem.W.Frag) (G : Addr) (i : Nat) (th : TS) (D : Ends) (σ : St) (E : XK) : Prop := ∀ Cv d H2, E Cv d H2 -> ∃ c, Cv = .ref c /\ XE K c /\ PySem.W.mroIn K c (.ref G) = some true /\ ∀ a, H2 a = none -> th (z6D D i) (σ.set i (some (.ref a))) (upd H2 a (.ext (z68 a c d)))
def z81 (K : PySem.W.Frag) (G : Addr) (t : TEx) (i : Nat) (th : TS) : TS := fun D σ H => ∃ E : XK, t σ H (fun _ H2 => D.nx σ H2) E /\ hE K G i th D σ E
def z82 (K : PySem.W.Frag) (G : Addr) (t : TEx) (j i : Nat) (th : TS) : TS := fun D σ H => ∃ E : XK, t σ H (fun v H2 => D.nx (σ.set j (some v)) H2) E /\ hE K G i th D σ E
structure Gc (K : PySem.W.Frag) (mg : Str -> Option Value) (x : Str) (G : Addr) : Prop where
  m : mg x = some (.ref G)
  e : XE K G
variable {e : Expr} {t : TEx}
end
structure Ow2 (P : Program) (w : World) (K : PySem.W.Frag) (mg : Str -> Option Value) (base : Heap) (x : Str) (ps : List Str) (k : Nat) (sp : Sp) : Prop where
  ex : ∃ (f : Addr) (fd : FuncData), mg x = some (.ref f) /\ PySem.W.keepIn K (.ref f) = true /\ Binds K fd ps [] /\ FnOk P w K mg base (CX2 P w) k f fd ps sp
section
variable {X : Cx} {k j : Nat} {ps : List Str} {sp : Sp} {x : Str} {p pos : Pos} {e : Expr} {es : List Expr} {t : TA} {E : XK}
end
section
variable {X : Cx} {pins : List (Addr × Obj)} {σ : St}
end
structure Om (P : Program) (w : World) (K : PySem.W.Frag) (mg : Str -> Option Value) (base : Heap) (CX : CXT) (C : Addr) (m : Str) (ps : List Str) (dvs : List V) (k : Nat) (sp : Sp) : Prop where
  ex : ∃ (f : Addr) (fd : FuncData) (ds : List Value), Cls K C /\ Meth K C m f /\ Binds K fd ps ds /\ Vals dvs ds /\ FnOk P w K mg base CX k f fd ps sp
structure Oc (P : Program) (w : World) (K : PySem.W.Frag) (mg : Str -> Option Value) (base : Heap) (CX : CXT) (x : Str) (C : Addr) (ps : List Str) (dvs : List V) (k : Nat) (sp : Sp) : Prop where
  ex : ∃ (f : Addr) (fd : FuncData) (ds : List Value), mg x = some (.ref C) /\ Mk K C f /\ Binds K fd ps ds /\ Vals dvs ds /\ FnOk P w K mg base CX k f fd ps sp
def z75 (C : Addr) (m : Str) (sp : Sp) (dvs : List V) (ta : TE) (t : TA) : TEx := fun σ H Q E => ta σ H fun x H1 => ∃ a dx fs, x = .ref a /\ H1 a = some (.ins C dx fs) /\ fs.lookup m = none /\ t σ H1 fun vs H2 => sp (x :: (vs ++ dvs)) H2 Q E
def z76 (C : Addr) (sp : Sp) (dvs : List V) (t : TA) : TEx := fun σ H Q E => t σ H fun vs H1 => ∀ x dx, H1 x = none -> H1 dx = none -> dx ≠ x ->
  sp (.ref x :: (vs ++ dvs)) (upd (upd H1 dx (.own x)) x (.ins C dx [])) (fun v H2 => v = .non /\ Q (.ref x) H2) E
section
variable {X : Cx} {CX : CXT} {k j : Nat} {C : Addr} {ps : List Str} {sp : Sp} {dvs : List V} {E : XK} {x m : Str} {p pos apos : Pos} {e o : Expr} {es : List Expr} {ta : TE} {t : TA}
theorem z6E {pl : Sem Bool} (O : Om X.prog X.w X.K X.mg X.base CX C m ps dvs k sp) (hr : Room j X.A) (hx : z0p CX X E) (he : PE X o ta) (ha : PA X (e :: es) t) (hk : k <= j := by decide)
    (hst : starEach (e :: es) X.env = (false, eval e X.env) :: starEach es X.env := by rfl) (hpl : (backTo pos (starEach es X.env)).any (·.1) = false := by rfl)
    (ht : eval (.Call (.Attribute o m apos) (e :: es) [] pos) X.env = (do
      let ov <- eval o X.env
      standAt apos.atName
      let (f, first) <- holding [ov] (getMethod ov m pl)
      callWith pos f first (backTo pos (starEach (e :: es) X.env)) (backToKw pos (keywordEach [] X.env))) := by rfl) :
    PE X (.Call (.Attribute o m apos) (e :: es) [] pos) (z3i C m sp dvs E ta t) := by
  obtain ⟨f, fd, ds, c, hm, hb, hd, F⟩ := O.ex
  exact z49 he c hm F (hr.mono hk) hb hd hx ha hst hpl ht
theorem z22 {pl : Sem Bool} (O : Om X.prog X.w X.K X.mg X.base CX C m ps dvs k sp) (hr : Room j X.A) (hx : z0p CX X E) (he : PE X o ta) (hk : k <= j := by decide)
    (ht : eval (.Call (.Attribute o m apos) [] [] pos) X.env = (do
      let ov <- eval o X.env
      standAt apos.atName
      let (f, first) <- holding [ov] (getMethod ov m pl)
      callWith pos f first (backTo pos (starEach [] X.env)) (backToKw pos (keywordEach [] X.env))) := by rfl) :
    PE X (.Call (.Attribute o m apos) [] [] pos) (z3i C m sp dvs E ta z5e) := by
  obtain ⟨f, fd, ds, c, hm, hb, hd, F⟩ := O.ex
  exact z3j he c hm F (hr.mono hk) hb hd hx ht
theorem z6F (O : Oc X.prog X.w X.K X.mg X.base CX x C ps dvs k sp) (hr : Room j X.A) (hx : z0p CX X E) (hg : Gl X x) (ha : PA X (e :: es) t) (hk : k + 1 <= j := by decide)
    (hdb : (x == ("__debug__" : Str)) = false := by decide) (he : starEach (e :: es) X.env = (false, eval e X.env) :: starEach es X.env := by rfl) (hpl : (backTo pos (starEach es X.env)).any (·.1) = false := by rfl) :
    PE X (.Call (.Name x p) (e :: es) [] pos) (z4l C sp dvs E t) := by
  obtain ⟨f, fd, ds, m, M, hb, hd, F⟩ := O.ex
  exact z4A M F (hr.mono hk) hg m hb hd hx ha hdb he hpl
end
section
variable {X : Cx} {a : Addr}
end
end L2
namespace L2
open PySem PySem.Spec PyProof.Rows G
def SameX (S : List Addr) (H H' : Hp) : Prop := ∀ b o, b ∉ S -> H b = some o -> H' b = some o
theorem SameX.of {S : List Addr} {H H' : Hp} (s : Same H H') : SameX S H H' := fun b o _ h => s b o h
theorem SameX.trans {S : List Addr} {H H1 H2 : Hp} (a : SameX S H H1) (b : SameX S H1 H2) : SameX S H H2 := fun c o n h => b c o n (a c o n h)
theorem SameX.sub {S T : List Addr} {H H' : Hp} (a : SameX S H H') (h : ∀ p ∈ S, p ∈ T) : SameX T H H' := fun b o n e => a b o (fun hb => n (h b hb)) e
theorem SameX.put {S : List Addr} {H H' : Hp} {p : Addr} {o : HO} (a : SameX S H H') (h : p ∈ S) : SameX S H (upd H' p o) := fun b u n e => by
  have nb : b ≠ p := fun z => n (by rw [z]; exact h)
  rw [z04 nb]
  exact a b u n e
theorem SameX.old {S : List Addr} {H0 H H' : Hp} (s : Same H0 H) (a : SameX S H H') (h : ∀ p ∈ S, H0 p = none) : Same H0 H' := fun b o e => a b o (fun hb => by rw [h b hb] at e; cases e) (s b o e)
def z2I (H : Hp) (S : List Addr) : Prop := ∀ p ∈ S, ∀ xs, H p ≠ some (.tup xs)
theorem SameX.tup {S : List Addr} {H H' : Hp} (a : SameX S H H') (n : z2I H S) {b : Addr} {xs : List V} (h : H b = some (.tup xs)) : H' b = some (.tup xs) := a b _ (fun hb => n b hb xs h) h
theorem TusAt.snoc {H : Hp} {l : Addr} {ts : List Addr} {zss : List (List Int)} {t : Addr} {zs : List Int} (B : TusAt H l ts zss) (h : H t = some (.tup (zs.map V.int))) : TusAt (upd H l (.lst (ts.map V.ref ++ [.ref t]))) l (ts ++ [t]) (zss ++ [zs]) := by
  have ot : ∀ {b : Addr} {xs : List V}, H b = some (.tup xs) -> (upd H l (.lst (ts.map V.ref ++ [.ref t]))) b = some (.tup xs) := fun {b xs} e => (z04 (z1P e B.lst fun z => nomatch z)).trans e
  refine ⟨by rw [z01, List.map_append]; rfl, by rw [List.length_append, List.length_append, B.len]; rfl, fun i u ws e1 e2 => ?_⟩
  have hl := B.len
  by_cases hi : i < ts.length
  . rw [List.getElem?_append_left hi] at e1
    rw [List.getElem?_append_left (by omega)] at e2
    exact ot (B.at' i u ws e1 e2)
  . rw [List.getElem?_append_right (by omega)] at e1
    rw [List.getElem?_append_right (by omega), <- hl] at e2
    cases hk : i - ts.length with
    | zero =>
      rw [hk] at e1 e2
      cases e1
      cases e2
      exact ot h
    | succ n =>
      rw [hk] at e1
      cases e1
def z0x (hg : Nat) (mk : List Int) : Nat -> List (List Int)
  | 0 => []
  | k + 1 => z0x hg mk k ++ (if 1 <= k /\ k % hg ≠ 0 /\ mk[k]? ≠ mk[k - 1]? then [[((k / hg : Nat) : Int), ((k % hg : Nat) : Int)]] else [])
def z0y (hg : Nat) (mk : List Int) : List (List Int) := z0x hg mk mk.length
theorem z0e (hg : Nat) (mk : List Int) : ∀ k, (z0x hg mk k).length <= k /\ ∀ zs ∈ z0x hg mk k, zs.length = 2
  | 0 => ⟨Nat.le_refl _, fun zs h => nomatch h⟩
  | k + 1 => by
    obtain ⟨a, b⟩ := z0e hg mk k
    unfold z0x
    split
    . refine ⟨by rw [List.length_append]; show _ + 1 <= _; omega, fun zs h => ?_⟩
      rcases List.mem_append.mp h with h | h
      . exact b zs h
      . rw [List.mem_singleton.mp h]
        rfl
    . rw [List.append_nil]
      exact ⟨by omega, b⟩
theorem z23 (hg : Nat) (mk : List Int) (m : Int) : ∀ k, k <= mk.length -> z0x hg (mk ++ [m]) k = z0x hg mk k
  | 0, _ => rfl
  | k + 1, h => by
    unfold z0x
    rw [z23 hg mk m k (by omega), List.getElem?_append_left (by omega), List.getElem?_append_left (by omega)]
theorem z2l (hg : Nat) (mk : List Int) (m : Int) : z0y hg (mk ++ [m]) = z0y hg mk ++ (if 1 <= mk.length /\ mk.length % hg ≠ 0 /\ some m ≠ mk[mk.length - 1]? then [[((mk.length / hg : Nat) : Int), ((mk.length % hg : Nat) : Int)]] else []) := by
  unfold z0y
  rw [List.length_append]
  show z0x hg (mk ++ [m]) (mk.length + 1) = _
  conv => lhs; unfold z0x
  rw [z23 hg mk m _ (Nat.le_refl _), List.getElem?_append_right (Nat.le_refl _), Nat.sub_self]
  congr 1
  by_cases h0 : 1 <= mk.length
  . rw [List.getElem?_append_left (by omega)]
    rfl
  . rw [if_neg (fun z => h0 z.1), if_neg (fun z => h0 z.1)]
def z2m (mk : List Int) : V := match mk[mk.length - 1]? with
  | none => .non
  | some z => .int z
theorem z1O (mk : List Int) (m : Int) : z2m (mk ++ [m]) = .int m := by
  unfold z2m
  rw [List.length_append]
  show (match (mk ++ [m])[mk.length + 1 - 1]? with | none => V.non | some z => V.int z) = _
  rw [Nat.add_sub_cancel, List.getElem?_append_right (Nat.le_refl _), Nat.sub_self]
  rfl
def bmF (a b c : Int) (v : V) (tl : Addr) : List (Str × V) := [("high", .int a), ("turn", .int b), ("row", .int c), ("make", v), ("tears", .ref tl)]
theorem z3Y (a b c : Int) (v u : V) (tl : Addr) : z1j "make" u (bmF a b c v tl) = bmF a b c u tl := rfl
theorem z3q {n hg : Nat} (h : 1 <= hg) : (n % hg + 1 = hg -> (n + 1) / hg = n / hg + 1 /\ (n + 1) % hg = 0) /\ (n % hg + 1 ≠ hg -> (n + 1) / hg = n / hg /\ (n + 1) % hg = n % hg + 1) := by
  have e := Nat.div_add_mod n hg
  have l := Nat.mod_lt n (show 0 < hg by omega)
  constructor
  . intro c
    have e2 : n + 1 = hg * (n / hg + 1) := by rw [Nat.mul_add]; omega
    rw [e2, Nat.mul_div_cancel_left _ (by omega), Nat.mul_mod_right]
    exact ⟨rfl, rfl⟩
  . intro c
    have e2 : n + 1 = (n % hg + 1) + hg * (n / hg) := by omega
    constructor
    . conv => lhs; rw [e2]
      rw [Nat.add_mul_div_left _ _ (by omega), Nat.div_eq_of_lt (by omega), Nat.zero_add]
    . conv => lhs; rw [e2]
      rw [Nat.add_mul_mod_self_left, Nat.mod_eq_of_lt (by omega)]
def BmAt (C : Addr) (H : Hp) (x tl : Addr) (ts : List Addr) (hg : Nat) (mk : List Int) : Prop :=
  (∃ dx, H x = some (.ins C dx (bmF (hg : Int) ((mk.length / hg : Nat) : Int) ((mk.length % hg : Nat) : Int) (z2m mk) tl))) /\ TusAt H tl ts (z0y hg mk)
theorem BmAt.mono {C : Addr} {H H' : Hp} {x tl : Addr} {ts : List Addr} {hg : Nat} {mk : List Int} (s : Same H H') (h : BmAt C H x tl ts hg mk) : BmAt C H' x tl ts hg mk := by
  obtain ⟨⟨dx, a⟩, b⟩ := h
  exact ⟨⟨dx, s _ _ a⟩, b.mono s⟩
structure StAt (C : Addr) (H : Hp) (t x ml tl : Addr) (ts : List Addr) (hg : Nat) (mk : List Int) : Prop where
  tup : H t = some (.tup [.ref x, .int (hg : Int), .ref ml])
  bm : BmAt C H x tl ts hg mk
  mkl : H ml = some (.lst (mk.map V.int))
  ne : tl ≠ ml
  h1 : 1 <= hg
  h2 : hg <= 64
theorem StAt.mono {C : Addr} {H H' : Hp} {t x ml tl : Addr} {ts : List Addr} {hg : Nat} {mk : List Int} (s : Same H H') (h : StAt C H t x ml tl ts hg mk) : StAt C H' t x ml tl ts hg mk := ⟨s _ _ h.tup, h.bm.mono s, s _ _ h.mkl, h.ne, h.h1, h.h2⟩
theorem StAt.keep {C : Addr} {S : List Addr} {H H' : Hp} {t x ml tl : Addr} {ts : List Addr} {hg : Nat} {mk : List Int} (e : SameX S H H') (n : z2I H S) (hx : x ∉ S) (hm : ml ∉ S) (ht : tl ∉ S) (h : StAt C H t x ml tl ts hg mk) : StAt C H' t x ml tl ts hg mk := by
  obtain ⟨a, ⟨⟨dx, b⟩, c⟩, d, f, g1, g2⟩ := h
  exact ⟨e.tup n a, ⟨⟨dx, e _ _ hx b⟩, ⟨e _ _ ht c.lst, c.len, fun i u zs e1 e2 => e.tup n (c.at' i u zs e1 e2)⟩⟩, e _ _ hm d, f, g1, g2⟩
structure Pr where
  t : Addr
  a : Addr
  b : Addr
  zs : List Addr
structure TdAt (H : Hp) (td : Addr) (F : List Addr) (ps : List Pr) : Prop where
  lst : H td = some (.lst (ps.map fun p => V.ref p.t))
  tup : ∀ p ∈ ps, H p.t = some (.tup [.ref p.a, .ref p.b])
  a : ∀ p ∈ ps, H p.a = some (.lst (p.zs.map V.ref)) /\ p.a ∉ F
  b : ∀ p ∈ ps, H p.b = some (.lst (p.zs.map V.ref)) /\ p.b ∉ F
  sz : ∀ p ∈ ps, p.zs.length <= 1000
theorem TdAt.mono {H H' : Hp} {td : Addr} {F : List Addr} {ps : List Pr} (s : Same H H') (h : TdAt H td F ps) : TdAt H' td F ps := ⟨s _ _ h.lst, fun p hp => s _ _ (h.tup p hp), fun p hp => ⟨s _ _ (h.a p hp).1, (h.a p hp).2⟩, fun p hp => ⟨s _ _ (h.b p hp).1, (h.b p hp).2⟩, h.sz⟩
theorem TdAt.keep {S : List Addr} {H H' : Hp} {td : Addr} {F : List Addr} {ps : List Pr} (e : SameX S H H') (n : z2I H S) (ht : td ∉ S) (hS : ∀ p ∈ S, p ∈ F) (h : TdAt H td F ps) : TdAt H' td F ps :=
  ⟨e _ _ ht h.lst, fun p hp => e.tup n (h.tup p hp), fun p hp => ⟨e _ _ (fun z => (h.a p hp).2 (hS _ z)) (h.a p hp).1, (h.a p hp).2⟩, fun p hp => ⟨e _ _ (fun z => (h.b p hp).2 (hS _ z)) (h.b p hp).1, (h.b p hp).2⟩, h.sz⟩
def z1e (C : Addr) : Sp := fun vs H Q _ => ∃ (x dx : Addr) (hg : Nat), vs = [.ref x, .int (hg : Int)] /\ H x = some (.ins C dx []) /\ ∀ tl H', SameX [x] H H' -> H tl = none -> tl ≠ x -> BmAt C H' x tl [] hg [] -> Q .non H'
def z1f (C : Addr) : Sp := fun vs H Q _ => ∃ (x tl : Addr) (ts : List Addr) (hg : Nat) (mk : List Int), vs = [.ref x] /\ BmAt C H x tl ts hg mk /\ ∀ t H', Same H H' -> H t = none -> H' t = some (.tup [.int ((mk.length / hg : Nat) : Int), .int ((mk.length % hg : Nat) : Int)]) -> Q (.ref t) H'
def z1g (C : Addr) : Sp := fun vs H Q _ => ∃ (x tl : Addr) (ts : List Addr) (hg : Nat) (mk : List Int), vs = [.ref x] /\ BmAt C H x tl ts hg mk /\ Q (.bl (decide (mk.length % hg = 0))) H
def z1h (C : Addr) : Sp := fun vs H Q _ => ∃ (x tl : Addr) (ts : List Addr) (hg : Nat) (mk : List Int) (m : Int), vs = [.ref x, .int m] /\ BmAt C H x tl ts hg mk /\ 1 <= hg /\ mk.length <= 1000 /\ ∀ t ts' H', SameX [x, tl] H H' -> H t = none -> H' t = some (.tup [.int ((mk.length / hg : Nat) : Int), .int ((mk.length % hg : Nat) : Int)]) -> BmAt C H' x tl ts' hg (mk ++ [m]) -> Q (.ref t) H'
def z3Z (C : Addr) : Sp := fun vs H Q _ => ∃ (x tl : Addr) (ts : List Addr) (hg : Nat) (mk : List Int), vs = [.ref x] /\ BmAt C H x tl ts hg mk /\ ∀ l H', Same H H' -> H l = none -> H' l = some (.lst (ts.map V.ref)) -> Q (.ref l) H'
def z3a : Sp := fun vs H Q _ => ∃ (u v : Addr) (i j : Int), vs = [.ref u, .ref v] /\ H u = some (.tup [.int i, .int j]) /\ H v = some (.tup [.int i, .int j]) /\ ∀ H', Same H H' -> Q (.bl true) H'
def z3b : Sp := fun vs H Q _ => ∃ (ml : Addr) (hg : Nat) (mk : List Int), vs = [.ref ml, .int (hg : Int)] /\ H ml = some (.lst (mk.map V.int)) /\ 1 <= hg /\ hg <= 64 /\ mk.length <= 1000 /\ ∀ d us H', TusB H H' d us (z0y hg mk) -> Q (.ref d) H'
def z2Z (C : Addr) : Sp := fun vs H Q _ => ∃ (t td x ml tl : Addr) (ts : List Addr) (hg : Nat) (mk : List Int) (F : List Addr) (ps : List Pr), vs = [.ref t, .ref td] /\ StAt C H t x ml tl ts hg mk /\ mk.length <= 1000 /\ TdAt H td F ps /\ ps.length <= 900 /\ td ∈ F /\ (∀ p ∈ F, ∃ o, H p = some o) /\
  ∀ p' H', SameX [td] H H' -> TdAt H' td F (ps ++ [p']) -> Q (.bl true) H'
def z24 (C : Addr) : Sp := fun vs H Q _ => ∃ (t x ml tl : Addr) (ts : List Addr) (hg : Nat) (mk : List Int) (m : Int), vs = [.ref t, .int m] /\ StAt C H t x ml tl ts hg mk /\ mk.length <= 900 /\ ∀ ts' H', SameX [x, tl, ml] H H' -> StAt C H' t x ml tl ts' hg (mk ++ [m]) -> Q (.bl true) H'
def z2a : Sp := fun vs H Q _ => ∃ (c : Int) (ml : Addr) (mk : List Int), vs = [.int c, .ref ml] /\ H ml = some (.lst (mk.map V.int)) /\ ∀ m, Q (.int m) H
def z25 (K : PySem.W.Frag) : Sp := fun vs H Q _ => ∃ (a : Addr) (ns : List Int), vs = [.ref a] /\ SqL K H a (ns.map V.int) /\ ns.length <= 63 /\ ∀ l (cs : List Int) H', Same H H' -> H l = none -> H' l = some (.lst (cs.map V.int)) -> cs.length <= 61 -> Q (.ref l) H'
structure Bs where
  t : Addr
  x : Addr
  ml : Addr
  tl : Addr
  hg : Nat
structure Fr (H0 : Hp) (b0 b1 : Bs) (td sl : Addr) (F : List Addr) : Prop where
  nd : [b0.x, b0.ml, b0.tl, b1.x, b1.ml, b1.tl, td, sl].Nodup
  mem : ∀ p, p ∈ F ↔ p ∈ [b0.x, b0.ml, b0.tl, b1.x, b1.ml, b1.tl, td, sl]
  fr : ∀ p ∈ F, H0 p = none
theorem Fr.swap {H0 : Hp} {b0 b1 : Bs} {td sl : Addr} {F : List Addr} (h : Fr H0 b0 b1 td sl F) : Fr H0 b1 b0 td sl F := by
  have pm : [b0.x, b0.ml, b0.tl, b1.x, b1.ml, b1.tl, td, sl].Perm [b1.x, b1.ml, b1.tl, b0.x, b0.ml, b0.tl, td, sl] := by
    have := (List.perm_append_comm (l₁ := [b0.x, b0.ml, b0.tl]) (l₂ := [b1.x, b1.ml, b1.tl])).append_right [td, sl]
    exact this
  exact ⟨(List.Perm.nodup_iff pm).mp h.nd, fun p => (h.mem p).trans pm.mem_iff, h.fr⟩
structure Wd (C : Addr) (H0 H : Hp) (b0 b1 : Bs) (td sl : Addr) (ws : List V) (F : List Addr) (mk0 mk1 : List Int) (ps : List Pr) : Prop where
  same : Same H0 H
  s0 : ∃ ts, StAt C H b0.t b0.x b0.ml b0.tl ts b0.hg mk0
  s1 : ∃ ts, StAt C H b1.t b1.x b1.ml b1.tl ts b1.hg mk1
  td' : TdAt H td F ps
  sl' : H sl = some (.lst ws)
section
variable {C : Addr} {H0 H H' : Hp} {b0 b1 : Bs} {td sl : Addr} {ws : List V} {F : List Addr} {mk0 mk1 : List Int} {ps : List Pr}
theorem Wd.swap (h : Wd C H0 H b0 b1 td sl ws F mk0 mk1 ps) : Wd C H0 H b1 b0 td sl ws F mk1 mk0 ps := ⟨h.same, h.s1, h.s0, h.td', h.sl'⟩
theorem Wd.mono (s : Same H H') (h : Wd C H0 H b0 b1 td sl ws F mk0 mk1 ps) : Wd C H0 H' b0 b1 td sl ws F mk0 mk1 ps :=
  ⟨h.same.trans s, let ⟨ts, a⟩ := h.s0; ⟨ts, a.mono s⟩, let ⟨ts, a⟩ := h.s1; ⟨ts, a.mono s⟩, h.td'.mono s, s _ _ h.sl'⟩
theorem StAt.ins {t x ml tl : Addr} {ts : List Addr} {hg : Nat} {mk : List Int} (h : StAt C H t x ml tl ts hg mk) : ∃ dx fs, H x = some (.ins C dx fs) := let ⟨⟨dx, a⟩, _⟩ := h.bm; ⟨dx, _, a⟩
theorem Wd.ex (h : Wd C H0 H b0 b1 td sl ws F mk0 mk1 ps) (f : Fr H0 b0 b1 td sl F) : ∀ p ∈ F, ∃ o, H p = some o /\ ∀ xs, o ≠ .tup xs := fun p hp => by
  obtain ⟨ts0, a⟩ := h.s0
  obtain ⟨ts1, b⟩ := h.s1
  obtain ⟨d0, f0, a1⟩ := a.ins
  obtain ⟨d1, f1, b1⟩ := b.ins
  have q := (f.mem p).mp hp
  simp only [List.mem_cons, List.not_mem_nil, or_false] at q
  rcases q with rfl | rfl | rfl | rfl | rfl | rfl | rfl | rfl
  . exact ⟨_, a1, fun xs z => nomatch z⟩
  . exact ⟨_, a.mkl, fun xs z => nomatch z⟩
  . exact ⟨_, a.bm.2.lst, fun xs z => nomatch z⟩
  . exact ⟨_, b1, fun xs z => nomatch z⟩
  . exact ⟨_, b.mkl, fun xs z => nomatch z⟩
  . exact ⟨_, b.bm.2.lst, fun xs z => nomatch z⟩
  . exact ⟨_, h.td'.lst, fun xs z => nomatch z⟩
  . exact ⟨_, h.sl', fun xs z => nomatch z⟩
theorem Wd.noTup (h : Wd C H0 H b0 b1 td sl ws F mk0 mk1 ps) (f : Fr H0 b0 b1 td sl F) {S : List Addr} (hS : ∀ p ∈ S, p ∈ F) : z2I H S := fun p hp xs e => by
  obtain ⟨o, e1, e2⟩ := h.ex f p (hS p hp)
  rw [e1] at e
  exact e2 xs (Option.some.inj e)
theorem Wd.stand (h : Wd C H0 H b0 b1 td sl ws F mk0 mk1 ps) (f : Fr H0 b0 b1 td sl F) {p : Pr} (e : SameX [td] H H') (t : TdAt H' td F (ps ++ [p])) : Wd C H0 H' b0 b1 td sl ws F mk0 mk1 (ps ++ [p]) /\ SameX F H H' := by
  have hS : ∀ q ∈ [td], q ∈ F := fun q hq => (f.mem q).mpr (by rw [List.mem_singleton.mp hq]; simp)
  have n := h.noTup f hS
  have nd := f.nd
  simp only [List.nodup_cons, List.mem_cons, List.not_mem_nil, or_false, not_or] at nd
  obtain ⟨ts0, a⟩ := h.s0
  obtain ⟨ts1, b⟩ := h.s1
  refine ⟨⟨SameX.old h.same e fun q hq => f.fr q (hS q hq), ⟨ts0, a.keep e n ?_ ?_ ?_⟩, ⟨ts1, b.keep e n ?_ ?_ ?_⟩, t, e _ _ ?_ h.sl'⟩, e.sub hS⟩
  all_goals
    intro z
    have z := List.mem_singleton.mp z
    grind
theorem Wd.step (h : Wd C H0 H b0 b1 td sl ws F mk0 mk1 ps) (f : Fr H0 b0 b1 td sl F) {ts' : List Addr} {m : Int} (e : SameX [b0.x, b0.tl, b0.ml] H H') (s : StAt C H' b0.t b0.x b0.ml b0.tl ts' b0.hg (mk0 ++ [m])) : Wd C H0 H' b0 b1 td sl ws F (mk0 ++ [m]) mk1 ps /\ SameX F H H' := by
  have hS : ∀ q ∈ [b0.x, b0.tl, b0.ml], q ∈ F := fun q hq => (f.mem q).mpr (by
    simp only [List.mem_cons, List.not_mem_nil, or_false] at hq ⊢
    grind)
  have n := h.noTup f hS
  have nd := f.nd
  simp only [List.nodup_cons, List.mem_cons, List.not_mem_nil, or_false, not_or] at nd
  obtain ⟨ts1, b⟩ := h.s1
  refine ⟨⟨SameX.old h.same e fun q hq => f.fr q (hS q hq), ⟨ts', s⟩, ⟨ts1, b.keep e n ?_ ?_ ?_⟩, h.td'.keep e n ?_ hS, e _ _ ?_ h.sl'⟩, e.sub hS⟩
  all_goals
    intro z
    simp only [List.mem_cons, List.not_mem_nil, or_false] at z
    grind
end
end L2
local macro_rules | `(tactic| walk_at "r1") => `(tactic| first
  | refine ⟨_, rfl, ?_⟩
  | refine ⟨_, _, rfl, rfl, ?_⟩
  | refine ⟨rfl, ?_⟩
  | refine ⟨(by show (0 : Int) < _; first | decide | omega), ?_⟩
  | refine ⟨⟨(by first | decide | omega), (by first | decide | omega)⟩, ?_⟩
  | refine ⟨L2.mulL (by first | decide | omega) (by first | decide | omega), ?_⟩
  | refine ⟨L2.mulR (by first | decide | omega) (by first | decide | omega), ?_⟩
  | refine ⟨L2.powS (by first | decide | omega) (by first | decide | omega) (by first | decide | omega), ?_⟩
  | refine ⟨L2.szV (by simp), ?_⟩)
local macro_rules | `(tactic| walk_at "rs") => `(tactic| repeat walk_at "r1")
namespace K53
open PySem PyProof.Rows L2 G
def z2b (i : Nat) : Stmt := PySem.Challenge.pw_glowboard_k53_whole_beams.main.body.getD i (.Pass ⟨0, 0, 0, 0⟩)
abbrev z0U : Stmt := inClass (z2b 1) 0
abbrev z0O : Stmt := inClass (z2b 1) 1
abbrev z0P : Stmt := inClass (z2b 1) 2
abbrev z0V : Stmt := inClass (z2b 1) 3
abbrev z0W : Stmt := inClass (z2b 1) 4
abbrev z0Y : Stmt := z2b 3
abbrev z0Q : Stmt := z2b 4
abbrev z0T : Stmt := z2b 5
abbrev z0Z : Stmt := z2b 6
abbrev z0I : Stmt := z2b 7
abbrev z0J : Stmt := z2b 8
abbrev z0a : Stmt := z2b 9
abbrev z0L : Stmt := z2b 10
abbrev z14 : Stmt := z2b 11
structure Blt (mg : Str -> Option Value) : Prop where
  f_len : mg "len" = none
  f_range : mg "range" = none
  f_isinstance : mg "isinstance" = none
  f_int : mg "int" = none
  f_bool : mg "bool" = none
  f_list : mg "list" = none
  f_tuple : mg "tuple" = none
  f_all : mg "all" = none
structure Co (K : PySem.W.Frag) (mg : Str -> Option Value) (c_Beam : Addr) : Prop where
  m_Beam : mg "Beam" = some (.ref c_Beam)
  k_Beam : Cls K c_Beam
  n_Beam_high : NoAttr K c_Beam "high"
  n_Beam_turn : NoAttr K c_Beam "turn"
  n_Beam_row : NoAttr K c_Beam "row"
  n_Beam_make : NoAttr K c_Beam "make"
  n_Beam_tears : NoAttr K c_Beam "tears"
section
variable {P : Program} {w : World} {K : PySem.W.Frag} {mg : Str -> Option Value} {base : Heap}
theorem z2n : FnScope ["_law_script", "_law_k", "_law_prime", "_law_many"] ["_law_script", "_law_k", "_law_prime", "_law_many"] (z02 z0Y) := ⟨rfl, rfl, rfl, by decide +kernel, rfl, by decide +kernel, by decide +kernel⟩
theorem z2o {f : Addr} {fd : FuncData} (D : Df K mg "_law_draw" z0Y ["_law_script", "_law_k", "_law_prime", "_law_many"] f fd) (B : Blt mg) :
    Ow P w K mg base "_law_draw" ["_law_script", "_law_k", "_law_prime", "_law_many"] 1 (z2G K) := by
  refine D.ow (D.F.ok z2n (fun vs H Q E h => ?_) (fun cdv A outer s H vs Q E hr h => ?_))
  . obtain ⟨a, ns, k, p, m, rfl, _⟩ := h
    rfl
  obtain ⟨a, ns, k, p, m, rfl, hS, k0, k1, hp, hm, q⟩ := h
  refine ⟨_, (z06 (z0i (z0N z1p (z08 z09 rfl B.f_len boot_len (z00 (pv 0) z03)) z05 (z0S _)) (z07 (z0F z05)) z0H)
    (z07 (z0F (z0K z0d (z0K z0d (z0K z3u (z0K z1J (z1v z0t (pv 0) (z0K z0d (pv 1) (z08 z09 rfl B.f_len boot_len (z00 (pv 0) z03))) (fun _ _ => rfl)) (z0K z3u (pv 1) (pv 1))) z05) (pv 2)) (pv 3))))), ?_⟩
  refine ⟨_, rfl, a, _, rfl, .inl hS, ?_⟩
  walk_at "rs"
  refine z3y (fun c => ?_) (fun c => ?_)
  . exact q 0 (by decide) hm
  . have hl : 0 < ns.length := by
      rw [List.length_map] at c
      have : (ns.length : Int) ≠ 0 := fun e => c (by rw [e])
      omega
    obtain ⟨z, hz⟩ := z4L hl k
    refine ⟨_, rfl, _, rfl, _, rfl, a, _, rfl, .inl hS, _, _, rfl, rfl, (by rw [List.length_map]; show (0 : Int) < (ns.length : Int); omega), a, _, _, _, rfl, rfl, hS, hz, ?_⟩
    walk_at "rs"
    exact q _ (Int.emod_nonneg _ (by omega)) (Int.emod_lt_of_pos _ hm)
theorem z2J : FnScope ["_law_found"] ["_law_found"] (z02 z0Q) := ⟨rfl, rfl, rfl, by decide +kernel, rfl, by decide +kernel, by decide +kernel⟩
theorem z2K {f : Addr} {fd : FuncData} (D : Df K mg "_law_whole" z0Q ["_law_found"] f fd) (B : Blt mg) :
    Ow P w K mg base "_law_whole" ["_law_found"] 1 z3T := by
  refine D.ow (D.F.ok z2J (fun vs H Q E h => ?_) (fun cdv A outer s H vs Q E hr h => ?_))
  . obtain ⟨x, T, rfl, _⟩ := h
    rfl
  obtain ⟨x, T, rfl, hT, q⟩ := h
  refine ⟨_, (z07 (z0F (z4c (z08 z11 rfl B.f_isinstance boot_isinstance (z00 (pv 0) (z00 (z18 (v := .ty "int") rfl B.f_int boot_int rfl) z03))) (z4b (z4d (z08 z11 rfl B.f_isinstance boot_isinstance (z00 (pv 0) (z00 (z18 (v := .ty "bool") rfl B.f_bool boot_bool rfl) z03)))))))), ?_⟩
  refine ⟨x, rfl, x, "int", T, rfl, by decide, hT, _, rfl, ?_⟩
  have e := z2F T (z3L hT)
  cases hi : z4G T "int" with
  | true =>
    rw [hi, if_pos rfl] at e
    refine z7d ⟨x, rfl, x, "bool", T, rfl, by decide, hT, _, rfl, ?_⟩
    rw [e]
    exact q
  | false =>
    rw [hi, if_neg (by decide)] at e
    refine z6b ?_
    rw [e]
    exact q
theorem z2L : FnScope ["self", "high"] ["self", "high"] (z02 z0U) := ⟨rfl, rfl, rfl, by decide +kernel, rfl, by decide +kernel, by decide +kernel⟩
theorem z2M {f : Addr} {fd : FuncData}
    {c_Beam : Addr} (Zo : Co K mg c_Beam) (D : Fun K "__init__" "Beam.__init__" z0U f fd) (B : Blt mg) :
    FnOk P w K mg base CX0 1 f fd ["self", "high"] (z1e c_Beam) := by
  refine D.ok z2L (fun vs H Q E h => ?_) (fun cdv A outer s H vs Q E hr h => ?_)
  . obtain ⟨x, dx, hg, rfl, _⟩ := h
    rfl
  obtain ⟨x, dx, hg, rfl, hx, q⟩ := h
  refine ⟨_, (z06 (z10 (pv 0) (pv 1) rfl)
    (z06 (z10 (pv 0) z05 rfl)
    (z06 (z10 (pv 0) z05 rfl)
    (z06 (z10 (pv 0) z3r rfl)
    (z07 (z10 (pv 0) (z1M z03) rfl)))))), ?_⟩
  walk_at "rs"
  refine ⟨x, c_Beam, dx, [], rfl, hx, Zo.k_Beam, Zo.n_Beam_high, by decide, ?_⟩
  walk_at "rs"
  refine ⟨x, c_Beam, dx, _, rfl, z01, Zo.k_Beam, Zo.n_Beam_turn, (by show 1 < 1000; decide), ?_⟩
  walk_at "rs"
  refine ⟨x, c_Beam, dx, _, rfl, z01, Zo.k_Beam, Zo.n_Beam_row, (by show 2 < 1000; decide), ?_⟩
  walk_at "rs"
  refine ⟨x, c_Beam, dx, _, rfl, z01, Zo.k_Beam, Zo.n_Beam_make, (by show 3 < 1000; decide), ?_⟩
  walk_at "rs"
  intro tl ntl
  rw [z0f, z0f, z0f] at ntl
  walk_at "rs"
  rw [z0f, z0f, z0f]
  have ntx : tl ≠ x := fun e => by rw [e, z01] at ntl; cases ntl
  refine ⟨x, c_Beam, dx, _, rfl, (z04 (Ne.symm ntx)).trans z01, Zo.k_Beam, Zo.n_Beam_tears, (by show 4 < 1000; decide), ?_⟩
  rw [z04 ntx] at ntl
  refine q tl _ (fun b o nb e => ?_) ntl ntx ⟨⟨dx, ?_⟩, ⟨(z04 ntx).trans z01, rfl, fun i u zs e => nomatch e⟩⟩
  . have nb' : b ≠ x := fun z => nb (by rw [z]; exact List.mem_cons_self)
    rw [z04 nb', z04 (z0G e ntl), z04 nb']
    exact e
  . rw [z01]
    show _ = some (HO.ins c_Beam dx (bmF (hg : Int) ((0 / hg : Nat) : Int) ((0 % hg : Nat) : Int) .non tl))
    rw [Nat.zero_div, Nat.zero_mod]
    rfl
theorem z26 : FnScope ["self"] ["self"] (z02 z0O) := ⟨rfl, rfl, rfl, by decide +kernel, rfl, by decide +kernel, by decide +kernel⟩
theorem z27 {f : Addr} {fd : FuncData}
    {c_Beam : Addr} (Zo : Co K mg c_Beam) (D : Fun K "ahead" "Beam.ahead" z0O f fd) (B : Blt mg) :
    FnOk P w K mg base CX0 1 f fd ["self"] (z1f c_Beam) := by
  refine D.ok z26 (fun vs H Q E h => ?_) (fun cdv A outer s H vs Q E hr h => ?_)
  . obtain ⟨x, tl, ts, hg, mk, rfl, _⟩ := h
    rfl
  obtain ⟨x, tl, ts, hg, mk, rfl, BM, q⟩ := h
  obtain ⟨⟨dx, fx⟩, TA⟩ := id BM
  refine ⟨_, (z07 (z0F (z1L (z00 (z0o (pv 0) rfl) (z00 (z0o (pv 0) rfl) z03))))), ?_⟩
  walk_at "rs"
  refine ⟨x, c_Beam, dx, _, _, rfl, fx, Zo.k_Beam, Zo.n_Beam_turn, rfl, ?_⟩
  walk_at "rs"
  refine ⟨x, c_Beam, dx, _, _, rfl, fx, Zo.k_Beam, Zo.n_Beam_row, rfl, ?_⟩
  walk_at "rs"
  intro t nt
  exact q t _ (Same.new nt) nt z01
theorem z28 : FnScope ["self"] ["self"] (z02 z0P) := ⟨rfl, rfl, rfl, by decide +kernel, rfl, by decide +kernel, by decide +kernel⟩
theorem z29 {f : Addr} {fd : FuncData}
    {c_Beam : Addr} (Zo : Co K mg c_Beam) (D : Fun K "rests" "Beam.rests" z0P f fd) (B : Blt mg) :
    FnOk P w K mg base CX0 1 f fd ["self"] (z1g c_Beam) := by
  refine D.ok z28 (fun vs H Q E h => ?_) (fun cdv A outer s H vs Q E hr h => ?_)
  . obtain ⟨x, tl, ts, hg, mk, rfl, _⟩ := h
    rfl
  obtain ⟨x, tl, ts, hg, mk, rfl, BM, q⟩ := h
  obtain ⟨⟨dx, fx⟩, TA⟩ := id BM
  refine ⟨_, (z07 (z0F (z1U z1p (z0o (pv 0) rfl) z05 (z0S _)))), ?_⟩
  walk_at "rs"
  refine ⟨x, c_Beam, dx, _, _, rfl, fx, Zo.k_Beam, Zo.n_Beam_row, rfl, ?_⟩
  walk_at "rs"
  have e : decide (V.int ((mk.length % hg : Nat) : Int) = V.int 0) = decide (mk.length % hg = 0) := by
    by_cases c : mk.length % hg = 0
    . rw [decide_eq_true c, c]
      rfl
    . rw [decide_eq_false c, decide_eq_false (fun z => c (by have := V.int.inj z; omega))]
  rw [<- e] at q
  exact q
theorem sc_Beamstep : FnScope ["self", "make", "read"] ["self", "make"] (z02 z0V) := ⟨rfl, rfl, rfl, by decide +kernel, rfl, by decide +kernel, by decide +kernel⟩
theorem z2N {f : Addr} {fd : FuncData}
    {c_Beam : Addr} (Zo : Co K mg c_Beam)
    (O_Beamahead : Om P w K mg base CX0 c_Beam "ahead" ["self"] [] 1 (z1f c_Beam))
    (O_Beamrests : Om P w K mg base CX0 c_Beam "rests" ["self"] [] 1 (z1g c_Beam)) (D : Fun K "step" "Beam.step" z0V f fd) (B : Blt mg) :
    FnOk P w K mg base CX0 2 f fd ["self", "make"] (z1h c_Beam) := by
  refine D.ok sc_Beamstep (fun vs H Q E h => ?_) (fun cdv A outer s H vs Q E hr h => ?_)
  . obtain ⟨x, tl, ts, hg, mk, m, rfl, _⟩ := h
    rfl
  obtain ⟨x, tl, ts, hg, mk, m, rfl, BM, h1, hn, q⟩ := h
  obtain ⟨⟨dx, fx⟩, TA⟩ := id BM
  refine ⟨_, (z06 (z0z (i := 2) sc_Beamstep.nd rfl (Or.inl rfl) (z22 O_Beamahead hr z1y (pv 0)))
    (z1c (z0i (PW.pt (z3s (z0h (z0g (z22 O_Beamrests hr z1y (pv 0)))) (z2x (z0N z3f (pv 1) (z0o (pv 0) rfl) (z0S _))))) (z07 (z19 (z3F PySem.F.plainAttrs_list PySem.F.slot_list_append PySem.F.type_list_append z0k (z0o (pv 0) rfl) (z00 (pv 2) z03)))) z0H)
    (z06 (z10 (pv 0) (pv 1) rfl)
    (z06 (z10 (pv 0) (z0K z1J (z0o (pv 0) rfl) z05) rfl)
    (z1c (z0i (z0N z1p (z0o (pv 0) rfl) (z0o (pv 0) rfl) (z0S _)) (z06 (z10 (pv 0) z05 rfl)
    (z07 (z10 (pv 0) (z0K z1J (z0o (pv 0) rfl) z05) rfl))) z0H)
    (z07 (z0F (pv 2)))))))), ?_⟩
  walk_at "rs"
  refine ⟨x, dx, _, rfl, fx, rfl, x, tl, ts, hg, mk, rfl, BM, fun t H1 s1 nt gt => ?_⟩
  have fx1 := s1 _ _ fx
  have TA1 := TA.mono s1
  have ntl0 : tl ≠ x := fun e => by have := TA.lst; rw [e, fx] at this; cases this
  have snoc := z2l hg mk m
  have memx : x ∈ [x, tl] := List.mem_cons_self
  have memt : tl ∈ [x, tl] := List.mem_cons_of_mem _ List.mem_cons_self
  refine ⟨fun σ' H' => σ' = [some (.ref x), some (.int m), some (.ref t)] /\ SameX [x, tl] H H' /\ H' x = some (.ins c_Beam dx (bmF (hg : Int) ((mk.length / hg : Nat) : Int) ((mk.length % hg : Nat) : Int) (z2m mk) tl)) /\ H' t = some (.tup [.int ((mk.length / hg : Nat) : Int), .int ((mk.length % hg : Nat) : Int)]) /\ ∃ ts', TusAt H' tl ts' (z0y hg (mk ++ [m])), ?_, ?_⟩
  . have no : ¬ (1 <= mk.length /\ mk.length % hg ≠ 0 /\ some m ≠ mk[mk.length - 1]?) -> TusAt H1 tl ts (z0y hg (mk ++ [m])) := fun n => by
      rw [snoc, if_neg n, List.append_nil]
      exact TA1
    walk_at "rs"
    refine ⟨x, dx, _, rfl, fx1, rfl, x, tl, ts, hg, mk, rfl, BM.mono s1, ?_⟩
    by_cases hz : mk.length % hg = 0
    . rw [decide_eq_true hz]
      walk_at "rs"
      exact ⟨SameX.of s1, fx1, gt, ts, no (fun z => z.2.1 hz)⟩
    . rw [decide_eq_false hz]
      have hl : 1 <= mk.length := Nat.pos_of_ne_zero fun e => hz (by rw [e]; exact Nat.zero_mod _)
      have el : mk[mk.length - 1]? = some (mk[mk.length - 1]'(by omega)) := List.getElem?_eq_getElem (by omega)
      have ev : z2m mk = .int (mk[mk.length - 1]'(by omega)) := by
        unfold z2m
        rw [el]
      rw [ev] at fx1 ⊢
      walk_at "rs"
      refine ⟨x, c_Beam, dx, _, _, rfl, fx1, Zo.k_Beam, Zo.n_Beam_make, rfl, ?_⟩
      walk_at "rs"
      refine z5r (fun n => ?_) (fun e => ?_)
      . have yes : 1 <= mk.length /\ mk.length % hg ≠ 0 /\ some m ≠ mk[mk.length - 1]? := ⟨hl, hz, fun z => n (by rw [el] at z; rw [Option.some.inj z])⟩
        rw [if_pos yes] at snoc
        have b1 := (z0e hg mk mk.length).1
        have l1 := TA1.len
        have l2 : (z0y hg mk).length <= mk.length := b1
        walk_at "rs"
        refine ⟨x, c_Beam, dx, _, _, rfl, fx1, Zo.k_Beam, Zo.n_Beam_tears, rfl, ?_⟩
        refine ⟨.inl ⟨rfl, _, SqL.of TA1.lst⟩, ?_⟩
        walk_at "rs"
        refine ⟨tl, _, _, rfl, rfl, TA1.lst, by rw [List.length_map]; exact Nat.lt_of_lt_of_le (show ts.length < 5000 by omega) (by decide), ?_⟩
        refine ⟨rfl, (SameX.of s1).put memt, (z04 (Ne.symm ntl0)).trans fx1, (z04 (z1P gt TA1.lst fun z => nomatch z)).trans gt, ts ++ [t], ?_⟩
        rw [snoc]
        exact TA1.snoc gt
      . refine ⟨rfl, SameX.of s1, fx1, gt, ts, no (fun z => z.2.2 ?_)⟩
        rw [el, V.int.inj e]
  rintro σ2 H2 ⟨rfl, e2, fx2, gt2, ts', TA2⟩
  refine ⟨_, rfl, _, rfl, x, c_Beam, dx, _, rfl, fx2, Zo.k_Beam, Zo.n_Beam_make, (by show 5 < 1000; decide), ?_⟩
  rw [z3Y]
  refine ⟨_, rfl, x, c_Beam, dx, _, _, rfl, z01, Zo.k_Beam, Zo.n_Beam_row, rfl, ?_⟩
  walk_at "rs"
  refine ⟨x, c_Beam, dx, _, rfl, z01, Zo.k_Beam, Zo.n_Beam_row, (by show 5 < 1000; decide), ?_⟩
  rw [z0f]
  have e3 : ∀ fs, SameX [x, tl] H (upd H2 x (.ins c_Beam dx fs)) := fun fs => e2.put memx
  have g3 : ∀ fs, (upd H2 x (.ins c_Beam dx fs)) t = some (.tup [.int ((mk.length / hg : Nat) : Int), .int ((mk.length % hg : Nat) : Int)]) := fun fs => (z04 (z1P gt2 fx2 fun z => nomatch z)).trans gt2
  have T3 : ∀ fs, TusAt (upd H2 x (.ins c_Beam dx fs)) tl ts' (z0y hg (mk ++ [m])) := fun fs => ⟨(z04 ntl0).trans TA2.lst, TA2.len, fun i u zs a1 a2 => (z04 (z1P (TA2.at' i u zs a1 a2) fx2 fun z => nomatch z)).trans (TA2.at' i u zs a1 a2)⟩
  obtain ⟨n1, n2⟩ := z3q (n := mk.length) h1
  refine ⟨fun σ' H' => σ' = [some (.ref x), some (.int m), some (.ref t)] /\ SameX [x, tl] H H' /\ H' t = some (.tup [.int ((mk.length / hg : Nat) : Int), .int ((mk.length % hg : Nat) : Int)]) /\ BmAt c_Beam H' x tl ts' hg (mk ++ [m]), ?_, ?_⟩
  . refine ⟨_, rfl, x, c_Beam, dx, _, _, rfl, z01, Zo.k_Beam, Zo.n_Beam_row, rfl, ?_⟩
    refine ⟨_, rfl, x, c_Beam, dx, _, _, rfl, z01, Zo.k_Beam, Zo.n_Beam_high, rfl, ?_⟩
    walk_at "rs"
    have el : (mk ++ [m]).length = mk.length + 1 := by rw [List.length_append]; rfl
    refine z3y (fun c => ?_) (fun c => ?_)
    . have c' : mk.length % hg + 1 = hg := by have := V.int.inj c; omega
      obtain ⟨d1, d2⟩ := n1 c'
      walk_at "rs"
      refine ⟨x, c_Beam, dx, _, rfl, z01, Zo.k_Beam, Zo.n_Beam_row, (by show 5 < 1000; decide), ?_⟩
      rw [z0f]
      refine ⟨_, rfl, x, c_Beam, dx, _, _, rfl, z01, Zo.k_Beam, Zo.n_Beam_turn, rfl, ?_⟩
      walk_at "rs"
      refine ⟨x, c_Beam, dx, _, rfl, z01, Zo.k_Beam, Zo.n_Beam_turn, (by show 5 < 1000; decide), ?_⟩
      rw [z0f]
      refine ⟨rfl, e3 _, g3 _, ⟨dx, ?_⟩, T3 _⟩
      rw [z01, el, d1, d2, z1O]
      rfl
    . have c' : mk.length % hg + 1 ≠ hg := fun e => c (congrArg V.int (by omega))
      obtain ⟨d1, d2⟩ := n2 c'
      refine ⟨rfl, e3 _, g3 _, ⟨dx, ?_⟩, T3 _⟩
      rw [z01, el, d1, d2, z1O]
      rfl
  rintro σ3 H3 ⟨rfl, e3, g3, BM3⟩
  walk_at "rs"
  exact q t ts' H3 e3 nt g3 BM3
theorem z2O : FnScope ["self"] ["self"] (z02 z0W) := ⟨rfl, rfl, rfl, by decide +kernel, rfl, by decide +kernel, by decide +kernel⟩
theorem z2P {f : Addr} {fd : FuncData}
    {c_Beam : Addr} (Zo : Co K mg c_Beam) (D : Fun K "torn" "Beam.torn" z0W f fd) (B : Blt mg) :
    FnOk P w K mg base CX0 1 f fd ["self"] (z3Z c_Beam) := by
  refine D.ok z2O (fun vs H Q E h => ?_) (fun cdv A outer s H vs Q E hr h => ?_)
  . obtain ⟨x, tl, ts, hg, mk, rfl, _⟩ := h
    rfl
  obtain ⟨x, tl, ts, hg, mk, rfl, BM, q⟩ := h
  obtain ⟨⟨dx, fx⟩, TA⟩ := id BM
  refine ⟨_, (z07 (z0F (z1u z15 rfl B.f_list boot_list (z00 (z0o (pv 0) rfl) z03)))), ?_⟩
  walk_at "rs"
  refine ⟨x, c_Beam, dx, _, _, rfl, fx, Zo.k_Beam, Zo.n_Beam_tears, rfl, ?_⟩
  walk_at "rs"
  refine ⟨tl, _, rfl, .inl (SqL.of TA.lst), fun l nl => ?_⟩
  exact q l _ (Same.new nl) nl z01
theorem z2p : FnScope ["_law_found", "_law_due"] ["_law_found", "_law_due"] (z02 z0T) := ⟨rfl, rfl, rfl, by decide +kernel, rfl, by decide +kernel, by decide +kernel⟩
theorem z2q {f : Addr} {fd : FuncData} (D : Df K mg "_law_pair" z0T ["_law_found", "_law_due"] f fd)
    (O_lawwhole : Ow P w K mg base "_law_whole" ["_law_found"] 1 z3T) (B : Blt mg) :
    Ow P w K mg base "_law_pair" ["_law_found", "_law_due"] 2 z3a := by
  refine D.ow (D.F.ok z2p (fun vs H Q E h => ?_) (fun cdv A outer s H vs Q E hr h => ?_))
  . obtain ⟨u, v, i, j, rfl, _⟩ := h
    rfl
  obtain ⟨tu, tv, x, y, rfl, gu, gv, q⟩ := h
  have gu : H tu = some (.tup ([x, y].map V.int)) := gu
  have gv : H tv = some (.tup ([x, y].map V.int)) := gv
  refine ⟨_, (z06 (z0i (PW.pt (z2y (z0h (z0g (z08 z11 rfl B.f_isinstance boot_isinstance (z00 (pv 0) (z00 (z18 (v := .ty "tuple") rfl B.f_tuple boot_tuple rfl) z03))))) (z2y (z0N z3f (z08 z09 rfl B.f_len boot_len (z00 (pv 0) z03)) z05 (z0S _)) (z2R (z0h (z0g (z08 (z12 rfl) rfl B.f_all boot_all (z00 (z1G (locs := ["_law_one"]) (ix := []) rfl (BlkSc.look (dsc := z02 z0T) (N := ["_law_found", "_law_due"]) rfl rfl (by decide +kernel)) (z4g (pv 0)) (fun _ _ _ _ _ _ => (z0E (i := 0) (by decide +kernel : (["_law_one"] : List Str).Nodup) rfl (Or.inl rfl))) (fun _ _ _ _ _ _ => z0u) (fun _ _ _ _ _ _ => (z0M O_lawwhole hr rfl (z00 (pv 0) z03)))) z03)))))))) (z07 (z0F z1S)) z0H)
    (z07 (z0F (z1U (z41 (n := 0) (z3W hr)) (pv 0) (pv 1) (z0S _))))), ?_⟩
  refine ⟨_, rfl, _, "tuple", "tuple", rfl, by decide, by simp only [tyS, gu], _, rfl, z2E rfl ?_⟩
  refine ⟨_, rfl, tu, _, rfl, .inr (SqT.of gu), rfl, _, rfl, z2E rfl ?_⟩
  refine ⟨_, rfl, tu, rfl, ⟨_, SqT.of gu⟩, ?_⟩
  refine z0v (n := 2) (fun i σ zs H4 => ∃ v, σ = [v] /\ zs = (List.replicate i true).map V.bl /\ H4 = H) ⟨none, rfl, rfl, rfl⟩ (by decide) ?_ ?_ ?_ ?_ ?_
  . rintro i σ zs H4 ⟨v, _, rfl, _⟩
    rw [List.length_map, List.length_replicate]
  . rintro σ zs H4 ⟨v, _, _, rfl⟩
    exact ⟨_, SqT.of gu, by show 2 <= 2; decide⟩
  . rintro i σ zs H4 hi ⟨v, _, _, rfl⟩
    exact ⟨_, _, SqT.of gu, List.getElem?_eq_getElem (show i < ([x, y].map V.int).length from hi)⟩
  . rintro i σ zs H4 z H' Z hi ⟨v, rfl, rfl, rfl⟩ ⟨rfl, hx⟩ hZ
    obtain ⟨z, rfl⟩ := z16 (List.mem_of_getElem? (hx _ (SqT.of gu)))
    refine ⟨_, rfl, _, "int", rfl, rfl, ?_⟩
    refine hZ _ _ _ ⟨_, rfl, ?_, rfl⟩
    rw [List.replicate_succ', List.map_append]
    rfl
  rintro σ zs H4 ⟨v, rfl, rfl, rfl⟩ l' hl'
  refine ⟨l', List.replicate 2 true, rfl, SqL.of z01, _, rfl, z2E rfl ?_⟩
  have s5 : Same H4 (upd H4 l' (.lst ((List.replicate 2 true).map V.bl))) := Same.new hl'
  generalize upd H4 l' (.lst ((List.replicate 2 true).map V.bl)) = H5 at s5 ⊢
  walk_at "rs"
  exact ⟨EqT.tints (s5 _ _ gu) (s5 _ _ gv), q H5 s5⟩
theorem sc_lawtorn : FnScope ["_law_makes", "_law_high", "_law_due", "_law_k"] ["_law_makes", "_law_high"] (z02 z0Z) := ⟨rfl, rfl, rfl, by decide +kernel, rfl, by decide +kernel, by decide +kernel⟩
theorem z2r {f : Addr} {fd : FuncData} (D : Df K mg "_law_torn" z0Z ["_law_makes", "_law_high"] f fd) (B : Blt mg) :
    Ow P w K mg base "_law_torn" ["_law_makes", "_law_high"] 1 z3b := by
  refine D.ow (D.F.ok sc_lawtorn (fun vs H Q E h => ?_) (fun cdv A outer s H vs Q E hr h => ?_))
  . obtain ⟨ml, hg, mk, rfl, _⟩ := h
    rfl
  obtain ⟨ml, hg, mk, rfl, gm, h1, h2, hn, q⟩ := h
  refine ⟨_, (z06 (z0z (i := 2) sc_lawtorn.nd rfl (Or.inl rfl) (z1M z03))
    (z06 (z2U PassesOwn.never rfl (z32 rfl B.f_range (z00 z05 (z00 (z08 z09 rfl B.f_len boot_len (z00 (pv 0) z03)) z03))) (z0E (i := 3) sc_lawtorn.nd rfl (Or.inl rfl)) (z07 (z0i (PW.pt (z3s (z0N z4j (z0K z0d (pv 3) (pv 1)) z05 (z0S _)) (z2x (z0N z3f (z1v z0t (pv 0) (pv 3) (fun _ _ => rfl)) (z1v z0t (pv 0) (z0K z3t (pv 3) z05) (fun _ _ => rfl)) (z0S _))))) (z07 (z19 (z3F PySem.F.plainAttrs_list PySem.F.slot_list_append PySem.F.type_list_append z0k (pv 2) (z00 (z1L (z00 (z0K z0s (pv 3) (pv 1)) (z00 (z0K z0d (pv 3) (pv 1)) z03))) z03)))) z0H)))
    (z07 (z0F (pv 2))))), ?_⟩
  walk_at "rs"
  intro d nd
  have TB0 := z57 (Same.refl H) nd
  generalize upd H d (.lst []) = H1 at TB0
  walk_at "rs"
  refine ⟨ml, _, rfl, .inl (SqL.of (TB0.same _ _ gm)), ?_⟩
  rw [List.length_map]
  walk_at "rs"
  refine ⟨_, _, rfl, ⟨(z3z (by omega) (by omega)).1, (z3z (by omega) (by omega)).2, (z3z (by omega) (by omega)).1, (z3z (by omega) (by omega)).2⟩, ?_⟩
  refine z1o (lo := 1) (n := ((mk.length : Int) - 1).toNat) (fun k σ H2 => ∃ us v3, σ = [some (.ref ml), some (.int (hg : Int)), some (.ref d), v3] /\ TusB H H2 d us (z0x hg mk (min (k + 1) mk.length))) ⟨[], none, rfl, ?_⟩ ?_ ?_
  . have e : z0x hg mk (min (0 + 1) mk.length) = [] := by
      by_cases c : mk.length = 0
      . rw [c]
        rfl
      . rw [Nat.min_eq_left (by omega)]
        show [] ++ (if 1 <= 0 /\ _ /\ _ then _ else _) = []
        rw [if_neg (fun z => absurd z.1 (by decide))]
        rfl
    rw [e]
    exact TB0
  . rintro k σ H2 hk ⟨us, v3, rfl, TB⟩
    have hkl : k + 1 < mk.length := by omega
    have ek : (1 : Int) + (k : Int) = ((k + 1 : Nat) : Int) := by omega
    rw [Nat.min_eq_left (by omega)] at TB ⊢
    have g2 := TB.same _ _ gm
    have tn : z0x hg mk (k + 1 + 1) = z0x hg mk (k + 1) ++ (if 1 <= k + 1 /\ (k + 1) % hg ≠ 0 /\ mk[k + 1]? ≠ mk[k + 1 - 1]? then [[(((k + 1) / hg : Nat) : Int), (((k + 1) % hg : Nat) : Int)]] else []) := rfl
    have at1 : atI (mk.map V.int) ((k + 1 : Nat) : Int) = some (.int (mk[k + 1]'hkl)) := z0j (by rw [List.getElem?_map, List.getElem?_eq_getElem hkl]; rfl)
    have at0 : atI (mk.map V.int) ((1 : Int) + (k : Int) - 1) = some (.int (mk[k]'(by omega))) := by
      rw [show (1 : Int) + (k : Int) - 1 = ((k : Nat) : Int) by omega]
      exact z0j (by rw [List.getElem?_map, List.getElem?_eq_getElem (by omega)]; rfl)
    rw [<- ek] at at1
    have em : ((1 : Int) + (k : Int)) % (hg : Int) = (((k + 1) % hg : Nat) : Int) := by rw [ek]; rfl
    have ed : ((1 : Int) + (k : Int)) / (hg : Int) = (((k + 1) / hg : Nat) : Int) := by rw [ek]; rfl
    have e1 : mk[k + 1]? = some (mk[k + 1]'hkl) := List.getElem?_eq_getElem hkl
    have e0 : mk[k + 1 - 1]? = some (mk[k]'(by omega)) := by rw [Nat.add_sub_cancel]; exact List.getElem?_eq_getElem (by omega)
    have no : ¬ (1 <= k + 1 /\ (k + 1) % hg ≠ 0 /\ mk[k + 1]? ≠ mk[k + 1 - 1]?) -> TusB H H2 d us (z0x hg mk (k + 1 + 1)) := fun n => by
      rw [tn, if_neg n, List.append_nil]
      exact TB
    walk_at "rs"
    refine z3y (fun c => ?_) (fun c => ?_)
    . walk_at "rs"
      refine ⟨ml, _, _, _, rfl, rfl, SqL.of g2, at1, ?_⟩
      walk_at "rs"
      refine ⟨ml, _, _, _, rfl, rfl, SqL.of g2, at0, ?_⟩
      walk_at "rs"
      refine z5r (fun n => ?_) (fun e => ?_)
      . have yes : 1 <= k + 1 /\ (k + 1) % hg ≠ 0 /\ mk[k + 1]? ≠ mk[k + 1 - 1]? := ⟨by omega, by omega, fun z => n (by rw [e1, e0] at z; rw [Option.some.inj z])⟩
        rw [if_pos yes] at tn
        walk_at "rs"
        refine ⟨.inl ⟨rfl, _, SqL.of TB.lst⟩, ?_⟩
        walk_at "rs"
        intro t nt
        have TB5 := TB.mono (Same.new (o := .tup [.int (((1 : Int) + (k : Int)) / (hg : Int)), .int (((1 : Int) + (k : Int)) % (hg : Int))]) nt)
        have l5 := TB5.len
        have b1 := (z0e hg mk (k + 1)).1
        refine ⟨d, _, _, rfl, rfl, TB5.lst, by rw [List.length_map]; exact Nat.lt_of_lt_of_le (show us.length < 5000 by omega) (by decide), ?_⟩
        refine ⟨us ++ [t], _, rfl, ?_⟩
        rw [tn]
        exact TB5.push (t := t) (by rw [z01, ed, em]; rfl)
      . exact ⟨us, _, rfl, no (fun z => z.2.2 (by rw [e1, e0, V.int.inj e]))⟩
    . exact ⟨us, _, rfl, no (fun z => z.2.1 (by omega))⟩
  . rintro σ H2 ⟨us, v3, rfl, TB⟩
    have e : min (((mk.length : Int) - 1).toNat + 1) mk.length = mk.length := by omega
    rw [e] at TB
    walk_at "rs"
    exact q d us H2 TB
theorem sc_lawstands : FnScope ["_law_state", "_law_told", "_law_beam", "_law_high", "_law_makes", "_law_rests", "_law_torn_here"] ["_law_state", "_law_told"] (z02 z0I) := ⟨rfl, rfl, rfl, by decide +kernel, rfl, by decide +kernel, by decide +kernel⟩
theorem z2A {f : Addr} {fd : FuncData} (D : Df K mg "_law_stands" z0I ["_law_state", "_law_told"] f fd)
    {c_Beam : Addr} (Zo : Co K mg c_Beam)
    (O_Beamahead : Om P w K mg base CX0 c_Beam "ahead" ["self"] [] 1 (z1f c_Beam))
    (O_Beamrests : Om P w K mg base CX0 c_Beam "rests" ["self"] [] 1 (z1g c_Beam))
    (O_Beamtorn : Om P w K mg base CX0 c_Beam "torn" ["self"] [] 1 (z3Z c_Beam))
    (O_lawpair : Ow P w K mg base "_law_pair" ["_law_found", "_law_due"] 2 z3a)
    (O_lawtorn : Ow P w K mg base "_law_torn" ["_law_makes", "_law_high"] 1 z3b) (B : Blt mg) :
    Ow P w K mg base "_law_stands" ["_law_state", "_law_told"] 3 (z2Z c_Beam) := by
  refine D.ow (D.F.ok sc_lawstands (fun vs H Q E h => ?_) (fun cdv A outer s H vs Q E hr h => ?_))
  . obtain ⟨t, td, x, ml, tl, ts, hg, mk, F, ps, rfl, _⟩ := h
    rfl
  obtain ⟨t, td, x, ml, tl, ts, hg, mk, F, ps, rfl, SA, hn, TD, hp, tdF, exF, q⟩ := h
  have h1 := SA.h1
  have h2 := SA.h2
  obtain ⟨⟨dx, fx⟩, TA⟩ := id SA.bm
  have em : ((mk.length : Nat) : Int) % (hg : Int) = ((mk.length % hg : Nat) : Int) := rfl
  have ed : ((mk.length : Nat) : Int) / (hg : Int) = ((mk.length / hg : Nat) : Int) := rfl
  refine ⟨_, (z06 (z2z (pv 0) (z2S (n := 3) rfl (z0R (z0E (i := 2) sc_lawstands.nd rfl (Or.inl rfl)) (z0R (z0E (i := 3) sc_lawstands.nd rfl (Or.inl rfl)) (z0R (z0E (i := 4) sc_lawstands.nd rfl (Or.inl rfl)) z1T)))))
    (z06 (z0i (z0h (z0g (z0M O_lawpair hr rfl (z00 (z22 O_Beamahead hr z1y (pv 2)) (z00 (z1L (z00 (z0K z0s (z08 z09 rfl B.f_len boot_len (z00 (pv 4) z03)) (pv 3)) (z00 (z0K z0d (z08 z09 rfl B.f_len boot_len (z00 (pv 4) z03)) (pv 3)) z03))) z03))))) (z07 (z0F z1S)) z0H)
    (z06 (z0z (i := 5) sc_lawstands.nd rfl (Or.inl rfl) (z22 O_Beamrests hr z1y (pv 2)))
    (z06 (z0i (PW.pt (z2y (z0h (z0g (z08 z11 rfl B.f_isinstance boot_isinstance (z00 (pv 5) (z00 (z18 (v := .ty "bool") rfl B.f_bool boot_bool rfl) z03))))) (z2R (z0N z3f (pv 5) (z1U z1p (z0K z0d (z08 z09 rfl B.f_len boot_len (z00 (pv 4) z03)) (pv 3)) z05 (z0S _)) (z0S _))))) (z07 (z0F z1S)) z0H)
    (z06 (z0z (i := 6) sc_lawstands.nd rfl (Or.inl rfl) (z22 O_Beamtorn hr z1y (pv 2)))
    (z06 (z0i (PW.pt (z2y (z0h (z0g (z08 z11 rfl B.f_isinstance boot_isinstance (z00 (pv 6) (z00 (z18 (v := .ty "list") rfl B.f_list boot_list rfl) z03))))) (z2R (z0N (z53 (n := 1) (z3W hr)) (pv 6) (z0M O_lawtorn hr rfl (z00 (pv 4) (z00 (pv 3) z03))) (z0S _))))) (z07 (z0F z1S)) z0H)
    (z06 (z19 (z3F PySem.F.plainAttrs_list PySem.F.slot_list_append PySem.F.type_list_append z0k (pv 1) (z00 (z1L (z00 (pv 6) (z00 (z1u z15 rfl B.f_list boot_list (z00 (pv 6) z03)) z03))) z03)))
    (z07 (z0F (z08 (z12 rfl) rfl B.f_all boot_all (z00 (z1G (locs := ["_law_one"]) (ix := []) rfl (BlkSc.look (dsc := z02 z0I) (N := ["_law_state", "_law_told", "_law_beam", "_law_high", "_law_makes", "_law_rests", "_law_torn_here"]) rfl rfl (by decide +kernel)) (z0r (z1X z2D (pv 6) (z1W (z4h z3v z05)) z3C)) (fun _ _ _ _ _ _ => (z0E (i := 0) (by decide +kernel : (["_law_one"] : List Str).Nodup) rfl (Or.inl rfl))) (fun _ _ _ _ _ _ => z0u) (fun _ _ _ _ _ _ => (z0M O_lawpair hr rfl (z00 (pv 0) (z00 (pv 0) z03))))) z03))))))))))), ?_⟩
  refine ⟨_, rfl, t, _, rfl, SqT.of SA.tup, rfl, _, _, rfl, _, _, rfl, _, _, rfl, rfl, ?_⟩
  walk_at "rs"
  refine ⟨x, dx, _, rfl, fx, rfl, x, tl, ts, hg, mk, rfl, SA.bm, fun u H1 s1 nu gu => ?_⟩
  walk_at "rs"
  refine ⟨ml, _, rfl, .inl (SqL.of (s1 _ _ SA.mkl)), ?_⟩
  rw [List.length_map]
  walk_at "rs"
  refine ⟨ml, _, rfl, .inl (SqL.of (s1 _ _ SA.mkl)), ?_⟩
  rw [List.length_map]
  walk_at "rs"
  intro v nv
  have s2 := s1.trans (Same.new (o := .tup [.int ((mk.length / hg : Nat) : Int), .int ((mk.length % hg : Nat) : Int)]) nv)
  refine ⟨u, v, ((mk.length / hg : Nat) : Int), ((mk.length % hg : Nat) : Int), rfl, (Same.new nv) _ _ gu, z01, fun H3 s3 => ?_⟩
  have t3 := s2.trans s3
  walk_at "rs"
  refine ⟨x, dx, _, rfl, t3 _ _ fx, rfl, x, tl, ts, hg, mk, rfl, SA.bm.mono t3, ?_⟩
  walk_at "rs"
  refine ⟨_, "bool", "bool", rfl, by decide, rfl, _, rfl, z2E rfl ?_⟩
  walk_at "rs"
  refine ⟨ml, _, rfl, .inl (SqL.of (t3 _ _ SA.mkl)), ?_⟩
  rw [List.length_map]
  have eb : decide (V.int ((mk.length % hg : Nat) : Int) = V.int 0) = decide (mk.length % hg = 0) := by
    by_cases c : mk.length % hg = 0
    . rw [decide_eq_true c, c]
      rfl
    . rw [decide_eq_false c, decide_eq_false (fun z => c (by have := V.int.inj z; omega))]
  walk_at "rs"
  refine z5r (fun n => absurd (congrArg V.bl eb.symm) n) (fun _ => ?_)
  walk_at "rs"
  refine ⟨x, dx, _, rfl, t3 _ _ fx, rfl, x, tl, ts, hg, mk, rfl, SA.bm.mono t3, fun l H4 s4 nl gl => ?_⟩
  have t4 := t3.trans s4
  walk_at "rs"
  refine ⟨_, "list", "list", rfl, by decide, by simp only [tyS, gl], _, rfl, z2E rfl ?_⟩
  walk_at "rs"
  refine ⟨ml, hg, mk, rfl, t4 _ _ SA.mkl, h1, h2, hn, fun d us H5 TB5 => ?_⟩
  have s5 := TB5.same
  have t5 := t4.trans s5
  have TA5 := TA.mono t5
  have TL5 : TusAt H5 l ts (z0y hg mk) := ⟨s5 _ _ gl, TA.len, TA5.at'⟩
  walk_at "rs"
  refine ⟨TL5.eqT TB5.at, ?_⟩
  walk_at "rs"
  refine ⟨.inl ⟨rfl, _, SqL.of (t5 _ _ TD.lst)⟩, ?_⟩
  walk_at "rs"
  refine ⟨l, _, rfl, .inl (SqL.of TL5.lst), fun b nb => ?_⟩
  have s6 := Same.new (o := .lst (ts.map V.ref)) nb
  have gb : (upd H5 b (.lst (ts.map V.ref))) b = some (.lst (ts.map V.ref)) := z01
  generalize upd H5 b (.lst (ts.map V.ref)) = H6 at s6 gb
  have t6 := t5.trans s6
  walk_at "rs"
  intro t' nt'
  have s7 := Same.new (o := .tup [.ref l, .ref b]) nt'
  have gt' : (upd H6 t' (.tup [.ref l, .ref b])) t' = some (.tup [.ref l, .ref b]) := z01
  generalize upd H6 t' (.tup [.ref l, .ref b]) = H7 at s7 gt'
  have t7 := t6.trans s7
  have TD7 := TD.mono t7
  have TL7 := (TL5.mono s6).mono s7
  have gb7 := s7 _ _ gb
  refine ⟨td, _, _, rfl, rfl, TD7.lst, by rw [List.length_map]; exact z0l (by omega), ?_⟩
  have nlF : l ∉ F := fun hF => by
    obtain ⟨o, e⟩ := exF l hF
    rw [t3 _ _ e] at nl
    cases nl
  have nbF : b ∉ F := fun hF => by
    obtain ⟨o, e⟩ := exF b hF
    rw [t5 _ _ e] at nb
    cases nb
  have ntd : ∀ {c : Addr}, c ∉ F -> c ≠ td := fun {c} hc e => hc (by rw [e]; exact tdF)
  have e8 : SameX [td] H7 (upd H7 td (.lst ((ps.map fun p => V.ref p.t) ++ [.ref t']))) := (SameX.of (Same.refl _)).put List.mem_cons_self
  have nt7 : z2I H7 [td] := fun p hp xs e => by
    rw [List.mem_singleton.mp hp, TD7.lst] at e
    cases e
  have TD8 : TdAt (upd H7 td (.lst ((ps.map fun p => V.ref p.t) ++ [.ref t']))) td F (ps ++ [⟨t', l, b, ts⟩]) := by
    refine ⟨by rw [z01, List.map_append]; rfl, fun p hp => ?_, fun p hp => ?_, fun p hp => ?_, fun p hp => ?_⟩
    rotate_left 3
    . rcases List.mem_append.mp hp with hp | hp
      . exact TD7.sz p hp
      . rw [List.mem_singleton.mp hp]
        show ts.length <= 1000
        have b1 := (z0e hg mk mk.length).1
        have b2 := TL7.len
        have b3 : (z0y hg mk).length <= mk.length := b1
        omega
    . rcases List.mem_append.mp hp with hp | hp
      . exact e8.tup nt7 (TD7.tup p hp)
      . rw [List.mem_singleton.mp hp]
        exact e8.tup nt7 gt'
    . rcases List.mem_append.mp hp with hp | hp
      . exact ⟨(z04 (ntd (TD7.a p hp).2)).trans (TD7.a p hp).1, (TD7.a p hp).2⟩
      . rw [List.mem_singleton.mp hp]
        exact ⟨(z04 (ntd nlF)).trans TL7.lst, nlF⟩
    . rcases List.mem_append.mp hp with hp | hp
      . exact ⟨(z04 (ntd (TD7.b p hp).2)).trans (TD7.b p hp).1, (TD7.b p hp).2⟩
      . rw [List.mem_singleton.mp hp]
        exact ⟨(z04 (ntd nbF)).trans gb7, nbF⟩
  have TL8 : TusAt (upd H7 td (.lst ((ps.map fun p => V.ref p.t) ++ [.ref t']))) l ts (z0y hg mk) := ⟨(z04 (ntd nlF)).trans TL7.lst, TL7.len, fun i u zs a1 a2 => e8.tup nt7 (TL7.at' i u zs a1 a2)⟩
  have e8' : SameX [td] H (upd H7 td (.lst ((ps.map fun p => V.ref p.t) ++ [.ref t']))) := (SameX.of t7).trans e8
  generalize upd H7 td (.lst ((ps.map fun p => V.ref p.t) ++ [.ref t'])) = H8 at e8' TD8 TL8
  walk_at "rs"
  refine ⟨l, _, rfl, SqL.of TL8.lst, fun c nc => ?_⟩
  have hmem : ∀ w ∈ z2i (ts.map V.ref) (some (-1)) none, ∃ u i j, w = V.ref u /\ H8 u = some (.tup [.int i, .int j]) := fun w hw => by
    obtain ⟨u, hu, rfl⟩ := List.mem_map.mp (z4F hw)
    obtain ⟨n, hn', e⟩ := List.mem_iff_getElem.mp hu
    have hl := TL8.len
    have g := TL8.at' n u ((z0y hg mk)[n]'(by omega)) (by rw [List.getElem?_eq_getElem hn', e]) (List.getElem?_eq_getElem _)
    have lz := (z0e hg mk mk.length).2 ((z0y hg mk)[n]'(by omega)) (List.getElem_mem _)
    generalize (z0y hg mk)[n]'(by omega) = zs at g lz
    obtain ⟨i, j, rfl⟩ : ∃ i j, zs = [i, j] := match zs, lz with | [i, j], _ => ⟨i, j, rfl⟩
    exact ⟨u, i, j, rfl, g⟩
  have hcl := z1D (ts.map V.ref) (some (-1)) none
  rw [List.length_map, TL8.len] at hcl
  have htl := (z0e hg mk mk.length).1
  have hcl2 : (z2i (ts.map V.ref) (some (-1)) none).length <= 1000 := Nat.le_trans hcl (Nat.le_trans htl hn)
  generalize z2i (ts.map V.ref) (some (-1)) none = ws at hmem hcl2
  have s9 := Same.new (o := .lst ws) nc
  have gc : (upd H8 c (.lst ws)) c = some (.lst ws) := z01
  generalize upd H8 c (.lst ws) = H9 at s9 gc
  refine ⟨c, rfl, ⟨_, SqL.of gc⟩, ?_⟩
  refine z0v (n := ws.length) (fun i σ zs H10 => ∃ v, σ = [v] /\ zs = (List.replicate i true).map V.bl /\ Same H9 H10) ⟨none, rfl, rfl, Same.refl _⟩ (Nat.le_trans hcl2 (by decide)) ?_ ?_ ?_ ?_ ?_
  . rintro i σ zs H10 ⟨v, _, rfl, _⟩
    rw [List.length_map, List.length_replicate]
  . rintro σ zs H10 ⟨v, _, _, s10⟩
    exact ⟨_, SqL.of (s10 _ _ gc), Nat.le_refl _⟩
  . rintro i σ zs H10 hi ⟨v, _, _, s10⟩
    exact ⟨_, _, SqL.of (s10 _ _ gc), List.getElem?_eq_getElem hi⟩
  . rintro i σ zs H10 z H' Z hi ⟨v, rfl, rfl, s10⟩ ⟨rfl, hx⟩ hZ
    obtain ⟨u, i1, j1, rfl, g⟩ := hmem _ (List.mem_of_getElem? (hx _ (SqL.of (s10 _ _ gc))))
    have g10 := s10 _ _ (s9 _ _ g)
    walk_at "rs"
    refine ⟨u, u, i1, j1, rfl, g10, g10, fun H11 s11 => ?_⟩
    refine hZ _ _ _ ⟨_, rfl, ?_, s10.trans s11⟩
    rw [List.replicate_succ', List.map_append]
    rfl
  rintro σ zs H10 ⟨v, rfl, rfl, s10⟩ l' hl'
  have sf := (s9.trans s10).trans (Same.new (o := .lst ((List.replicate ws.length true).map V.bl)) hl')
  refine ⟨l', List.replicate ws.length true, rfl, SqL.of z01, ?_⟩
  rw [show (List.replicate ws.length true).all id = true by simp]
  exact q _ _ (e8'.trans (SameX.of sf)) (TD8.mono sf)
theorem sc_lawstepped : FnScope ["_law_state", "_law_make_here", "_law_beam", "_law_high", "_law_makes", "_law_spot"] ["_law_state", "_law_make_here"] (z02 z0J) := ⟨rfl, rfl, rfl, by decide +kernel, rfl, by decide +kernel, by decide +kernel⟩
theorem z1i {f : Addr} {fd : FuncData} (D : Df K mg "_law_stepped" z0J ["_law_state", "_law_make_here"] f fd)
    {c_Beam : Addr} (Zo : Co K mg c_Beam)
    (O_Beamstep : Om P w K mg base CX0 c_Beam "step" ["self", "make"] [] 2 (z1h c_Beam))
    (O_lawpair : Ow P w K mg base "_law_pair" ["_law_found", "_law_due"] 2 z3a) (B : Blt mg) :
    Ow P w K mg base "_law_stepped" ["_law_state", "_law_make_here"] 3 (z24 c_Beam) := by
  refine D.ow (D.F.ok sc_lawstepped (fun vs H Q E h => ?_) (fun cdv A outer s H vs Q E hr h => ?_))
  . obtain ⟨t, x, ml, tl, ts, hg, mk, m, rfl, _⟩ := h
    rfl
  obtain ⟨t, x, ml, tl, ts, hg, mk, m, rfl, SA, hn, q⟩ := h
  have h1 := SA.h1
  have h2 := SA.h2
  obtain ⟨⟨dx, fx⟩, TA⟩ := id SA.bm
  refine ⟨_, (z06 (z2z (pv 0) (z2S (n := 3) rfl (z0R (z0E (i := 2) sc_lawstepped.nd rfl (Or.inl rfl)) (z0R (z0E (i := 3) sc_lawstepped.nd rfl (Or.inl rfl)) (z0R (z0E (i := 4) sc_lawstepped.nd rfl (Or.inl rfl)) z1T)))))
    (z06 (z0z (i := 5) sc_lawstepped.nd rfl (Or.inl rfl) (z1L (z00 (z0K z0s (z08 z09 rfl B.f_len boot_len (z00 (pv 4) z03)) (pv 3)) (z00 (z0K z0d (z08 z09 rfl B.f_len boot_len (z00 (pv 4) z03)) (pv 3)) z03))))
    (z06 (z19 (z3F PySem.F.plainAttrs_list PySem.F.slot_list_append PySem.F.type_list_append z0k (pv 4) (z00 (pv 1) z03)))
    (z07 (z0F (z0M O_lawpair hr rfl (z00 (z6E O_Beamstep hr z1y (pv 2) (z00 (pv 1) z03)) (z00 (pv 5) z03)))))))), ?_⟩
  refine ⟨_, rfl, t, _, rfl, SqT.of SA.tup, rfl, _, _, rfl, _, _, rfl, _, _, rfl, rfl, ?_⟩
  walk_at "rs"
  refine ⟨ml, _, rfl, .inl (SqL.of SA.mkl), ?_⟩
  rw [List.length_map]
  walk_at "rs"
  refine ⟨ml, _, rfl, .inl (SqL.of SA.mkl), ?_⟩
  rw [List.length_map]
  walk_at "rs"
  intro v nv
  rw [show HO.tup [V.int ((mk.length : Int) / (hg : Int)), V.int ((mk.length : Int) % (hg : Int))] = HO.tup [V.int ((mk.length / hg : Nat) : Int), V.int ((mk.length % hg : Nat) : Int)] from rfl]
  have s1 := Same.new (o := .tup [.int ((mk.length / hg : Nat) : Int), .int ((mk.length % hg : Nat) : Int)]) nv
  have gv : (upd H v (.tup [.int ((mk.length / hg : Nat) : Int), .int ((mk.length % hg : Nat) : Int)])) v = some (.tup [.int ((mk.length / hg : Nat) : Int), .int ((mk.length % hg : Nat) : Int)]) := z01
  have SA1 := SA.mono s1
  walk_at "rs"
  refine ⟨.inl ⟨rfl, _, SqL.of SA1.mkl⟩, ?_⟩
  walk_at "rs"
  refine ⟨ml, _, _, rfl, rfl, SA1.mkl, by rw [List.length_map]; exact z0l (by omega), ?_⟩
  have nmx : ml ≠ x := fun e => by have := SA.mkl; rw [e, fx] at this; cases this
  have nv2 : ∀ {o : HO}, (upd (upd H v (.tup [.int ((mk.length / hg : Nat) : Int), .int ((mk.length % hg : Nat) : Int)])) ml o) v = some (.tup [.int ((mk.length / hg : Nat) : Int), .int ((mk.length % hg : Nat) : Int)]) := fun {o} => (z04 (z1P gv SA1.mkl fun z => nomatch z)).trans gv
  have e2 : ∀ {o : HO}, SameX [x, tl, ml] H (upd (upd H v (.tup [.int ((mk.length / hg : Nat) : Int), .int ((mk.length % hg : Nat) : Int)])) ml o) := fun {o} => (SameX.of s1).put (by simp)
  have gm2 : (upd (upd H v (.tup [.int ((mk.length / hg : Nat) : Int), .int ((mk.length % hg : Nat) : Int)])) ml (.lst (mk.map V.int ++ [.int m]))) ml = some (.lst ((mk ++ [m]).map V.int)) := by
    rw [z01, List.map_append]
    rfl
  have BM2 : BmAt c_Beam (upd (upd H v (.tup [.int ((mk.length / hg : Nat) : Int), .int ((mk.length % hg : Nat) : Int)])) ml (.lst (mk.map V.int ++ [.int m]))) x tl ts hg mk := by
    obtain ⟨⟨dx1, f1⟩, T1⟩ := SA1.bm
    exact ⟨⟨dx1, (z04 (Ne.symm nmx)).trans f1⟩, ⟨(z04 SA.ne).trans T1.lst, T1.len, fun i u zs a1 a2 => (z04 (z1P (T1.at' i u zs a1 a2) SA1.mkl fun z => nomatch z)).trans (T1.at' i u zs a1 a2)⟩⟩
  have gt2 : (upd (upd H v (.tup [.int ((mk.length / hg : Nat) : Int), .int ((mk.length % hg : Nat) : Int)])) ml (.lst (mk.map V.int ++ [.int m]))) t = some (.tup [.ref x, .int (hg : Int), .ref ml]) := (z04 (z1P SA1.tup SA1.mkl fun z => nomatch z)).trans SA1.tup
  have nv2' := nv2 (o := .lst (mk.map V.int ++ [.int m]))
  have e2' := e2 (o := .lst (mk.map V.int ++ [.int m]))
  obtain ⟨⟨dx2, fx2⟩, TA2⟩ := id BM2
  generalize upd (upd H v (.tup [.int ((mk.length / hg : Nat) : Int), .int ((mk.length % hg : Nat) : Int)])) ml (.lst (mk.map V.int ++ [.int m])) = H2 at gm2 BM2 gt2 nv2' e2' fx2 TA2
  walk_at "rs"
  refine ⟨x, dx2, _, rfl, fx2, rfl, _, rfl, x, tl, ts, hg, mk, m, rfl, BM2, h1, by omega, fun r ts' H3 e3 nr gr BM3 => ?_⟩
  have nt : z2I H2 [x, tl] := fun p hp xs e => by
    rcases List.mem_cons.mp hp with rfl | hp
    . rw [fx2] at e; cases e
    . rw [List.mem_singleton.mp hp, TA2.lst] at e; cases e
  walk_at "rs"
  refine ⟨r, v, ((mk.length / hg : Nat) : Int), ((mk.length % hg : Nat) : Int), rfl, gr, e3.tup nt nv2', fun H4 s4 => ?_⟩
  have gm3 : H3 ml = some (.lst ((mk ++ [m]).map V.int)) := e3 _ _ (fun z => by
    rcases List.mem_cons.mp z with z | z
    . exact nmx z
    . exact SA.ne (List.mem_singleton.mp z).symm) gm2
  refine q ts' H4 ((e2'.trans (e3.sub fun p hp => ?_)).trans (SameX.of s4)) (StAt.mono s4 ⟨e3.tup nt gt2, BM3, gm3, SA.ne, h1, h2⟩)
  rcases List.mem_cons.mp hp with rfl | hp
  . exact List.mem_cons_self
  . rw [List.mem_singleton.mp hp]
    exact List.mem_cons_of_mem _ List.mem_cons_self
theorem z2s : FnScope ["_law_cell", "_law_makes"] ["_law_cell", "_law_makes"] (z02 z0a) := ⟨rfl, rfl, rfl, by decide +kernel, rfl, by decide +kernel, by decide +kernel⟩
theorem z2t {f : Addr} {fd : FuncData} (D : Df K mg "_law_make" z0a ["_law_cell", "_law_makes"] f fd) (B : Blt mg) :
    Ow P w K mg base "_law_make" ["_law_cell", "_law_makes"] 1 z2a := by
  refine D.ow (D.F.ok z2s (fun vs H Q E h => ?_) (fun cdv A outer s H vs Q E hr h => ?_))
  . obtain ⟨c, ml, mk, rfl, _⟩ := h
    rfl
  obtain ⟨c, ml, mk, rfl, gm, q⟩ := h
  refine ⟨_, (z06 (z0i (z0N z1p (z0K z0d (z0K z0s (pv 0) z05) z05) z05 (z0S _)) (z07 (z0F (pv 0))) z0H)
    (z06 (z0i (z0N z1p (z0K z0d (z0K z0s (pv 0) z05) z05) z05 (z0S _)) (z07 (z0F (z0K z0d (z0K z0s (pv 0) z05) z05))) z0H)
    (z07 (z0F (z3e (z0N z4j (z08 z09 rfl B.f_len boot_len (z00 (pv 1) z03)) z05 (z0S _)) (z1v z0t (pv 1) (z4h z3v z05) (fun _ _ => rfl)) z05))))), ?_⟩
  walk_at "rs"
  refine z3y (fun c1 => ?_) (fun c1 => ?_)
  . walk_at "rs"
    exact q _
  walk_at "rs"
  refine z3y (fun c2 => ?_) (fun c2 => ?_)
  . walk_at "rs"
    exact q _
  walk_at "rs"
  refine ⟨ml, _, rfl, .inl (SqL.of gm), ?_⟩
  rw [List.length_map]
  walk_at "rs"
  refine z3y (fun c3 => ?_) (fun c3 => ?_)
  . have hl : 0 < mk.length := by omega
    walk_at "rs"
    refine ⟨ml, _, -1, _, rfl, rfl, SqL.of gm, z4w (v := .int (mk[mk.length - 1]'(by omega))) (by simpa using hl) (by simp [List.getElem?_eq_getElem (show mk.length - 1 < mk.length by omega)]), ?_⟩
    exact q _
  . walk_at "rs"
    exact q _
theorem sc_lawcells : FnScope ["_law_script", "_law_many", "_law_more"] ["_law_script"] (z02 z0L) := ⟨rfl, rfl, rfl, by decide +kernel, rfl, by decide +kernel, by decide +kernel⟩
theorem z2Q {f : Addr} {fd : FuncData} (D : Df K mg "_law_cells" z0L ["_law_script"] f fd)
    (O_lawdraw : Ow P w K mg base "_law_draw" ["_law_script", "_law_k", "_law_prime", "_law_many"] 1 (z2G K)) (B : Blt mg) :
    Ow P w K mg base "_law_cells" ["_law_script"] 2 (z25 K) := by
  refine D.ow (D.F.ok sc_lawcells (fun vs H Q E h => ?_) (fun cdv A outer s H vs Q E hr h => ?_))
  . obtain ⟨a, ns, rfl, _⟩ := h
    rfl
  obtain ⟨a, ns, rfl, hS, hn, q⟩ := h
  refine ⟨_, (z06 (z0z (i := 1) sc_lawcells.nd rfl (Or.inl rfl) (z0M O_lawdraw hr rfl (z00 (pv 0) (z00 z05 (z00 z05 (z00 z05 z03))))))
    (z06 (z3P (i := 2) (locs := ["_law_k"]) (ix := [0]) rfl sc_lawcells.nd rfl rfl (BlkSc.look (dsc := z02 z0L) (N := ["_law_script", "_law_many", "_law_more"]) rfl rfl (by decide +kernel)) (z1m rfl B.f_range (z00 (pv 1) z03)) (fun _ _ _ _ _ _ => (z0E (i := 0) (by decide +kernel : (["_law_k", "_law_script"] : List Str).Nodup) rfl (Or.inl rfl))) (fun _ _ _ _ _ _ => z0u) (fun _ _ _ _ _ _ => (z0M O_lawdraw hr rfl (z00 (pv 1) (z00 (z0K z1J z05 (pv 0)) (z00 z05 (z00 z05 z03)))))) rfl)
    (z07 (z0F (z1X z2D (z0K z4q (z1X z2D (pv 0) (z1W z05) (z1W z05)) (pv 2)) z3C (z1W z05)))))), ?_⟩
  walk_at "rs"
  refine ⟨a, ns, _, _, _, rfl, hS, by decide, by decide, (by decide), by decide, fun mn m0 m1 => ?_⟩
  walk_at "rs"
  refine ⟨(z3z (by omega) (by omega)).1, (z3z (by omega) (by omega)).2, ?_⟩
  refine z0v (n := mn.toNat) (fun i σ zs H2 => ∃ v ws, σ = [v, some (.ref a)] /\ zs = (ws : List Int).map V.int /\ ws.length = i /\ H2 = H) ⟨none, [], rfl, rfl, rfl, rfl⟩ (Nat.le_of_lt (z0l (by omega))) ?_ ?_ ?_ ?_ ?_
  . rintro i σ zs H2 ⟨v, ws, _, rfl, hw, _⟩
    rw [List.length_map, hw]
  . rintro σ zs H2 _
    show mn.toNat <= mn.toNat
    exact Nat.le_refl _
  . intro i σ zs H2 hi _
    show i < mn.toNat
    exact hi
  . rintro i σ zs H2 x H' Z hi ⟨v, ws, rfl, rfl, hw, rfl⟩ ⟨rfl, rfl⟩ hZ
    walk_at "rs"
    refine ⟨a, ns, _, _, _, rfl, hS, by omega, by omega, (by decide), by decide, fun z za zb => ?_⟩
    exact hZ _ _ _ ⟨_, ws ++ [z], rfl, by rw [List.map_append]; rfl, by rw [List.length_append, hw]; rfl, rfl⟩
  rintro σ zs H2 ⟨v, ws, rfl, rfl, hw, rfl⟩ lm nlm
  have s1 := Same.new (o := .lst (ws.map V.int)) nlm
  have g1 : (upd H2 lm (.lst (ws.map V.int))) lm = some (.lst (ws.map V.int)) := z01
  generalize upd H2 lm (.lst (ws.map V.int)) = H1 at s1 g1
  walk_at "rs"
  refine ⟨a, _, rfl, s1.seq hS, fun p np => ?_⟩
  have z5y : ∀ (xs : List Int) (lo hi : Option Int), ∃ ys : List Int, z2i (xs.map V.int) lo hi = ys.map V.int /\ ys.length <= xs.length := fun xs lo hi => by
    refine ⟨(xs.drop (HT.sIx (xs.map V.int).length 0 lo)).take (HT.sIx (xs.map V.int).length (xs.map V.int).length hi - HT.sIx (xs.map V.int).length 0 lo), ?_, ?_⟩
    . unfold z2i
      rw [List.map_take, List.map_drop]
    . rw [List.length_take, List.length_drop]
      omega
  obtain ⟨ys, ey, ly⟩ := z5y ns (some 2) (some 63)
  rw [ey]
  have s2 := Same.new (o := .lst (ys.map V.int)) np
  have g2 : (upd H1 p (.lst (ys.map V.int))) p = some (.lst (ys.map V.int)) := z01
  have g12 := s2 _ _ g1
  generalize upd H1 p (.lst (ys.map V.int)) = H3 at s2 g2 g12
  walk_at "rs"
  refine ⟨p, lm, _, _, rfl, rfl, g2, g12, by rw [List.length_map, List.length_map]; exact Nat.le_of_lt (z0l (by omega)), fun r nr => ?_⟩
  rw [<- List.map_append]
  walk_at "rs"
  refine ⟨r, _, rfl, SqL.of z01, fun l nl => ?_⟩
  have c61 : ∃ cs : List Int, z2i ((ys ++ ws).map V.int) none (some 61) = cs.map V.int /\ cs.length <= 61 := by
    refine ⟨(ys ++ ws).take 61, ?_, by rw [List.length_take]; omega⟩
    unfold z2i
    have e0 : HT.sIx ((ys ++ ws).map V.int).length 0 none = 0 := rfl
    have e1 : HT.sIx ((ys ++ ws).map V.int).length ((ys ++ ws).map V.int).length (some ((61 : Nat) : Int)) = min 61 ((ys ++ ws).map V.int).length := HT.sIx_nat _ _ _
    show (List.drop (HT.sIx _ 0 none) _).take (HT.sIx _ _ (some ((61 : Nat) : Int)) - HT.sIx _ 0 none) = _
    rw [e0, e1, List.drop_zero, Nat.sub_zero, List.map_take, <- List.take_eq_take_min]
  obtain ⟨cs, ec, lc⟩ := c61
  rw [ec]
  exact q l cs _ (((s1.trans s2).trans (Same.new nr)).trans (Same.new nl)) (((s1.trans s2).trans (Same.new nr)).free nl) z01 lc
theorem sc_law : FnScope ["_law_script", "_law_highs", "_law_states", "_law_told", "_law_k", "_law_cell", "_law_state", "_law_one", "_law_beside"] ["_law_script"] (z02 z14) := ⟨rfl, rfl, rfl, by decide +kernel, rfl, by decide +kernel, by decide +kernel⟩
theorem z5C {f : Addr} {fd : FuncData} (D : Df K mg "law" z14 ["_law_script"] f fd)
    {c_Beam : Addr} (Zo : Co K mg c_Beam)
    (O_Beaminit : Oc P w K mg base CX0 "Beam" c_Beam ["self", "high"] [] 1 (z1e c_Beam))
    (O_lawdraw : Ow P w K mg base "_law_draw" ["_law_script", "_law_k", "_law_prime", "_law_many"] 1 (z2G K))
    (O_lawstands : Ow P w K mg base "_law_stands" ["_law_state", "_law_told"] 3 (z2Z c_Beam))
    (O_lawstepped : Ow P w K mg base "_law_stepped" ["_law_state", "_law_make_here"] 3 (z24 c_Beam))
    (O_lawmake : Ow P w K mg base "_law_make" ["_law_cell", "_law_makes"] 1 z2a)
    (O_lawcells : Ow P w K mg base "_law_cells" ["_law_script"] 2 (z25 K)) (B : Blt mg) :
    FnOk P w K mg base CX0 4 f fd ["_law_script"] (z3m K) := by
  refine D.F.ok sc_law (fun vs H Q E h => ?_) (fun cdv A outer s H vs Q E hr h => ?_)
  . obtain ⟨a, ns, rfl, _⟩ := h
    rfl
  obtain ⟨a, ns, rfl, hS, hn, q⟩ := h
  refine ⟨_, (z06 (z0z (i := 1) sc_law.nd rfl (Or.inl rfl) (z1M (z00 (z0K z1J z05 (z0M O_lawdraw hr rfl (z00 (pv 0) (z00 z05 (z00 z05 (z00 z05 z03)))))) (z00 (z0K z1J z05 (z0M O_lawdraw hr rfl (z00 (pv 0) (z00 z05 (z00 z05 (z00 z05 z03)))))) z03))))
    (z1c (z0i (z0N z1p (z0M O_lawdraw hr rfl (z00 (pv 0) (z00 z05 (z00 z05 (z00 z05 z03))))) z05 (z0S _)) (z07 (z2z z05 (z4f (pv 1) z05 set_list))) z0H)
    (z06 (z3P (i := 2) (locs := ["_law_high"]) (ix := []) rfl sc_law.nd rfl rfl (BlkSc.look (dsc := z02 z14) (N := ["_law_script", "_law_highs", "_law_states", "_law_told", "_law_k", "_law_cell", "_law_state", "_law_one", "_law_beside"]) rfl rfl (by decide +kernel)) (z0r (pv 1)) (fun _ _ _ _ _ _ => (z0E (i := 0) (by decide +kernel : (["_law_high"] : List Str).Nodup) rfl (Or.inl rfl))) (fun _ _ _ _ _ _ => z0u) (fun _ _ _ _ _ _ => (z1L (z00 (z6F O_Beaminit hr z1y rfl (z00 (pv 0) z03)) (z00 (pv 0) (z00 (z1M z03) z03))))) rfl)
    (z06 (z0z (i := 3) sc_law.nd rfl (Or.inr rfl) (z1M z03))
    (z06 (z0i (z0h (z0g (z08 (z12 rfl) rfl B.f_all boot_all (z00 (z1G (locs := ["_law_state"]) (ix := [3]) rfl (BlkSc.look (dsc := z02 z14) (N := ["_law_script", "_law_highs", "_law_states", "_law_told", "_law_k", "_law_cell", "_law_state", "_law_one", "_law_beside"]) rfl rfl (by decide +kernel)) (z0r (pv 2)) (fun _ _ _ _ _ _ => (z0E (i := 0) (by decide +kernel : (["_law_state", "_law_told"] : List Str).Nodup) rfl (Or.inl rfl))) (fun _ _ _ _ _ _ => z0u) (fun _ _ _ _ _ _ => (z0M O_lawstands hr rfl (z00 (pv 0) (z00 (pv 1) z03))))) z03)))) (z07 (z0F z1S)) z0H)
    (z1c (z0i (z0N z1p (z0M O_lawdraw hr rfl (z00 (pv 0) (z00 z05 (z00 z05 (z00 z05 z03))))) z05 (z0S _)) (z07 (z2U PassesOwn.never rfl (z1m rfl B.f_range (z00 z05 z03)) (z0E (i := 4) sc_law.nd rfl (Or.inl rfl)) (z07 (z0i (z0h (z0g (z0M O_lawstepped hr rfl (z00 (z1v z0t (pv 2) z05 (fun _ _ => rfl)) (z00 (z0K z0s (pv 4) z05) z03))))) (z07 (z0F z1S)) z0H)))) z0H)
    (z06 (z2U PassesOwn.never rfl (z0r (z0M O_lawcells hr rfl (z00 (pv 0) z03))) (z0E (i := 5) sc_law.nd rfl (Or.inl rfl)) (z06 (z0z (i := 6) sc_law.nd rfl (Or.inl rfl) (z1v z0t (pv 2) (z0K z0d (pv 5) z05) (fun _ _ => rfl)))
    (z06 (z0i (z0h (z0g (z0M O_lawstepped hr rfl (z00 (pv 6) (z00 (z0M O_lawmake hr rfl (z00 (pv 5) (z00 (z1v z4n (pv 6) z05 (fun _ _ => rfl)) z03))) z03))))) (z07 (z0F z1S)) z0H)
    (z07 (z0i (PW.pt (z2y (z0h (z0g (z0M O_lawstands hr rfl (z00 (pv 6) (z00 (pv 3) z03))))) (z2R (z0h (z0g (z0M O_lawstands hr rfl (z00 (z1v z0t (pv 2) (z0K z3t z05 (z0K z0d (pv 5) z05)) (fun _ _ => rfl)) (z00 (pv 3) z03)))))))) (z07 (z0F z1S)) z0H)))))
    (z06 (z0i (z0h (z0g (z08 (z12 rfl) rfl B.f_all boot_all (z00 (z1G (locs := ["_law_one", "_law_beside"]) (ix := []) rfl (BlkSc.look (dsc := z02 z14) (N := ["_law_script", "_law_highs", "_law_states", "_law_told", "_law_k", "_law_cell", "_law_state", "_law_one", "_law_beside"]) rfl rfl (by decide +kernel)) (z0r (pv 3)) (fun _ _ _ _ _ _ => (z4J (n := 2) rfl (z0R (z0E (i := 0) (by decide +kernel : (["_law_one", "_law_beside"] : List Str).Nodup) rfl (Or.inl rfl)) (z0R (z0E (i := 1) (by decide +kernel : (["_law_one", "_law_beside"] : List Str).Nodup) rfl (Or.inl rfl)) z1T)))) (fun _ _ _ _ _ _ => z0u) (fun _ _ _ _ _ _ => (z1U (z41 (n := 0) (z3W hr)) (pv 0) (pv 1) (z0S _)))) z03)))) (z07 (z0F z1S)) z0H)
    (z06 (z2U PassesOwn.never rfl (z0r (pv 3)) (z2S (n := 2) rfl (z0R (z0E (i := 7) sc_law.nd rfl (Or.inl rfl)) (z0R (z0E (i := 8) sc_law.nd rfl (Or.inl rfl)) z1T))) (z07 (z19 (z3F PySem.F.plainAttrs_list PySem.F.slot_list_append PySem.F.type_list_append z0k (pv 7) (z00 z3r z03)))))
    (z07 (z0F (z08 (z12 rfl) rfl B.f_all boot_all (z00 (z1G (locs := ["_law_state"]) (ix := []) rfl (BlkSc.look (dsc := z02 z14) (N := ["_law_script", "_law_highs", "_law_states", "_law_told", "_law_k", "_law_cell", "_law_state", "_law_one", "_law_beside"]) rfl rfl (by decide +kernel)) (z0r (pv 2)) (fun _ _ _ _ _ _ => (z0E (i := 0) (by decide +kernel : (["_law_state"] : List Str).Nodup) rfl (Or.inl rfl))) (fun _ _ _ _ _ _ => z0u) (fun _ _ _ _ _ _ => (z0M O_lawstands hr rfl (z00 (pv 0) (z00 (z1M z03) z03))))) z03))))))))))))), ?_⟩
  walk_at "rs"
  refine ⟨a, ns, _, _, _, rfl, hS, by decide, by decide, (by decide), by decide, fun z1 a0 a1 => ?_⟩
  walk_at "rs"
  refine ⟨a, ns, _, _, _, rfl, hS, by decide, by decide, (by decide), by decide, fun z2 b0 b1 => ?_⟩
  walk_at "rs"
  intro hl nhl
  have s1 := Same.new (o := .lst [.int (1 + z1), .int (1 + z2)]) nhl
  have g1 : (upd H hl (.lst [.int (1 + z1), .int (1 + z2)])) hl = some (.lst [.int (1 + z1), .int (1 + z2)]) := z01
  generalize upd H hl (.lst [.int (1 + z1), .int (1 + z2)]) = H1 at s1 g1
  refine ⟨fun σ' H' => Same H H' /\ σ' = [some (.ref a), some (.ref hl), none, none, none, none, none, none, none] /\ ∃ p q : Nat, 1 <= p /\ p <= 64 /\ 1 <= q /\ q <= 64 /\ H' hl = some (.lst [.int (p : Int), .int (q : Int)]), ?_, ?_⟩
  . walk_at "rs"
    refine ⟨a, ns, _, _, _, rfl, s1.seq hS, by decide, by decide, (by decide), by decide, fun z3 c0 c1 => ?_⟩
    walk_at "rs"
    refine z3y (fun c => ?_) (fun c => ?_)
    . walk_at "rs"
      refine ⟨hl, _, 1, 1, rfl, rfl, g1, rfl, ?_⟩
      refine ⟨s1.put nhl, rfl, (1 + z1).toNat, 64, by omega, by omega, by decide, by decide, ?_⟩
      rw [z01, show (((1 + z1).toNat : Nat) : Int) = 1 + z1 by omega]
      rfl
    . refine ⟨s1, rfl, (1 + z1).toNat, (1 + z2).toNat, by omega, by omega, by omega, by omega, ?_⟩
      rw [show (((1 + z1).toNat : Nat) : Int) = 1 + z1 by omega, show (((1 + z2).toNat : Nat) : Int) = 1 + z2 by omega]
      exact g1
  rintro σ2 H2 ⟨s2, rfl, hp, hq, p1, p2, q1, q2, g2⟩
  walk_at "rs"
  refine ⟨⟨_, SqL.of g2⟩, ?_⟩
  refine z0v (n := 2) (fun i σ zs H3 => ∃ v bs, σ = [v] /\ zs = (bs : List Bs).map (fun b => V.ref b.t) /\ bs.length = i /\ Same H2 H3 /\ (bs.flatMap fun b => [b.x, b.ml, b.tl]).Nodup /\ ∀ b ∈ bs, StAt c_Beam H3 b.t b.x b.ml b.tl [] b.hg [] /\ H2 b.x = none /\ H2 b.ml = none /\ H2 b.tl = none) ⟨none, [], rfl, rfl, rfl, Same.refl _, List.nodup_nil, fun b h => nomatch h⟩ (by decide) ?_ ?_ ?_ ?_ ?_
  . rintro i σ zs H3 ⟨v, bs, _, rfl, hb, _⟩
    rw [List.length_map, hb]
  . rintro σ zs H3 ⟨v, bs, _, _, hb, s3, _⟩
    exact ⟨_, SqL.of (s3 _ _ g2), by show 2 <= 2; decide⟩
  . rintro i σ zs H3 hi ⟨v, bs, _, _, hb, s3, _⟩
    exact ⟨_, _, SqL.of (s3 _ _ g2), List.getElem?_eq_getElem (show i < ([.int (hp : Int), .int (hq : Int)] : List V).length from hi)⟩
  . rintro i σ zs H3 z H' Z hi ⟨v, bs, rfl, rfl, hb, s3, nd, BB⟩ ⟨rfl, hx⟩ hZ
    have e := hx _ (SqL.of (s3 _ _ g2))
    obtain ⟨hg, rfl, k1, k2⟩ : ∃ hg : Nat, z = .int (hg : Int) /\ 1 <= hg /\ hg <= 64 := by
      match i, hi, e with
      | 0, _, e => cases e; exact ⟨hp, rfl, p1, p2⟩
      | 1, _, e => cases e; exact ⟨hq, rfl, q1, q2⟩
    walk_at "rs"
    intro x dx nx ndx nxd
    have nx' : (upd H' dx (.own x)) x = none := (z04 (Ne.symm nxd)).trans nx
    have sF : Same H' (upd (upd H' dx (.own x)) x (.ins c_Beam dx [])) := (Same.new ndx).trans (Same.new nx')
    refine ⟨x, dx, hg, rfl, z01, fun tl H4 e4 ntl ntx BM => ⟨rfl, ?_⟩⟩
    have s4 : Same H' H4 := SameX.old (sF) e4 (fun p hp => by rw [List.mem_singleton.mp hp]; exact nx)
    have ntl' : H' tl = none := sF.free ntl
    walk_at "rs"
    intro ml nml
    have s5 := Same.new (o := .lst []) nml
    have gml : (upd H4 ml (.lst [])) ml = some (.lst []) := z01
    have BM5 := BM.mono s5
    generalize upd H4 ml (.lst []) = H5 at s5 gml BM5
    have nml' : H' ml = none := s4.free nml
    walk_at "rs"
    intro t nt
    have s6 := Same.new (o := .tup [.ref x, .int (hg : Int), .ref ml]) nt
    have t6 := (s4.trans s5).trans s6
    have nmt : tl ≠ ml := fun e => by
      have := BM.2.lst
      rw [e, nml] at this
      cases this
    have nmx : ml ≠ x := fun e => by
      obtain ⟨⟨dx', f'⟩, _⟩ := BM
      rw [<- e, nml] at f'
      cases f'
    refine hZ _ _ _ ⟨_, bs ++ [⟨t, x, ml, tl, hg⟩], rfl, by rw [List.map_append]; rfl, by rw [List.length_append, hb]; rfl, s3.trans t6, ?_, ?_⟩
    . rw [List.flatMap_append]
      refine List.nodup_append.mpr ⟨nd, ?_, ?_⟩
      . show [x, ml, tl].Nodup
        simp only [List.nodup_cons, List.mem_cons, List.not_mem_nil, or_false, not_or, List.nodup_nil, and_true, not_false_eq_true]
        grind
      . intro c hc d hd hcd
        rw [<- hcd] at hd
        obtain ⟨b, hb', hc'⟩ := List.mem_flatMap.mp hc
        obtain ⟨SA, _⟩ := BB b hb'
        have some' : ∃ o, H' c = some o := by
          simp only [List.mem_cons, List.not_mem_nil, or_false] at hc'
          rcases hc' with rfl | rfl | rfl
          . obtain ⟨_, _, z⟩ := SA.ins
            exact ⟨_, z⟩
          . exact ⟨_, SA.mkl⟩
          . exact ⟨_, SA.bm.2.lst⟩
        obtain ⟨o, ho⟩ := some'
        have hd' : c ∈ [x, ml, tl] := hd
        simp only [List.mem_cons, List.not_mem_nil, or_false] at hd'
        rcases hd' with rfl | rfl | rfl
        . rw [nx] at ho; cases ho
        . rw [nml'] at ho; cases ho
        . rw [ntl'] at ho; cases ho
    . intro b hb'
      rcases List.mem_append.mp hb' with h | h
      . exact ⟨(BB b h).1.mono t6, (BB b h).2⟩
      . rw [List.mem_singleton.mp h]
        exact ⟨⟨z01, BM5.mono s6, s6 _ _ gml, nmt, k1, k2⟩, s3.free nx, s3.free nml', s3.free ntl'⟩
  rintro σ zs H3 ⟨v, bs, rfl, rfl, hb, s3, nd, BB⟩ sl nsl
  obtain ⟨b0, b1, rfl⟩ : ∃ b0 b1, bs = [b0, b1] := match bs, hb with | [b0, b1], _ => ⟨b0, b1, rfl⟩
  obtain ⟨S0, x0n, m0n, t0n⟩ := BB b0 List.mem_cons_self
  obtain ⟨S1, x1n, m1n, t1n⟩ := BB b1 (List.mem_cons_of_mem _ List.mem_cons_self)
  have s4 := Same.new (o := .lst ([b0, b1].map fun b => V.ref b.t)) nsl
  have gsl : (upd H3 sl (.lst ([b0, b1].map fun b => V.ref b.t))) sl = some (.lst [.ref b0.t, .ref b1.t]) := z01
  have sl3 : ∀ {c : Addr} {o : HO}, H3 c = some o -> c ≠ sl := fun {c o} e z => by rw [z, nsl] at e; cases e
  obtain ⟨dx0, fs0, i0⟩ := S0.ins
  obtain ⟨dx1, fs1, i1⟩ := S1.ins
  have slF : sl ≠ b0.x /\ sl ≠ b0.ml /\ sl ≠ b0.tl /\ sl ≠ b1.x /\ sl ≠ b1.ml /\ sl ≠ b1.tl := ⟨(sl3 i0).symm, (sl3 S0.mkl).symm, (sl3 S0.bm.2.lst).symm, (sl3 i1).symm, (sl3 S1.mkl).symm, (sl3 S1.bm.2.lst).symm⟩
  have S0 := S0.mono s4
  have S1 := S1.mono s4
  generalize upd H3 sl (.lst ([b0, b1].map fun b => V.ref b.t)) = H4 at s4 gsl S0 S1
  walk_at "rs"
  intro td ntd
  have td4 : ∀ {c : Addr} {o : HO}, H4 c = some o -> c ≠ td := fun {c o} e z => by rw [z, ntd] at e; cases e
  obtain ⟨dx0', fs0', i0'⟩ := S0.ins
  obtain ⟨dx1', fs1', i1'⟩ := S1.ins
  have tdF' : td ≠ b0.x /\ td ≠ b0.ml /\ td ≠ b0.tl /\ td ≠ b1.x /\ td ≠ b1.ml /\ td ≠ b1.tl /\ td ≠ sl := ⟨(td4 i0').symm, (td4 S0.mkl).symm, (td4 S0.bm.2.lst).symm, (td4 i1').symm, (td4 S1.mkl).symm, (td4 S1.bm.2.lst).symm, (td4 gsl).symm⟩
  have s5 := Same.new (o := .lst []) ntd
  have gtd : (upd H4 td (.lst [])) td = some (.lst []) := z01
  have gsl := s5 _ _ gsl
  have S0 := S0.mono s5
  have S1 := S1.mono s5
  have ntdH : H td = none := ((s2.trans s3).trans s4).free ntd
  have nslH : H sl = none := (s2.trans s3).free nsl
  generalize upd H4 td (.lst []) = H5 at s5 gtd gsl S0 S1
  have t5 := ((s2.trans s3).trans s4).trans s5
  obtain ⟨F, hF⟩ : ∃ F, F = [b0.x, b0.ml, b0.tl, b1.x, b1.ml, b1.tl, td, sl] := ⟨_, rfl⟩
  have FR : Fr H b0 b1 td sl F := by
    have nd' : [b0.x, b0.ml, b0.tl, b1.x, b1.ml, b1.tl].Nodup := nd
    refine ⟨?_, fun p => by rw [hF], fun p hp => ?_⟩
    . simp only [List.nodup_cons, List.mem_cons, List.not_mem_nil, or_false, not_or, List.nodup_nil, and_true, not_false_eq_true] at nd' ⊢
      grind
    . rw [hF] at hp
      simp only [List.mem_cons, List.not_mem_nil, or_false] at hp
      rcases hp with rfl | rfl | rfl | rfl | rfl | rfl | rfl | rfl
      . exact s2.free x0n
      . exact s2.free m0n
      . exact s2.free t0n
      . exact s2.free x1n
      . exact s2.free m1n
      . exact s2.free t1n
      . exact ntdH
      . exact nslH
  have tdF : td ∈ F := by rw [hF]; simp
  have W5 : Wd c_Beam H H5 b0 b1 td sl [.ref b0.t, .ref b1.t] F [] [] [] := ⟨t5, ⟨_, S0⟩, ⟨_, S1⟩, ⟨gtd, (fun p h => nomatch h), (fun p h => nomatch h), (fun p h => nomatch h), (fun p h => nomatch h)⟩, gsl⟩
  walk_at "rs"
  refine ⟨⟨_, SqL.of W5.sl'⟩, ?_⟩
  refine z0v (n := 2) (fun i σ zs H6 => ∃ v ps, σ = [v, some (.ref td)] /\ zs = (List.replicate i true).map V.bl /\ ps.length = i /\ Wd c_Beam H H6 b0 b1 td sl [.ref b0.t, .ref b1.t] F [] [] ps) ⟨none, [], rfl, rfl, rfl, W5⟩ (by decide) ?_ ?_ ?_ ?_ ?_
  . rintro i σ zs H6 ⟨v, ps, _, rfl, _⟩
    rw [List.length_map, List.length_replicate]
  . rintro σ zs H6 ⟨v, ps, _, _, _, W6⟩
    exact ⟨_, SqL.of W6.sl', by show 2 <= 2; decide⟩
  . rintro i σ zs H6 hi ⟨v, ps, _, _, _, W6⟩
    exact ⟨_, _, SqL.of W6.sl', List.getElem?_eq_getElem (show i < ([.ref b0.t, .ref b1.t] : List V).length from hi)⟩
  . rintro i σ zs H6 z H' Z hi ⟨v, ps, rfl, rfl, hps, W6⟩ ⟨rfl, hx⟩ hZ
    have e := hx _ (SqL.of W6.sl')
    have fin : ∀ (p : Pr) (H7 : Hp), Wd c_Beam H H7 b0 b1 td sl [.ref b0.t, .ref b1.t] F [] [] (ps ++ [p]) -> ∃ v' ps', [some z, some (V.ref td)] = [v', some (V.ref td)] /\ (List.replicate i true).map V.bl ++ [V.bl true] = (List.replicate (i + 1) true).map V.bl /\ ps'.length = i + 1 /\ Wd c_Beam H H7 b0 b1 td sl [.ref b0.t, .ref b1.t] F [] [] ps' := fun p H7 W7 => ⟨_, _, rfl, by rw [List.replicate_succ', List.map_append]; rfl, by rw [List.length_append, hps]; rfl, W7⟩
    have hz : z = .ref b0.t \/ z = .ref b1.t := by
      match i, hi, e with
      | 0, _, e => cases e; exact .inl rfl
      | 1, _, e => cases e; exact .inr rfl
    walk_at "rs"
    rcases hz with rfl | rfl
    . obtain ⟨ts0, SA⟩ := W6.s0
      refine ⟨b0.t, td, b0.x, b0.ml, b0.tl, ts0, b0.hg, [], F, ps, rfl, SA, by decide, W6.td', by omega, tdF, fun p hp => let ⟨o, e, _⟩ := W6.ex FR p hp; ⟨o, e⟩, fun p7 H7 e7 T7 => ?_⟩
      exact hZ _ _ _ (fin p7 H7 (W6.stand FR e7 T7).1)
    . obtain ⟨ts1, SA⟩ := W6.s1
      refine ⟨b1.t, td, b1.x, b1.ml, b1.tl, ts1, b1.hg, [], F, ps, rfl, SA, by decide, W6.td', by omega, tdF, fun p hp => let ⟨o, e, _⟩ := W6.ex FR p hp; ⟨o, e⟩, fun p7 H7 e7 T7 => ?_⟩
      exact hZ _ _ _ (fin p7 H7 (W6.stand FR e7 T7).1)
  rintro σ zs H6 ⟨v, ps2, rfl, rfl, hps2, W6⟩ l' hl'
  refine ⟨l', List.replicate 2 true, rfl, SqL.of z01, _, rfl, z2E rfl ?_⟩
  have W7 := W6.mono (Same.new (o := .lst ((List.replicate 2 true).map V.bl)) hl')
  generalize upd H6 l' (.lst ((List.replicate 2 true).map V.bl)) = H7 at W7
  refine ⟨fun σ' H' => ∃ v4 mk0, σ' = [some (.ref a), some (.ref hl), some (.ref sl), some (.ref td), v4, none, none, none, none] /\ Wd c_Beam H H' b0 b1 td sl [.ref b0.t, .ref b1.t] F mk0 [] ps2 /\ mk0.length <= 150, ?_, ?_⟩
  . walk_at "rs"
    refine ⟨a, ns, _, _, _, rfl, W7.same.seq hS, by decide, by decide, (by decide), by decide, fun z4 _ _ => ?_⟩
    walk_at "rs"
    refine z3y (fun c => ?_) (fun c => ?_)
    . walk_at "rs"
      refine ⟨(z3z (by decide) (by decide)).1, (z3z (by decide) (by decide)).2, ?_⟩
      refine z1o (n := ((150 : Int)).toNat) (fun k σ H8 => ∃ v4 mk0, σ = [some (.ref a), some (.ref hl), some (.ref sl), some (.ref td), v4, none, none, none, none] /\ Wd c_Beam H H8 b0 b1 td sl [.ref b0.t, .ref b1.t] F mk0 [] ps2 /\ mk0.length = k) ⟨none, [], rfl, W7, rfl⟩ ?_ ?_
      . rintro k σ H8 hk ⟨v4, mk0, rfl, W8, hm⟩
        have hk' : k < 150 := hk
        obtain ⟨ts0, SA⟩ := W8.s0
        walk_at "rs"
        refine ⟨sl, _, 0, _, rfl, rfl, SqL.of W8.sl', rfl, ?_⟩
        walk_at "rs"
        refine ⟨b0.t, b0.x, b0.ml, b0.tl, ts0, b0.hg, mk0, _, rfl, SA, by omega, fun ts' H9 e9 SA9 => ?_⟩
        obtain ⟨W9, _⟩ := W8.step FR e9 SA9
        walk_at "rs"
        exact ⟨_, _, rfl, W9, by rw [List.length_append, hm]; rfl⟩
      . rintro σ H8 ⟨v4, mk0, rfl, W8, hm⟩
        exact ⟨_, _, rfl, W8, by rw [hm]; decide⟩
    . exact ⟨_, _, rfl, W7, by decide⟩
  rintro σ8 H8 ⟨v4, mk0, rfl, W8, hm0⟩
  walk_at "rs"
  refine ⟨a, ns, rfl, W8.same.seq hS, hn, fun cl cs H9 s9 ncl gcl hcs => ?_⟩
  have W9 := W8.mono s9
  have nclF : cl ∉ F := fun hF' => by
    obtain ⟨o, e, _⟩ := W8.ex FR cl hF'
    rw [ncl] at e
    cases e
  walk_at "rs"
  refine ⟨⟨_, SqL.of gcl⟩, ?_⟩
  refine z2V (K := K) (a := cl) (xs := cs.map V.int) (fun k σ H6 => ∃ v4 v5 v6 mk0 mk1 ps, σ = [some (.ref a), some (.ref hl), some (.ref sl), some (.ref td), v4, v5, v6, none, none] /\ Wd c_Beam H H6 b0 b1 td sl [.ref b0.t, .ref b1.t] F mk0 mk1 ps /\ H6 cl = some (.lst (cs.map V.int)) /\ mk0.length <= 150 + k /\ mk1.length <= 150 + k /\ ps.length <= 2 + 2 * k) ⟨v4, none, none, mk0, [], ps2, rfl, W9, gcl, by omega, by decide, by omega⟩ (fun k σ H6 _ ⟨_, _, _, _, _, _, _, _, g, _⟩ => SqL.of g) ?_ ?_
  . rintro k v σ H6 hk ⟨v4, v5, v6, mk0, mk1, ps, rfl, WL, gcl, h0, h1, h2⟩
    have hkl : k < cs.length := by
      have := (List.getElem?_eq_some_iff.mp hk).1
      rwa [List.length_map] at this
    rw [List.getElem?_map, List.getElem?_eq_getElem hkl] at hk
    cases hk
    have hr01 : cs[k] % 2 = 0 \/ cs[k] % 2 = 1 := by omega
    rcases hr01 with hr | hr
    . walk_at "rs"
      refine ⟨sl, _, _, _, rfl, rfl, SqL.of WL.sl', (by rw [hr]; rfl), ?_⟩
      walk_at "rs"
      obtain ⟨tsA, SA⟩ := (WL).s0
      refine ⟨b0.t, _, 2, _, rfl, rfl, SqT.of SA.tup, rfl, ?_⟩
      walk_at "rs"
      refine ⟨cs[k], b0.ml, _, rfl, SA.mkl, fun m => ?_⟩
      walk_at "rs"
      refine ⟨b0.t, b0.x, b0.ml, b0.tl, tsA, b0.hg, _, m, rfl, SA, by omega, fun ts' H8 e8 SA8 => ?_⟩
      obtain ⟨W8, f8⟩ := (WL).step FR e8 SA8
      walk_at "rs"
      obtain ⟨ts8, S8⟩ := W8.s0
      refine ⟨b0.t, td, b0.x, b0.ml, b0.tl, ts8, b0.hg, _, F, ps, rfl, S8, by rw [List.length_append]; show _ + 1 <= 1000; omega, W8.td', by omega, tdF, fun p hp => let ⟨o, e, _⟩ := W8.ex FR p hp; ⟨o, e⟩, fun p9 H9 e9 T9 => ?_⟩
      obtain ⟨W9, f9⟩ := W8.stand FR e9 T9
      walk_at "rs"
      refine ⟨sl, _, _, _, rfl, rfl, SqL.of W9.sl', (by rw [hr]; rfl), ?_⟩
      walk_at "rs"
      obtain ⟨ts9, S9⟩ := W9.s1
      refine ⟨b1.t, td, b1.x, b1.ml, b1.tl, ts9, b1.hg, _, F, _, rfl, S9, by omega, W9.td', by rw [List.length_append]; show _ + 1 <= 900; omega, tdF, fun p hp => let ⟨o, e, _⟩ := W9.ex FR p hp; ⟨o, e⟩, fun p10 H10 e10 T10 => ?_⟩
      obtain ⟨W10, f10⟩ := W9.stand FR e10 T10
      have f := (f8.trans f9).trans f10
      walk_at "rs"
      refine ⟨_, _, _, _, _, _, rfl, W10, f _ _ nclF gcl, ?_, ?_, ?_⟩
      . first
          | omega
          | (simp only [List.length_append, List.length_cons, List.length_nil]; omega)
      . first
          | omega
          | (simp only [List.length_append, List.length_cons, List.length_nil]; omega)
      . first
          | omega
          | (simp only [List.length_append, List.length_cons, List.length_nil]; omega)
    . walk_at "rs"
      refine ⟨sl, _, _, _, rfl, rfl, SqL.of WL.sl', (by rw [hr]; rfl), ?_⟩
      walk_at "rs"
      obtain ⟨tsA, SA⟩ := (WL.swap).s0
      refine ⟨b1.t, _, 2, _, rfl, rfl, SqT.of SA.tup, rfl, ?_⟩
      walk_at "rs"
      refine ⟨cs[k], b1.ml, _, rfl, SA.mkl, fun m => ?_⟩
      walk_at "rs"
      refine ⟨b1.t, b1.x, b1.ml, b1.tl, tsA, b1.hg, _, m, rfl, SA, by omega, fun ts' H8 e8 SA8 => ?_⟩
      obtain ⟨W8, f8⟩ := (WL.swap).step FR.swap e8 SA8
      walk_at "rs"
      obtain ⟨ts8, S8⟩ := W8.s0
      refine ⟨b1.t, td, b1.x, b1.ml, b1.tl, ts8, b1.hg, _, F, ps, rfl, S8, by rw [List.length_append]; show _ + 1 <= 1000; omega, W8.td', by omega, tdF, fun p hp => let ⟨o, e, _⟩ := W8.ex FR.swap p hp; ⟨o, e⟩, fun p9 H9 e9 T9 => ?_⟩
      obtain ⟨W9, f9⟩ := W8.stand FR.swap e9 T9
      walk_at "rs"
      refine ⟨sl, _, _, _, rfl, rfl, SqL.of W9.sl', (by rw [hr]; rfl), ?_⟩
      walk_at "rs"
      obtain ⟨ts9, S9⟩ := W9.s1
      refine ⟨b0.t, td, b0.x, b0.ml, b0.tl, ts9, b0.hg, _, F, _, rfl, S9, by omega, W9.td', by rw [List.length_append]; show _ + 1 <= 900; omega, tdF, fun p hp => let ⟨o, e, _⟩ := W9.ex FR.swap p hp; ⟨o, e⟩, fun p10 H10 e10 T10 => ?_⟩
      obtain ⟨W10, f10⟩ := W9.stand FR.swap e10 T10
      have f := (f8.trans f9).trans f10
      walk_at "rs"
      refine ⟨_, _, _, _, _, _, rfl, W10.swap, f _ _ nclF gcl, ?_, ?_, ?_⟩
      . first
          | omega
          | (simp only [List.length_append, List.length_cons, List.length_nil]; omega)
      . first
          | omega
          | (simp only [List.length_append, List.length_cons, List.length_nil]; omega)
      . first
          | omega
          | (simp only [List.length_append, List.length_cons, List.length_nil]; omega)
  . rintro σ H6 ⟨v4, v5, v6, mk0, mk1, ps, rfl, WL, gcl, h0, h1, h2⟩
    rw [List.length_map] at h0 h1 h2
    have TD := WL.td'
    walk_at "rs"
    refine ⟨⟨_, SqL.of TD.lst⟩, ?_⟩
    refine z0v (n := ps.length) (fun i σ zs H7 => ∃ v1 v2, σ = [v1, v2] /\ zs = (List.replicate i true).map V.bl /\ H7 = H6) ⟨none, none, rfl, rfl, rfl⟩ (Nat.le_of_lt (z0l (by omega))) ?_ ?_ ?_ ?_ ?_
    . rintro i σ zs H7 ⟨v1, v2, _, rfl, _⟩
      rw [List.length_map, List.length_replicate]
    . rintro σ zs H7 ⟨v1, v2, _, _, rfl⟩
      exact ⟨_, SqL.of TD.lst, by rw [List.length_map]; exact Nat.le_refl _⟩
    . rintro i σ zs H7 hi ⟨v1, v2, _, _, rfl⟩
      exact ⟨_, .ref (ps[i]).t, SqL.of TD.lst, by rw [List.getElem?_map, List.getElem?_eq_getElem hi]; rfl⟩
    . rintro i σ zs H7 z H' Z hi ⟨v1, v2, rfl, rfl, rfl⟩ ⟨rfl, hx⟩ hZ
      have e := hx _ (SqL.of TD.lst)
      rw [List.getElem?_map, List.getElem?_eq_getElem hi] at e
      cases e
      have hm := List.getElem_mem hi
      refine ⟨_, _, rfl, SqT.of (TD.tup _ hm), rfl, _, _, rfl, _, _, rfl, rfl, ?_⟩
      walk_at "rs"
      refine ⟨EqT.copy (TD.a _ hm).1 (TD.b _ hm).1 (fun x hx => by obtain ⟨u, _, rfl⟩ := List.mem_map.mp hx; exact Sc.ref u), ?_⟩
      refine hZ _ _ _ ⟨_, _, rfl, ?_, rfl⟩
      rw [List.replicate_succ', List.map_append]
      rfl
    rintro σ zs H7 ⟨v1, v2, rfl, rfl, rfl⟩ l2 nl2
    refine ⟨l2, List.replicate ps.length true, rfl, SqL.of z01, _, rfl, z2E (by simp) ?_⟩
    have W8 := WL.mono (Same.new (o := .lst ((List.replicate ps.length true).map V.bl)) nl2)
    generalize upd H7 l2 (.lst ((List.replicate ps.length true).map V.bl)) = H8 at W8
    have TD8 := W8.td'
    walk_at "rs"
    refine ⟨⟨_, SqL.of TD8.lst⟩, ?_⟩
    refine z2V (K := K) (a := td) (xs := ps.map fun p => V.ref p.t) (fun k σ H9 => ∃ v4 v5 v6 v7 v8, σ = [some (.ref a), some (.ref hl), some (.ref sl), some (.ref td), v4, v5, v6, v7, v8] /\ H9 td = some (.lst (ps.map fun p => V.ref p.t)) /\ H9 sl = some (.lst [.ref b0.t, .ref b1.t]) /\ (∃ ts, StAt c_Beam H9 b0.t b0.x b0.ml b0.tl ts b0.hg mk0) /\ (∃ ts, StAt c_Beam H9 b1.t b1.x b1.ml b1.tl ts b1.hg mk1) /\ (∀ p ∈ ps, H9 p.t = some (.tup [.ref p.a, .ref p.b])) /\ ∀ p ∈ ps, ∃ xs, H9 p.a = some (.lst xs) /\ xs.length <= 1000 + k) ⟨_, _, _, none, none, rfl, TD8.lst, W8.sl', W8.s0, W8.s1, TD8.tup, fun p hp => ⟨_, (TD8.a p hp).1, by rw [List.length_map]; exact TD8.sz p hp⟩⟩ (fun k σ H9 _ ⟨_, _, _, _, _, _, g, _⟩ => SqL.of g) ?_ ?_
    . rintro k v σ H9 hk ⟨v4, v5, v6, v7, v8, rfl, g1', g2', ⟨ts0, A0⟩, ⟨ts1, A1⟩, tu, al⟩
      have hkl : k < ps.length := by
        have := (List.getElem?_eq_some_iff.mp hk).1
        rwa [List.length_map] at this
      rw [List.getElem?_map, List.getElem?_eq_getElem hkl] at hk
      cases hk
      have hm := List.getElem_mem hkl
      obtain ⟨xs, gxs, lxs⟩ := al _ hm
      have naF := (TD8.a _ hm).2
      refine ⟨_, _, rfl, SqT.of (tu _ hm), rfl, _, _, rfl, _, _, rfl, rfl, ?_⟩
      walk_at "rs"
      refine ⟨.inl ⟨rfl, _, SqL.of gxs⟩, ?_⟩
      walk_at "rs"
      refine ⟨_, _, _, rfl, rfl, gxs, Nat.lt_of_lt_of_le (show xs.length < 5000 by omega) (by decide), ?_⟩
      have eX : SameX [(ps[k]).a] H9 (upd H9 (ps[k]).a (.lst (xs ++ [.non]))) := (SameX.of (Same.refl _)).put List.mem_cons_self
      have nT : z2I H9 [(ps[k]).a] := fun p hp ys e => by
        rw [List.mem_singleton.mp hp, gxs] at e
        cases e
      have notin : ∀ c, c ∈ F -> c ∉ [(ps[k]).a] := fun c hc z => naF (by rw [<- List.mem_singleton.mp z]; exact hc)
      have inF : ∀ c, c ∈ [b0.x, b0.ml, b0.tl, b1.x, b1.ml, b1.tl, td, sl] -> c ∈ F := fun c hc => (FR.mem c).mpr hc
      refine ⟨_, _, _, _, _, rfl, eX _ _ (notin _ tdF) g1', eX _ _ (notin _ (inF _ (by simp))) g2', ⟨ts0, A0.keep eX nT (notin _ (inF _ (by simp))) (notin _ (inF _ (by simp))) (notin _ (inF _ (by simp)))⟩, ⟨ts1, A1.keep eX nT (notin _ (inF _ (by simp))) (notin _ (inF _ (by simp))) (notin _ (inF _ (by simp)))⟩, fun p hp => eX.tup nT (tu p hp), fun p hp => ?_⟩
      by_cases ea : p.a = (ps[k]).a
      . exact ⟨_, by rw [ea]; exact z01, by rw [List.length_append]; show _ + 1 <= _; omega⟩
      . obtain ⟨ys, gy, ly⟩ := al p hp
        exact ⟨ys, (z04 ea).trans gy, by omega⟩
    . rintro σ H9 ⟨v4, v5, v6, v7, v8, rfl, g1', g2', ⟨ts0, A0⟩, ⟨ts1, A1⟩, _⟩
      walk_at "rs"
      refine ⟨⟨_, SqL.of g2'⟩, ?_⟩
      refine z0v (n := 2) (fun i σ zs H10 => ∃ v, σ = [v] /\ zs = (List.replicate i true).map V.bl /\ Same H9 H10) ⟨none, rfl, rfl, Same.refl _⟩ (by decide) ?_ ?_ ?_ ?_ ?_
      . rintro i σ zs H10 ⟨v, _, rfl, _⟩
        rw [List.length_map, List.length_replicate]
      . rintro σ zs H10 ⟨v, _, _, s10⟩
        exact ⟨_, SqL.of (s10 _ _ g2'), by show 2 <= 2; decide⟩
      . rintro i σ zs H10 hi ⟨v, _, _, s10⟩
        exact ⟨_, _, SqL.of (s10 _ _ g2'), List.getElem?_eq_getElem (show i < ([.ref b0.t, .ref b1.t] : List V).length from hi)⟩
      . rintro i σ zs H10 z H' Z hi ⟨v, rfl, rfl, s10⟩ ⟨rfl, hx⟩ hZ
        have e := hx _ (SqL.of (s10 _ _ g2'))
        have hz : z = .ref b0.t \/ z = .ref b1.t := by
          match i, hi, e with
          | 0, _, e => cases e; exact .inl rfl
          | 1, _, e => cases e; exact .inr rfl
        walk_at "rs"
        intro tn ntn
        have sn := Same.new (o := .lst []) ntn
        have TDn : TdAt (upd H' tn (.lst [])) tn [tn] [] := ⟨z01, (fun p h => nomatch h), (fun p h => nomatch h), (fun p h => nomatch h), (fun p h => nomatch h)⟩
        have exn : ∀ p ∈ [tn], ∃ o, (upd H' tn (.lst [])) p = some o := fun p hp => ⟨.lst [], by rw [List.mem_singleton.mp hp]; exact z01⟩
        have fin : ∀ H11 : Hp, SameX [tn] (upd H' tn (.lst [])) H11 -> ∃ v', [some z] = [v'] /\ (List.replicate i true).map V.bl ++ [V.bl true] = (List.replicate (i + 1) true).map V.bl /\ Same H9 H11 := fun H11 e11 => ⟨_, rfl, by rw [List.replicate_succ', List.map_append]; rfl, s10.trans (SameX.old sn e11 fun p hp => by rw [List.mem_singleton.mp hp]; exact ntn)⟩
        rcases hz with rfl | rfl
        . exact ⟨b0.t, tn, b0.x, b0.ml, b0.tl, ts0, b0.hg, mk0, [tn], [], rfl, (A0.mono s10).mono sn, by omega, TDn, by decide, List.mem_cons_self, exn, fun p11 H11 e11 _ => hZ _ _ _ (fin H11 e11)⟩
        . exact ⟨b1.t, tn, b1.x, b1.ml, b1.tl, ts1, b1.hg, mk1, [tn], [], rfl, (A1.mono s10).mono sn, by omega, TDn, by decide, List.mem_cons_self, exn, fun p11 H11 e11 _ => hZ _ _ _ (fin H11 e11)⟩
      rintro σ zs H10 ⟨v, rfl, rfl, s10⟩ l3 nl3
      refine ⟨l3, List.replicate 2 true, rfl, SqL.of z01, ?_⟩
      exact q _
end
theorem all_mk {l : PySem.W.OpenLaw} {w : World} {K : PySem.W.Frag} {h : Heap} {mg : Str -> Option Value} {fa f1 f2 f3 f4 f5 f6 f7 f8 f9 f10 f11 f12 f13 f14 : Addr} (X : K.In h) (G : h.Ns mainGlobals mg) (hfa : mg "law" = some (.ref fa))
    {c_Beam : Addr}
    {od1 an1 : Option Addr} {sl1 : Array (Option Value)} {oc1 kV1 dc1 pm1 cd1 ct1 : Value}
    {od2 an2 : Option Addr} {sl2 : Array (Option Value)} {oc2 kV2 dc2 pm2 cd2 ct2 : Value}
    {od3 an3 : Option Addr} {sl3 : Array (Option Value)} {oc3 kV3 dc3 pm3 cd3 ct3 : Value}
    {od4 an4 : Option Addr} {sl4 : Array (Option Value)} {oc4 kV4 dc4 pm4 cd4 ct4 : Value}
    {od5 an5 : Option Addr} {sl5 : Array (Option Value)} {oc5 kV5 dc5 pm5 cd5 ct5 : Value}
    {od6 an6 : Option Addr} {sl6 : Array (Option Value)} {oc6 kV6 dc6 pm6 cd6 ct6 : Value}
    {od7 an7 : Option Addr} {sl7 : Array (Option Value)} {oc7 kV7 dc7 pm7 cd7 ct7 : Value}
    {od8 an8 : Option Addr} {sl8 : Array (Option Value)} {oc8 kV8 dc8 pm8 cd8 ct8 : Value}
    {od9 an9 : Option Addr} {sl9 : Array (Option Value)} {oc9 kV9 dc9 pm9 cd9 ct9 : Value}
    {od10 an10 : Option Addr} {sl10 : Array (Option Value)} {oc10 kV10 dc10 pm10 cd10 ct10 : Value}
    {od11 an11 : Option Addr} {sl11 : Array (Option Value)} {oc11 kV11 dc11 pm11 cd11 ct11 : Value}
    {od12 an12 : Option Addr} {sl12 : Array (Option Value)} {oc12 kV12 dc12 pm12 cd12 ct12 : Value}
    {od13 an13 : Option Addr} {sl13 : Array (Option Value)} {oc13 kV13 dc13 pm13 cd13 ct13 : Value}
    {od14 an14 : Option Addr} {sl14 : Array (Option Value)} {oc14 kV14 dc14 pm14 cd14 ct14 : Value}
    (cm_Beam : PySem.W.nsIn K mainGlobals "Beam" = some (some (.ref c_Beam))) (pg_Beam : PySem.W.plainGet K c_Beam Str.empty = true) (hd_Beam : PySem.W.hasDictIn K c_Beam = true) (po_Beam : PySem.W.plainOver K c_Beam = true) (sa_Beam : PySem.W.findIn K (.ref c_Beam) "__setattr__" = some (some (.builtin "object.__setattr__"))) (mk_Beam : PySem.W.makesIn K c_Beam = true) (kc_Beam : PySem.W.keepIn K (.ref c_Beam) = true)
    (na_Beam_high : PySem.W.findIn K (.ref c_Beam) "high" = some none)
    (na_Beam_turn : PySem.W.findIn K (.ref c_Beam) "turn" = some none)
    (na_Beam_row : PySem.W.findIn K (.ref c_Beam) "row" = some none)
    (na_Beam_make : PySem.W.findIn K (.ref c_Beam) "make" = some none)
    (na_Beam_tears : PySem.W.findIn K (.ref c_Beam) "tears" = some none)
    (a1 : PySem.W.findIn K (.ref c_Beam) "__init__" = some (some (.ref f1))) (l1 : K.lookup f1 = some ⟨oc1, od1, .func (PySem.W.fnOf "__init__" "Beam.__init__" (z0C z0U) (z0B z0U) (z02 z0U) .none kV1 dc1 pm1 an1 cd1 ct1), sl1⟩) (c1 : PySem.W.codeIn K cd1 "Beam.__init__" = true) (k1 : PySem.W.keepIn K (.ref f1) = true)
    (i1 : PySem.W.isFn K (.ref f1) = true)
    (a2 : PySem.W.findIn K (.ref c_Beam) "ahead" = some (some (.ref f2))) (l2 : K.lookup f2 = some ⟨oc2, od2, .func (PySem.W.fnOf "ahead" "Beam.ahead" (z0C z0O) (z0B z0O) (z02 z0O) .none kV2 dc2 pm2 an2 cd2 ct2), sl2⟩) (c2 : PySem.W.codeIn K cd2 "Beam.ahead" = true) (k2 : PySem.W.keepIn K (.ref f2) = true)
    (i2 : PySem.W.isFn K (.ref f2) = true)
    (a3 : PySem.W.findIn K (.ref c_Beam) "rests" = some (some (.ref f3))) (l3 : K.lookup f3 = some ⟨oc3, od3, .func (PySem.W.fnOf "rests" "Beam.rests" (z0C z0P) (z0B z0P) (z02 z0P) .none kV3 dc3 pm3 an3 cd3 ct3), sl3⟩) (c3 : PySem.W.codeIn K cd3 "Beam.rests" = true) (k3 : PySem.W.keepIn K (.ref f3) = true)
    (i3 : PySem.W.isFn K (.ref f3) = true)
    (a4 : PySem.W.findIn K (.ref c_Beam) "step" = some (some (.ref f4))) (l4 : K.lookup f4 = some ⟨oc4, od4, .func (PySem.W.fnOf "step" "Beam.step" (z0C z0V) (z0B z0V) (z02 z0V) .none kV4 dc4 pm4 an4 cd4 ct4), sl4⟩) (c4 : PySem.W.codeIn K cd4 "Beam.step" = true) (k4 : PySem.W.keepIn K (.ref f4) = true)
    (i4 : PySem.W.isFn K (.ref f4) = true)
    (a5 : PySem.W.findIn K (.ref c_Beam) "torn" = some (some (.ref f5))) (l5 : K.lookup f5 = some ⟨oc5, od5, .func (PySem.W.fnOf "torn" "Beam.torn" (z0C z0W) (z0B z0W) (z02 z0W) .none kV5 dc5 pm5 an5 cd5 ct5), sl5⟩) (c5 : PySem.W.codeIn K cd5 "Beam.torn" = true) (k5 : PySem.W.keepIn K (.ref f5) = true)
    (i5 : PySem.W.isFn K (.ref f5) = true)
    (a6 : PySem.W.nsIn K mainGlobals "_law_draw" = some (some (.ref f6))) (l6 : K.lookup f6 = some ⟨oc6, od6, .func (PySem.W.fnOf "_law_draw" "_law_draw" (z0C z0Y) (z0B z0Y) (z02 z0Y) .none kV6 dc6 pm6 an6 cd6 ct6), sl6⟩) (c6 : PySem.W.codeIn K cd6 "_law_draw" = true) (k6 : PySem.W.keepIn K (.ref f6) = true)
    (a7 : PySem.W.nsIn K mainGlobals "_law_whole" = some (some (.ref f7))) (l7 : K.lookup f7 = some ⟨oc7, od7, .func (PySem.W.fnOf "_law_whole" "_law_whole" (z0C z0Q) (z0B z0Q) (z02 z0Q) .none kV7 dc7 pm7 an7 cd7 ct7), sl7⟩) (c7 : PySem.W.codeIn K cd7 "_law_whole" = true) (k7 : PySem.W.keepIn K (.ref f7) = true)
    (a8 : PySem.W.nsIn K mainGlobals "_law_pair" = some (some (.ref f8))) (l8 : K.lookup f8 = some ⟨oc8, od8, .func (PySem.W.fnOf "_law_pair" "_law_pair" (z0C z0T) (z0B z0T) (z02 z0T) .none kV8 dc8 pm8 an8 cd8 ct8), sl8⟩) (c8 : PySem.W.codeIn K cd8 "_law_pair" = true) (k8 : PySem.W.keepIn K (.ref f8) = true)
    (a9 : PySem.W.nsIn K mainGlobals "_law_torn" = some (some (.ref f9))) (l9 : K.lookup f9 = some ⟨oc9, od9, .func (PySem.W.fnOf "_law_torn" "_law_torn" (z0C z0Z) (z0B z0Z) (z02 z0Z) .none kV9 dc9 pm9 an9 cd9 ct9), sl9⟩) (c9 : PySem.W.codeIn K cd9 "_law_torn" = true) (k9 : PySem.W.keepIn K (.ref f9) = true)
    (a10 : PySem.W.nsIn K mainGlobals "_law_stands" = some (some (.ref f10))) (l10 : K.lookup f10 = some ⟨oc10, od10, .func (PySem.W.fnOf "_law_stands" "_law_stands" (z0C z0I) (z0B z0I) (z02 z0I) .none kV10 dc10 pm10 an10 cd10 ct10), sl10⟩) (c10 : PySem.W.codeIn K cd10 "_law_stands" = true) (k10 : PySem.W.keepIn K (.ref f10) = true)
    (a11 : PySem.W.nsIn K mainGlobals "_law_stepped" = some (some (.ref f11))) (l11 : K.lookup f11 = some ⟨oc11, od11, .func (PySem.W.fnOf "_law_stepped" "_law_stepped" (z0C z0J) (z0B z0J) (z02 z0J) .none kV11 dc11 pm11 an11 cd11 ct11), sl11⟩) (c11 : PySem.W.codeIn K cd11 "_law_stepped" = true) (k11 : PySem.W.keepIn K (.ref f11) = true)
    (a12 : PySem.W.nsIn K mainGlobals "_law_make" = some (some (.ref f12))) (l12 : K.lookup f12 = some ⟨oc12, od12, .func (PySem.W.fnOf "_law_make" "_law_make" (z0C z0a) (z0B z0a) (z02 z0a) .none kV12 dc12 pm12 an12 cd12 ct12), sl12⟩) (c12 : PySem.W.codeIn K cd12 "_law_make" = true) (k12 : PySem.W.keepIn K (.ref f12) = true)
    (a13 : PySem.W.nsIn K mainGlobals "_law_cells" = some (some (.ref f13))) (l13 : K.lookup f13 = some ⟨oc13, od13, .func (PySem.W.fnOf "_law_cells" "_law_cells" (z0C z0L) (z0B z0L) (z02 z0L) .none kV13 dc13 pm13 an13 cd13 ct13), sl13⟩) (c13 : PySem.W.codeIn K cd13 "_law_cells" = true) (k13 : PySem.W.keepIn K (.ref f13) = true)
    (a14 : PySem.W.nsIn K mainGlobals "law" = some (some (.ref f14))) (l14 : K.lookup f14 = some ⟨oc14, od14, .func (PySem.W.fnOf "law" "law" (z0C z14) (z0B z14) (z02 z14) .none kV14 dc14 pm14 an14 cd14 ct14), sl14⟩) (c14 : PySem.W.codeIn K cd14 "law" = true) (k14 : PySem.W.keepIn K (.ref f14) = true)
    (z1 : PySem.W.nsIn K mainGlobals "len" = some none)
    (z2 : PySem.W.nsIn K mainGlobals "range" = some none)
    (z3 : PySem.W.nsIn K mainGlobals "isinstance" = some none)
    (z4 : PySem.W.nsIn K mainGlobals "int" = some none)
    (z5 : PySem.W.nsIn K mainGlobals "bool" = some none)
    (z6 : PySem.W.nsIn K mainGlobals "list" = some none)
    (z7 : PySem.W.nsIn K mainGlobals "tuple" = some none)
    (z8 : PySem.W.nsIn K mainGlobals "all" = some none)
    : ∃ fd : FuncData, (∀ (s : Shared) (v : Value), BindsTo s fd ⟨[v], []⟩ [("_law_script", v)]) /\ ∀ base : Heap, K.In base -> base.Ns mainGlobals mg -> FnOk l.prog w K mg base CX0 4 fa fd ["_law_script"] (z3m K) := by
  have e := hfa.symm.trans (PySem.W.mg_of X G a14)
  cases e
  have B : Blt mg := ⟨PySem.W.mg_none_of X G z1, PySem.W.mg_none_of X G z2, PySem.W.mg_none_of X G z3, PySem.W.mg_none_of X G z4, PySem.W.mg_none_of X G z5, PySem.W.mg_none_of X G z6, PySem.W.mg_none_of X G z7, PySem.W.mg_none_of X G z8⟩
  have Zo : Co K mg c_Beam := ⟨PySem.W.mg_of X G cm_Beam, ⟨pg_Beam, hd_Beam, po_Beam, sa_Beam⟩, na_Beam_high, na_Beam_turn, na_Beam_row, na_Beam_make, na_Beam_tears⟩
  have F1 := z0b (st := z0U) l1 c1 k1
  have F2 := z0b (st := z0O) l2 c2 k2
  have F3 := z0b (st := z0P) l3 c3 k3
  have F4 := z0b (st := z0V) l4 c4 k4
  have F5 := z0b (st := z0W) l5 c5 k5
  have F6 := z0b (st := z0Y) l6 c6 k6
  have D6 : Df K mg "_law_draw" z0Y ["_law_script", "_law_k", "_law_prime", "_law_many"] _ _ := ⟨F6, F6.binds (ps := ["_law_script", "_law_k", "_law_prime", "_law_many"]) fun _ _ _ _ _ _ us hl => match us, hl with | [_, _, _, _], _ => rfl, PySem.W.mg_of X G a6⟩
  have F7 := z0b (st := z0Q) l7 c7 k7
  have D7 : Df K mg "_law_whole" z0Q ["_law_found"] _ _ := ⟨F7, F7.binds (ps := ["_law_found"]) fun _ _ _ _ _ _ us hl => match us, hl with | [_], _ => rfl, PySem.W.mg_of X G a7⟩
  have F8 := z0b (st := z0T) l8 c8 k8
  have D8 : Df K mg "_law_pair" z0T ["_law_found", "_law_due"] _ _ := ⟨F8, F8.binds (ps := ["_law_found", "_law_due"]) fun _ _ _ _ _ _ us hl => match us, hl with | [_, _], _ => rfl, PySem.W.mg_of X G a8⟩
  have F9 := z0b (st := z0Z) l9 c9 k9
  have D9 : Df K mg "_law_torn" z0Z ["_law_makes", "_law_high"] _ _ := ⟨F9, F9.binds (ps := ["_law_makes", "_law_high"]) fun _ _ _ _ _ _ us hl => match us, hl with | [_, _], _ => rfl, PySem.W.mg_of X G a9⟩
  have F10 := z0b (st := z0I) l10 c10 k10
  have D10 : Df K mg "_law_stands" z0I ["_law_state", "_law_told"] _ _ := ⟨F10, F10.binds (ps := ["_law_state", "_law_told"]) fun _ _ _ _ _ _ us hl => match us, hl with | [_, _], _ => rfl, PySem.W.mg_of X G a10⟩
  have F11 := z0b (st := z0J) l11 c11 k11
  have D11 : Df K mg "_law_stepped" z0J ["_law_state", "_law_make_here"] _ _ := ⟨F11, F11.binds (ps := ["_law_state", "_law_make_here"]) fun _ _ _ _ _ _ us hl => match us, hl with | [_, _], _ => rfl, PySem.W.mg_of X G a11⟩
  have F12 := z0b (st := z0a) l12 c12 k12
  have D12 : Df K mg "_law_make" z0a ["_law_cell", "_law_makes"] _ _ := ⟨F12, F12.binds (ps := ["_law_cell", "_law_makes"]) fun _ _ _ _ _ _ us hl => match us, hl with | [_, _], _ => rfl, PySem.W.mg_of X G a12⟩
  have F13 := z0b (st := z0L) l13 c13 k13
  have D13 : Df K mg "_law_cells" z0L ["_law_script"] _ _ := ⟨F13, F13.binds (ps := ["_law_script"]) fun _ _ _ _ _ _ us hl => match us, hl with | [_], _ => rfl, PySem.W.mg_of X G a13⟩
  have F14 := z0b (st := z14) l14 c14 k14
  have D14 : Df K mg "law" z14 ["_law_script"] _ _ := ⟨F14, F14.binds (ps := ["_law_script"]) fun _ _ _ _ _ _ us hl => match us, hl with | [_], _ => rfl, PySem.W.mg_of X G a14⟩
  refine ⟨PySem.W.fnOf "law" "law" (z0C z14) (z0B z14) (z02 z14) .none kV14 dc14 pm14 an14 cd14 ct14, fun s v => .of_eq rfl, fun base _ _ => ?_⟩
  have Ff1 := z2M (P := l.prog) (w := w) (base := base) Zo  F1 B
  have O_Beaminit : Oc l.prog w K mg base CX0 "Beam" c_Beam ["self", "high"] [] 1 (z1e c_Beam) := ⟨f1, _, _, PySem.W.mg_of X G cm_Beam, ⟨mk_Beam, a1, i1, kc_Beam⟩, F1.binds (ps := ["self", "high"]) fun _ _ _ _ _ _ us hl => match us, hl with | [_, _], _ => rfl, .nil, Ff1⟩
  have Ff2 := z27 (P := l.prog) (w := w) (base := base) Zo  F2 B
  have O_Beamahead : Om l.prog w K mg base CX0 c_Beam "ahead" ["self"] [] 1 (z1f c_Beam) := ⟨f2, _, _, Zo.k_Beam, ⟨a2, i2, k2⟩, F2.binds (ps := ["self"]) fun _ _ _ _ _ _ us hl => match us, hl with | [_], _ => rfl, .nil, Ff2⟩
  have Ff3 := z29 (P := l.prog) (w := w) (base := base) Zo  F3 B
  have O_Beamrests : Om l.prog w K mg base CX0 c_Beam "rests" ["self"] [] 1 (z1g c_Beam) := ⟨f3, _, _, Zo.k_Beam, ⟨a3, i3, k3⟩, F3.binds (ps := ["self"]) fun _ _ _ _ _ _ us hl => match us, hl with | [_], _ => rfl, .nil, Ff3⟩
  have Ff4 := z2N (P := l.prog) (w := w) (base := base) Zo O_Beamahead O_Beamrests F4 B
  have O_Beamstep : Om l.prog w K mg base CX0 c_Beam "step" ["self", "make"] [] 2 (z1h c_Beam) := ⟨f4, _, _, Zo.k_Beam, ⟨a4, i4, k4⟩, F4.binds (ps := ["self", "make"]) fun _ _ _ _ _ _ us hl => match us, hl with | [_, _], _ => rfl, .nil, Ff4⟩
  have Ff5 := z2P (P := l.prog) (w := w) (base := base) Zo  F5 B
  have O_Beamtorn : Om l.prog w K mg base CX0 c_Beam "torn" ["self"] [] 1 (z3Z c_Beam) := ⟨f5, _, _, Zo.k_Beam, ⟨a5, i5, k5⟩, F5.binds (ps := ["self"]) fun _ _ _ _ _ _ us hl => match us, hl with | [_], _ => rfl, .nil, Ff5⟩
  have O_lawdraw := z2o (P := l.prog) (w := w) (base := base) D6  B
  have O_lawwhole := z2K (P := l.prog) (w := w) (base := base) D7  B
  have O_lawpair := z2q (P := l.prog) (w := w) (base := base) D8 O_lawwhole B
  have O_lawtorn := z2r (P := l.prog) (w := w) (base := base) D9  B
  have O_lawstands := z2A (P := l.prog) (w := w) (base := base) D10 Zo O_Beamahead O_Beamrests O_Beamtorn O_lawpair O_lawtorn B
  have O_lawstepped := z1i (P := l.prog) (w := w) (base := base) D11 Zo O_Beamstep O_lawpair B
  have O_lawmake := z2t (P := l.prog) (w := w) (base := base) D12  B
  have O_lawcells := z2Q (P := l.prog) (w := w) (base := base) D13 O_lawdraw B
  exact z5C D14 Zo O_Beaminit O_lawdraw O_lawstands O_lawstepped O_lawmake O_lawcells B
theorem walk {l : PySem.W.OpenLaw} {q : Program} {loose : List Str} {XP : (Str -> Option Value) -> Heap -> Prop} {YP : World -> Heap -> Prop} {d : DefRec} {K : Params -> PySem.W.Frag} (hn : l.most = some 63) (hdf : d.params.defaults = [])
    (hY : ∀ (w : World) (h : Heap), YP w h -> (K w.params).In h)
    (F : ∀ (w : World) (mg : Str -> Option Value) (fa : Addr) (h : Heap), (K w.params).In h -> h.Ns mainGlobals mg -> mg d.name = some (.ref fa) ->
      ∃ fd : FuncData, (∀ (s : Shared) (u : Value), BindsTo s fd ⟨[u], []⟩ [("_law_script", u)]) /\ ∀ base : Heap, (K w.params).In base -> base.Ns mainGlobals mg -> FnOk l.prog w (K w.params) mg base CX0 4 fa fd ["_law_script"] (z3m (K w.params))) :
    PySem.W.WalkO q loose XP YP l.row.toRowW d [] (fun f vs => PySem.call f vs) :=
  L2.walk_of (n := 63) (k := 4) (x := "_law_script") (CX := fun _ => CX0) (sp := fun w => z3m (K w.params)) hn (by decide) hdf ⟨rfl, by decide, by decide⟩ hY F (fun _ _ a ns hl _ hS => ⟨a, ns, rfl, hS, hl, fun _ => rfl⟩) fun _ _ _ _ _ z => z
end K53
namespace PySem.W.Fast
theorem tw1452156202366488628 : True := trivial
theorem tw6093260689746656417 : True := trivial
theorem tw5438366407446077524 : True := trivial
theorem tw6028781748550052536 : True := trivial
theorem tw2817535240697951449 : True := trivial
theorem tw5793823664805859612 : True := trivial
theorem tw10470774474355554782 : True := trivial
end PySem.W.Fast
open PySem PySem.W PyProof.Rows
set_option maxRecDepth 100000 in
set_option maxHeartbeats 0 in
theorem PySem.Challenge.cw_glowboard_k53_whole_beams_holds : PySem.Challenge.rw_glowboard_k53_whole_beams.Holds := by
  w_on; o_law; k_head; (case hw => w_witness2)
  k_fill
  refine K53.walk (l := PySem.Challenge.rw_glowboard_k53_whole_beams) rfl rfl (fun w h Y => PySem.W.kIn_of Y) ?F
  case F =>
    intro w mg fa h KX G hmg
    refine' K53.all_mk KX G hmg ?cm_Beam ?pg_Beam ?hd_Beam ?po_Beam ?sa_Beam ?mk_Beam ?kc_Beam ?na_Beam_high ?na_Beam_turn ?na_Beam_row ?na_Beam_make ?na_Beam_tears ?a1 ?l1 ?c1 ?k1 ?i1 ?a2 ?l2 ?c2 ?k2 ?i2 ?a3 ?l3 ?c3 ?k3 ?i3 ?a4 ?l4 ?c4 ?k4 ?i4 ?a5 ?l5 ?c5 ?k5 ?i5 ?a6 ?l6 ?c6 ?k6 ?a7 ?l7 ?c7 ?k7 ?a8 ?l8 ?c8 ?k8 ?a9 ?l9 ?c9 ?k9 ?a10 ?l10 ?c10 ?k10 ?a11 ?l11 ?c11 ?k11 ?a12 ?l12 ?c12 ?k12 ?a13 ?l13 ?c13 ?k13 ?a14 ?l14 ?c14 ?k14 ?z1 ?z2 ?z3 ?z4 ?z5 ?z6 ?z7 ?z8
    (case cm_Beam => k_is); (case pg_Beam => k_is); (case hd_Beam => k_is); (case po_Beam => k_is)
    (case sa_Beam => k_is); (case mk_Beam => k_is); (case kc_Beam => k_is); (case na_Beam_high => k_is)
    (case na_Beam_turn => k_is); (case na_Beam_row => k_is); (case na_Beam_make => k_is); (case na_Beam_tears => k_is)
    (case a1 => k_is); (case l1 => k_is); (case c1 => k_is); (case k1 => k_is)
    (case i1 => k_is); (case a2 => k_is); (case l2 => k_is); (case c2 => k_is)
    (case k2 => k_is); (case i2 => k_is); (case a3 => k_is); (case l3 => k_is)
    (case c3 => k_is); (case k3 => k_is); (case i3 => k_is); (case a4 => k_is)
    (case l4 => k_is); (case c4 => k_is); (case k4 => k_is); (case i4 => k_is)
    (case a5 => k_is); (case l5 => k_is); (case c5 => k_is); (case k5 => k_is)
    (case i5 => k_is); (case a6 => k_is); (case l6 => k_is); (case c6 => k_is)
    (case k6 => k_is); (case a7 => k_is); (case l7 => k_is); (case c7 => k_is)
    (case k7 => k_is); (case a8 => k_is); (case l8 => k_is); (case c8 => k_is)
    (case k8 => k_is); (case a9 => k_is); (case l9 => k_is); (case c9 => k_is)
    (case k9 => k_is); (case a10 => k_is); (case l10 => k_is); (case c10 => k_is)
    (case k10 => k_is); (case a11 => k_is); (case l11 => k_is); (case c11 => k_is)
    (case k11 => k_is); (case a12 => k_is); (case l12 => k_is); (case c12 => k_is)
    (case k12 => k_is); (case a13 => k_is); (case l13 => k_is); (case c13 => k_is)
    (case k13 => k_is); (case a14 => k_is); (case l14 => k_is); (case c14 => k_is)
    (case k14 => k_is); (case z1 => k_is); (case z2 => k_is); (case z3 => k_is)
    (case z4 => k_is); (case z5 => k_is); (case z6 => k_is); (case z7 => k_is)
    (case z8 => k_is)
#print axioms PySem.Challenge.cw_glowboard_k53_whole_beams_holds