import PyProof.Rows.All
import Wide.All
import OpenK.AllK
import Wide.FinOn
import Lean
import PyProof.EqAt
import PyProof.EqKinds
import PyProof.TupleCall
import PySem.Challenge.RW_glowboard_k41_where_goers_are
set_option Elab.async false
set_option linter.all false
set_option maxRecDepth 100000
namespace L2
open PySem PySem.Spec PyProof.Rows
abbrev Key := Sum Int Str
def z4x : Key -> Value -> Bool
  | .inl k, v => Value.isInt k v
  | .inr x, v => Value.isStrOf x v
def z7Q (w : World) : Key -> Int
  | .inl k => hashInt k
  | .inr x => hashStr w x
theorem z0L : ∀ {k : Key} {v : Value}, z4x k v = true -> (∃ i t, k = Sum.inl i /\ v = Value.int i t) \/ (∃ x t, k = Sum.inr x /\ v = Value.str x t)
  | .inl i, v, h => by
    obtain ⟨t, e⟩ := Value.isInt_shape (k := i) (v := v) h
    exact .inl ⟨i, t, rfl, e⟩
  | .inr x, v, h => by
    obtain ⟨t, e⟩ := Value.isStrOf_shape (x := x) (v := v) h
    exact .inr ⟨x, t, rfl, e⟩
theorem z4y (a b : Int) : decide ((Sum.inl a : Key) = Sum.inl b) = (a == b) := by
  by_cases e : a = b
  . subst e; simp
  . have h : ¬ (Sum.inl a : Key) = Sum.inl b := fun q => e (Sum.inl.inj q)
    rw [decide_eq_false h]
    exact (beq_eq_false_iff_ne.mpr e).symm
theorem z4z (a b : Str) : decide ((Sum.inr a : Key) = Sum.inr b) = decide (a = b) := by
  by_cases e : a = b
  . subst e; simp
  . have h : ¬ (Sum.inr a : Key) = Sum.inr b := fun q => e (Sum.inr.inj q)
    rw [decide_eq_false h, decide_eq_false e]
theorem z50 (a : Int) (b : Str) : decide ((Sum.inl a : Key) = Sum.inr b) = false := decide_eq_false (fun q => nomatch q)
theorem z51 (a : Str) (b : Int) : decide ((Sum.inr a : Key) = Sum.inl b) = false := decide_eq_false (fun q => nomatch q)
def z2a (prog : Program) (w : World) : PySem.KeyKind prog w Key where
  is := z4x
  hash := z7Q w
  inj := fun v a b ha hb => by
    rcases z0L ha with ⟨i, t, rfl, rfl⟩ | ⟨x, t, rfl, rfl⟩
    . rcases z0L hb with ⟨j, u, rfl, e⟩ | ⟨y, u, rfl, e⟩
      . injection e with e1 _; rw [e1]
      . exact nomatch e
    . rcases z0L hb with ⟨j, u, rfl, e⟩ | ⟨y, u, rfl, e⟩
      . exact nomatch e
      . injection e with e1 _; rw [e1]
  byValue := fun k v h => by
    rcases z0L h with ⟨i, t, rfl, rfl⟩ | ⟨x, t, rfl, rfl⟩ <;> rfl
  pyHash := fun hv h => by
    rcases z0L hv with ⟨i, t, rfl, rfl⟩ | ⟨x, t, rfl, rfl⟩
    . exact wpAny_pyHash_int h
    . exact wpAny_pyHash_str h
  eqBool := fun hu hv h => by
    rcases z0L hu with ⟨i, t, rfl, rfl⟩ | ⟨x, t, rfl, rfl⟩
    . rcases z0L hv with ⟨j, u, rfl, rfl⟩ | ⟨y, u, rfl, rfl⟩
      . rw [z4y] at h; exact wpAny_eqBool_int h
      . rw [z50] at h; exact SeqAt.EqAt.int_str i t y u _ _ _ _ h
    . rcases z0L hv with ⟨j, u, rfl, rfl⟩ | ⟨y, u, rfl, rfl⟩
      . rw [z51] at h; exact SeqAt.EqAt.str_int x t j u _ _ _ _ h
      . rw [z4z] at h; exact wpAny_eqBool_str h
  «strs» := fun k x t v h => by
    rcases z0L h with ⟨i, u, rfl, e⟩ | ⟨y, u, rfl, e⟩
    . exact nomatch e
    . injection e with e1 _
      subst e1
      cases v <;> rfl
inductive V where
  | non | bl (b : Bool) | int (i : Int) | str (x : Str) | byt (b : Array UInt8) | flt (b : UInt64) | ref (a : Addr) | ty (n : String)
  deriving DecidableEq
def RelV : V -> Value -> Prop
  | .non, u => u = Value.none
  | .bl b, u => u = Value.bool b
  | .int i, u => ∃ t, u = Value.int i t
  | .str x, u => ∃ t, u = Value.str x t
  | .byt b, u => ∃ t, u = Value.bytes b t
  | .flt b, u => ∃ t, u = Value.float b t
  | .ref a, u => u = Value.ref a
  | .ty n, u => u = Value.type n
abbrev Vals : List V -> List Value -> Prop := Paired RelV
theorem Vals.length {xs : List V} {us : List Value} (r : Vals xs us) : xs.length = us.length := Paired.length r
theorem Vals.get : ∀ {xs : List V} {us : List Value} {i : Nat} {x : V}, Vals xs us -> xs[i]? = some x -> ∃ u, us[i]? = some u /\ RelV x u
  | _, _, _, _, .nil, e => by simp at e
  | _, _, 0, _, .cons r _, e => by simp at e; subst e; exact ⟨_, rfl, r⟩
  | _, _, i + 1, x, .cons _ t, e => by
    obtain ⟨u, h1, h2⟩ := Vals.get (i := i) (x := x) t (by simpa using e)
    exact ⟨u, by simpa using h1, h2⟩
theorem Vals.set {x : V} {u : Value} (r : RelV x u) : ∀ {xs : List V} {us : List Value} (i : Nat), Vals xs us -> Vals (xs.set i x) (us.set i u)
  | _, _, _, .nil => .nil
  | _, _, 0, .cons _ t => .cons r t
  | _, _, i + 1, .cons q t => .cons q (Vals.set r i t)
theorem Vals.append : ∀ {xs ys : List V} {us ws : List Value}, Vals xs us -> Vals ys ws -> Vals (xs ++ ys) (us ++ ws)
  | _, _, _, _, .nil, s => s
  | _, _, _, _, .cons r t, s => .cons r (Vals.append t s)
theorem Vals.take : ∀ {xs : List V} {us : List Value} (n : Nat), Vals xs us -> Vals (xs.take n) (us.take n)
  | _, _, 0, _ => .nil
  | _, _, _ + 1, .nil => .nil
  | _, _, n + 1, .cons r t => .cons r (Vals.take n t)
theorem Vals.drop : ∀ {xs : List V} {us : List Value} (n : Nat), Vals xs us -> Vals (xs.drop n) (us.drop n)
  | _, _, 0, r => r
  | _, _, _ + 1, .nil => .nil
  | _, _, n + 1, .cons _ t => Vals.drop n t
def RelO : Option V -> Option Value -> Prop
  | some v, some u => RelV v u
  | none, none => True
  | _, _ => False
def KV {κ : Type} : List (κ × V) -> List (κ × Value) -> Prop := Paired fun (p : κ × V) (q : κ × Value) => p.1 = q.1 /\ RelV p.2 q.2
def kV : Key -> V
  | .inl i => .int i
  | .inr x => .str x
inductive HO where
  | lst (xs : List V)
  | tup (xs : List V)
  | dK (kvs : List (Key × V)) | dT (kvs : List (List Key × V))
  | set (S : Int -> Bool) (n : Nat)
  | ins (C dx : Addr) (fs : List (Str × V))
  | own (x : Addr)
  | xd (fs : List (Str × V))
  | met (f x : Addr)
  | rng (lo hi : Int)
  | frz (o : Obj) (u : HO)
  | tbl (ps : Array Value)
  | ext (φ : Heap -> Prop)
abbrev Hp := Addr -> Option HO
def upd (H : Hp) (a : Addr) (o : HO) : Hp := fun b => if b = a then some o else H b
theorem z05 {H : Hp} {a : Addr} {o : HO} : upd H a o a = some o := by unfold upd; rw [if_pos rfl]
theorem z07 {H : Hp} {a b : Addr} {o : HO} (h : b ≠ a) : upd H a o b = H b := by unfold upd; rw [if_neg h]
theorem z2b {H : Hp} {a : Addr} {o u : HO} : upd (upd H a o) a u = upd H a u := by
  funext b; unfold upd; split <;> rfl
theorem z0M {H : Hp} {a b : Addr} {o : HO} (h : H a = some o) (h' : H b = none) : a ≠ b := by
  intro e; subst e; rw [h] at h'; cases h'
section
variable (P : Program) (w : World)
def ObjOk (H : Hp) (h : Heap) (a : Addr) : HO -> Prop
  | .lst xs => xs.length <= sizeLine /\ ∃ (its : List Value) (n : Nat), Vals xs its /\ h.get? a = some { cls := .type "list", data := .seq its.toArray n }
  | .tup xs => xs.length <= sizeLine /\ ∃ its : List Value, Vals xs its /\ IsTup h a its.toArray
  | .dK kvs => kvs.length <= sizeLine /\ (a == sysModules) = false /\ ∃ vs, KV kvs vs /\ h.DictOf (z2a P w) a vs
  | .dT kvs => kvs.length <= sizeLine /\ (a == sysModules) = false /\ ∃ xs : List (List Key × Addr × Value),
      Paired (fun (p : List Key × V) (q : List Key × Addr × Value) => p.1 = q.1 /\ H q.2.1 = some (.tup (p.1.map kV)) /\ RelV p.2 q.2.2) kvs xs /\
      ∃ o es ep, h.get? a = some o /\ o.ExactDict /\ o.data = .dict es ep /\ es.toList = xs.map (entryOfKey (tupleKind (z2a P w))) /\ (xs.map (·.1)).Nodup
  | .set S n => h.SetOf (intKind P w) a S n
  | .ins C dx fs => H dx = some (.own a) /\ fs.length <= 1000 /\ dx ≠ a /\ h.get? a = some (PySem.W.instObj C dx) /\
      ∃ mA, h.Ns1 dx mA /\ (∀ f, RelO (fs.lookup f) (mA f)) /\ PySem.Within mA (fs.map (·.1))
  | .own _ => ∃ o, h.get? a = some o
  | .xd fs => ∃ mA, h.Ns1 a mA /\ ∀ f, RelO (fs.lookup f) (mA f)
  | .rng lo hi => ∃ t u v, h.get? a = some { cls := .type "range", data := .fields #[.int lo t, .int hi u, .int 1 v] }
  | .frz o u => h.get? a = some o /\ ObjOk H h a u
  | .tbl ps => h.get? a = some { cls := .none, data := .fields ps }
  | .met f x => h.get? a = some (PySem.W.methodObj (.ref f) (.ref x))
  | .ext φ => φ h /\ (∃ o, h.get? a = some o) /\ ∀ h1 h2 : Heap, φ h1 -> (∀ o, h1.get? a = some o -> h2.get? a = some o) -> φ h2
def HOk (H : Hp) (h : Heap) : Prop := ∀ a o, H a = some o -> ObjOk P w H h a o
end
section
variable {P : Program} {w : World} {H H' : Hp} {h h' : Heap} {a : Addr} {o : HO}
theorem ObjOk.lt (x : ObjOk P w H h a o) : a < h.objs.size := by
  cases o with
  | lst xs => obtain ⟨_, _, _, _, e⟩ := x; exact Heap.lt_size e
  | tup xs => obtain ⟨_, _, _, p⟩ := x; exact p.lt
  | dK kvs => obtain ⟨_, _, _, _, o, _, _, e, _⟩ := x; exact Heap.lt_size e
  | dT kvs => obtain ⟨_, _, _, _, o, _, _, e, _⟩ := x; exact Heap.lt_size e
  | set S n => obtain ⟨o, _, _, _, e, _⟩ := x; exact Heap.lt_size e
  | ins C dx fs => obtain ⟨_, _, _, e, _⟩ := x; exact Heap.lt_size e
  | own y => obtain ⟨_, e⟩ := x; exact Heap.lt_size e
  | xd fs => obtain ⟨_, ⟨_, _, _, e, _⟩, _⟩ := x; exact Heap.lt_size e
  | rng lo hi => obtain ⟨_, _, _, e⟩ := x; exact Heap.lt_size e
  | frz ob u => obtain ⟨e, _⟩ := x; exact Heap.lt_size e
  | tbl ps => exact Heap.lt_size (show h.get? a = some _ from x)
  | met f y => exact Heap.lt_size (show h.get? a = some _ from x)
  | ext φ => obtain ⟨_, ⟨_, e⟩, _⟩ := x; exact Heap.lt_size e
theorem Paired.mapP {α β : Type} {F G : α -> β -> Prop} : ∀ {l₁ : List α} {l₂ : List β}, Paired F l₁ l₂ -> (∀ a b, F a b -> G a b) -> Paired G l₁ l₂
  | _, _, .nil, _ => .nil
  | _, _, .cons r t, f => .cons (f _ _ r) (Paired.mapP t f)
theorem ObjOk.stay (x : ObjOk P w H h a o) (k : ∀ b u, (b = a \/ H b = some (.own a)) -> h.get? b = some u -> h'.get? b = some u)
    (ho : ∀ b, H b = some (.own a) -> H' b = some (.own a)) (ht : ∀ b xs, H b = some (.tup xs) -> H' b = some (.tup xs)) : ObjOk P w H' h' a o := by
  induction o with
  | lst xs => obtain ⟨z, its, n, r, e⟩ := x; exact ⟨z, its, n, r, k _ _ (.inl rfl) e⟩
  | tup xs => obtain ⟨z, its, r, ob, e, c⟩ := x; exact ⟨z, its, r, ob, k _ _ (.inl rfl) e, c⟩
  | dK kvs => obtain ⟨z, y, vs, r, ob, es, ep, e, c⟩ := x; exact ⟨z, y, vs, r, ob, es, ep, k _ _ (.inl rfl) e, c⟩
  | dT kvs =>
    obtain ⟨z, y, xs, r, ob, es, ep, e, c⟩ := x
    exact ⟨z, y, xs, Paired.mapP r fun p q z => ⟨z.1, ht _ _ z.2.1, z.2.2⟩, ob, es, ep, k _ _ (.inl rfl) e, c⟩
  | set S n => obtain ⟨ob, es, ep, t, e, c⟩ := x; exact ⟨ob, es, ep, t, k _ _ (.inl rfl) e, c⟩
  | ins C dx fs =>
    obtain ⟨d, z, ne, e, mA, ⟨od, es, ep, e2, c⟩, r⟩ := x
    exact ⟨ho _ d, z, ne, k _ _ (.inl rfl) e, mA, ⟨od, es, ep, k _ _ (.inr d) e2, c⟩, r⟩
  | own y => obtain ⟨ob, e⟩ := x; exact ⟨ob, k _ _ (.inl rfl) e⟩
  | xd fs => obtain ⟨mA, ⟨od, es, ep, e, c⟩, r⟩ := x; exact ⟨mA, ⟨od, es, ep, k _ _ (.inl rfl) e, c⟩, r⟩
  | rng lo hi => obtain ⟨t, u, v, e⟩ := x; exact ⟨t, u, v, k _ _ (.inl rfl) e⟩
  | frz ob u ih => obtain ⟨e, q⟩ := x; exact ⟨k _ _ (.inl rfl) e, ih q⟩
  | tbl ps =>
    have e : h.get? a = some { cls := .none, data := .fields ps } := x
    show h'.get? a = some { cls := .none, data := .fields ps }
    exact k a _ (.inl rfl) e
  | met f y =>
    have e : h.get? a = some (PySem.W.methodObj (.ref f) (.ref y)) := x
    show h'.get? a = some (PySem.W.methodObj (.ref f) (.ref y))
    exact k a _ (.inl rfl) e
  | ext φ => obtain ⟨p, ⟨o, e⟩, st⟩ := x; exact ⟨st _ _ p fun o q => k _ _ (.inl rfl) q, ⟨o, k _ _ (.inl rfl) e⟩, st⟩
theorem HOk.lt (x : HOk P w H h) (e : H a = some o) : a < h.objs.size := (x a o e).lt
theorem HOk.fresh (x : HOk P w H h) (e : h.objs.size <= a) : H a = none := by
  cases q : H a with
  | none => rfl
  | some u => exact absurd (Nat.lt_of_lt_of_le (x.lt q) e) (Nat.lt_irrefl _)
theorem HOk.kept (x : HOk P w H h) (k : ∀ b u, h.get? b = some u -> h'.get? b = some u) : HOk P w H h' := fun a o e =>
  (x a o e).stay (fun b u _ q => k b u q) (fun _ q => q) fun _ _ q => q
theorem HOk.laid (x : HOk P w H h) (k : ∀ b u, h.get? b = some u -> h'.get? b = some u) (hp : h.objs.size <= a) (new : ObjOk P w (upd H a o) h' a o) : HOk P w (upd H a o) h' := fun b u e => by
  have hn := x.fresh hp
  by_cases hb : b = a
  . subst hb; rw [z05] at e; cases e; exact new
  . rw [z07 hb] at e
    exact (x b u e).stay (fun c v _ q => k c v q) (fun c q => by rw [z07 (z0M q hn)]; exact q) fun c xs q => by rw [z07 (z0M q hn)]; exact q
end
def Rd (H : Hp) (a : Addr) (u : HO) : Prop := H a = some u \/ ∃ o, H a = some (.frz o u)
theorem Rd.of {H : Hp} {a : Addr} {u : HO} (h : H a = some u) : Rd H a u := .inl h
theorem Rd.ok {P : Program} {w : World} {H : Hp} {h : Heap} {a : Addr} {u : HO} (r : Rd H a u) (x : HOk P w H h) : ObjOk P w H h a u := by
  rcases r with r | ⟨o, r⟩
  . exact x a u r
  . obtain ⟨_, q⟩ := x a _ r
    exact q
def Mut : Option HO -> Prop
  | some (.lst _) => True
  | some (.dK _) => True
  | some (.dT _) => True
  | some (.set _ _) => True
  | some (.ins _ _ _) => True
  | some (.ext _) => True
  | _ => False
section
variable {P : Program} {w : World} {H : Hp} {h h' : Heap} {x e : Addr} {o' : HO}
theorem HOk.write (ok : HOk P w H h) (mu : Mut (H x)) (he : e = x \/ H e = some (.own x)) (k : ∀ b u, b ≠ e -> h.get? b = some u -> h'.get? b = some u) (heo : ∃ u, h'.get? e = some u)
    (new : ObjOk P w (upd H x o') h' x o') : HOk P w (upd H x o') h' := fun b u q => by
  have nown : ∀ c y, H c = some (.own y) -> c ≠ x := fun c y r z => by subst z; rw [r] at mu; exact mu
  have ntup : ∀ c xs, H c = some (.tup xs) -> c ≠ x := fun c xs r z => by subst z; rw [r] at mu; exact mu
  by_cases hb : b = x
  . subst hb; rw [z05] at q; cases q; exact new
  . rw [z07 hb] at q
    by_cases hbe : b = e
    . have q' : H b = some (.own x) := by
        rcases he with z | z
        . exact absurd (hbe.trans z) hb
        . rw [hbe]; exact z
      rw [q] at q'; cases q'
      obtain ⟨v, hv⟩ := heo
      exact ⟨v, by rw [hbe]; exact hv⟩
    . refine (ok b u q).stay (fun c v hc r => k c v ?_ r) (fun c r => by rw [z07 (nown c b r)]; exact r) fun c xs r => by rw [z07 (ntup c xs r)]; exact r
      rcases hc with rfl | hc
      . exact hbe
      . rintro rfl
        rcases he with z | z
        . exact nown c b hc z
        . rw [hc] at z; cases z; exact hb rfl
end
structure Un (fs ex : List Addr) (H H' : Hp) (h h' : Heap) : Prop where
  keep : ∀ b o, h.get? b = some o -> H b = none -> b ∉ fs -> b ∉ ex -> h'.get? b = some o
  slot : ∀ b o, h.get? b = some o -> H b = none -> b ∈ fs -> b ∉ ex -> ∃ sl, h'.get? b = some { o with slots := sl }
  free : ∀ b o, h.get? b = some o -> H b = none -> b ∉ ex -> H' b = none
  there : ∀ b o, h.get? b = some o -> b ∉ ex -> ∃ o', h'.get? b = some o'
  tups : ∀ b xs, H b = some (.tup xs) -> H' b = some (.tup xs)
  frzs : ∀ b o u, H b = some (.frz o u) -> H' b = some (.frz o u)
  tbls : ∀ b ps, H b = some (.tbl ps) -> ∃ more, H' b = some (.tbl (ps ++ more))
section
variable {fs fs' ex ex' : List Addr} {H H1 H2 : Hp} {h h1 h2 h' : Heap} {a x e : Addr} {o : HO}
theorem Un.any (u : Un fs ex H H1 h h1) {b : Addr} {ob : Obj} (q : h.get? b = some ob) (n : H b = none) (hx : b ∉ ex) : ∃ sl, h1.get? b = some { ob with slots := sl } := by
  by_cases hb : b ∈ fs
  . exact u.slot b ob q n hb hx
  . exact ⟨ob.slots, u.keep b ob q n hb hx⟩
theorem Un.trans (a : Un fs ex H H1 h h1) (b : Un fs ex H1 H2 h1 h2) : Un fs ex H H2 h h2 where
  keep := fun c ob q n hc hx => b.keep c ob (a.keep c ob q n hc hx) (a.free c ob q n hx) hc hx
  slot := fun c ob q n hc hx => by
    obtain ⟨sl, e1⟩ := a.slot c ob q n hc hx
    obtain ⟨sl', e2⟩ := b.slot c _ e1 (a.free c ob q n hx) hc hx
    exact ⟨sl', e2⟩
  free := fun c ob q n hx => by
    obtain ⟨o', e1⟩ := a.there c ob q hx
    exact b.free c o' e1 (a.free c ob q n hx) hx
  there := fun c ob q hx => by
    obtain ⟨o', e1⟩ := a.there c ob q hx
    exact b.there c o' e1 hx
  tups := fun c xs q => b.tups c xs (a.tups c xs q)
  frzs := fun c ob xs q => b.frzs c ob xs (a.frzs c ob xs q)
  tbls := fun c ps q => by
    obtain ⟨m1, e1⟩ := a.tbls c ps q
    obtain ⟨m2, e2⟩ := b.tbls c _ e1
    exact ⟨m1 ++ m2, by rw [e2, Array.append_assoc]⟩
theorem Un.kept (k : ∀ b u, h.get? b = some u -> h'.get? b = some u) : Un fs ex H H h h' :=
  ⟨fun b ob q _ _ _ => k b ob q, fun b ob q _ _ _ => ⟨ob.slots, k b ob q⟩, fun _ _ _ n _ => n, fun b ob q _ => ⟨ob, k b ob q⟩, fun _ _ q => q, fun _ _ _ q => q, fun _ ps q => ⟨#[], by rw [q]; simp⟩⟩
theorem Un.refl : Un fs ex H H h h := Un.kept fun _ _ q => q
theorem Un.laid (k : ∀ b u, h.get? b = some u -> h'.get? b = some u) (hp : h.objs.size <= a) (hn : H a = none) : Un fs ex H (upd H a o) h h' where
  keep := fun b u q _ _ _ => k b u q
  slot := fun b u q _ _ _ => ⟨u.slots, k b u q⟩
  free := fun b u q n _ => by rw [z07 (Nat.ne_of_lt (Nat.lt_of_lt_of_le (Heap.lt_size q) hp))]; exact n
  there := fun b u q _ => ⟨u, k b u q⟩
  tups := fun b xs q => by rw [z07 (z0M q hn)]; exact q
  frzs := fun b u xs q => by rw [z07 (z0M q hn)]; exact q
  tbls := fun b ps q => ⟨#[], by rw [z07 (z0M q hn), q]; simp⟩
theorem Un.write (mu : Mut (H x)) (he : e = x \/ H e = some (.own x)) (k : ∀ b u, b ≠ e -> h.get? b = some u -> h'.get? b = some u) (heo : ∃ u, h'.get? e = some u) : Un fs ex H (upd H x o) h h' := by
  have hx : ∀ b, H b = none -> b ≠ x := fun b n z => by subst z; rw [n] at mu; exact mu
  have hb : ∀ b, H b = none -> b ≠ e := fun b n z => by
    subst z
    rcases he with r | r
    . exact hx b n r
    . rw [n] at r; cases r
  have hm : ∀ b u, H b = some u -> ¬ Mut (some u) -> b ≠ x := fun b u q nm z => by subst z; rw [q] at mu; exact nm mu
  refine ⟨fun b u q n _ _ => k b u (hb b n) q, fun b u q n _ _ => ⟨u.slots, k b u (hb b n) q⟩, fun b u q n _ => by rw [z07 (hx b n)]; exact n, fun b u q _ => ?_,
    fun b xs q => by rw [z07 (hm b _ q fun z => z)]; exact q, fun b u xs q => by rw [z07 (hm b _ q fun z => z)]; exact q, fun b ps q => ⟨#[], by rw [z07 (hm b _ q fun z => z), q]; simp⟩⟩
  by_cases hbe : b = e
  . subst hbe; exact heo
  . exact ⟨u, k b u hbe q⟩
theorem Un.mono (u : Un fs ex H H1 h h1) (hs : ∀ b ∈ fs, b ∈ fs') (hx : ∀ b ∈ ex, b ∈ ex') : Un fs' ex' H H1 h h1 :=
  ⟨fun b ob q n hb he => u.keep b ob q n (fun z => hb (hs b z)) fun z => he (hx b z), fun _ _ q n _ he => u.any q n fun z => he (hx _ z), fun b ob q n he => u.free b ob q n fun z => he (hx b z), fun b ob q he => u.there b ob q fun z => he (hx b z), u.tups, u.frzs, u.tbls⟩
end
def trk (h : Heap) (H : Hp) : List Addr := (List.range h.objs.size).filter fun a => (H a).isSome
def z3b (h : Heap) (H : Hp) : Heap := PySem.W.hideAll h (trk h H)
theorem z2c (h : Heap) (H : Hp) : (z3b h H).objs.size = h.objs.size := PySem.W.hideAll_size _ _
theorem z3c {h : Heap} {H : Hp} {b : Addr} {o : Obj} (e : h.get? b = some o) (n : H b = none) : (z3b h H).get? b = some o :=
  PySem.W.hideAll_get _ e fun hm => by
    have q : (H b).isSome = true := (List.mem_filter.mp hm).2
    rw [n] at q; simp at q
theorem z4J {h : Heap} {H : Hp} {b : Addr} {o : Obj} (e : (z3b h H).get? b = some o) : h.get? b = some o /\ H b = none := by
  have e' : h.get? b = some o := PySem.W.of_hideAll (trk h H) e
  refine ⟨e', ?_⟩
  cases q : H b with
  | none => rfl
  | some x =>
    have hm : b ∈ trk h H := List.mem_filter.mpr ⟨List.mem_range.mpr (Heap.lt_size e'), by simp [q]⟩
    have z : (z3b h H).get? b = none := PySem.W.hideAll_none (trk h H) hm
    rw [z] at e; cases e
def z4K (g h : Heap) (L : Addr) : List (Addr × Obj) := (List.range h.objs.size).filterMap fun a => if a = L \/ (g.get? a).isSome = true then none else (h.get? a).map fun o => (a, o)
def rest (g h : Heap) (L d : Addr) : List (Addr × Obj) := (z4K g h L).filter fun p => decide (p.1 ≠ d)
structure Mod (K : PySem.W.Frag) (mg : Str -> Option Value) (base : Heap) : Prop where
  kin : K.In base
  glob : base.Ns mainGlobals mg
  blt : ∃ mb, base.Ns builtinsNs mb /\ ∀ x : Str, x ≠ "__name__" -> mb x = bootBuiltins x
  nolimit : base.NoLimit
structure Cx where
  prog : Program
  w : World
  K : PySem.W.Frag
  mg : Str -> Option Value
  base : Heap
  A : Around
  N : List Str
  s₀ : Shared
  H₀ : Hp
  env : Env
  outer : List Env
  stack : List Env
  ex : List Addr
  fn : Str -> Bool
  calm : Bool
  pn : List (Addr × Obj)
  xe : Value -> Shared -> Prop
def frs (l : List Env) : List Addr := l.filterMap (·.frame)
abbrev Cx.fs (X : Cx) : List Addr := frs X.outer
def Vis (sc : Scope) (x : Str) : Prop := sc.names.lookup x = some .local \/ sc.names.lookup x = some .cell \/ sc.names.lookup x = some .free
def Loc (sc : Scope) (x : Str) : Prop := sc.names.lookup x = some .local \/ sc.names.lookup x = some .cell
def Look (env : Env) (h : Heap) (m : Str -> Option Value) (x : Str) (u : Value) : Prop :=
  (env.kindOf x = some .local /\ m x = some u) \/ ((env.kindOf x = some .cell \/ env.kindOf x = some .free) /\ ∃ c, env.cells.lookup x = some c /\ h.IsCell c (some u))
structure Cx.Ok (X : Cx) : Prop where
  mod : Mod X.K X.mg X.base
  kind : X.env.scope.kind = .function
  glob : X.env.globals = mainGlobals
  blt : X.env.builtins = builtinsNs
  above : X.s₀.heap.objs.size <= X.env.locals
  inj : ∀ x y c, X.env.cells.lookup x = some c -> X.env.cells.lookup y = some c -> x = y
  has : ∀ x, (X.env.kindOf x = some .cell \/ X.env.kindOf x = some .free) -> ∃ c, X.env.cells.lookup x = some c
  cab : ∀ x c, X.fn x = true -> X.env.cells.lookup x = some c -> X.s₀.heap.objs.size <= c
  hd : X.calm = true -> X.A.handled = none
  frames : X.A.frames = some X.stack
  stk : X.stack = X.outer \/ (X.stack = X.env :: X.outer /\ X.env.frame = some X.env.locals)
  exf : ∀ b ∈ X.ex, b ≠ X.env.locals /\ ∀ x c, X.env.cells.lookup x = some c -> c ≠ b
  bs : ∀ b o, X.base.get? b = some o -> X.s₀.heap.get? b = some o /\ X.H₀ b = none
  bsz : X.base.objs.size <= X.s₀.heap.objs.size
  noex : ∀ b o, X.base.get? b = some o -> b ∉ X.ex
  exfs : ∀ b ∈ X.ex, b ∉ X.fs
  funs : X.s₀.heap.FunFrames X.base X.outer
  frf : ∀ b ∈ X.fs, X.H₀ b = none
structure Inv (X : Cx) (pins : List (Addr × Obj)) (σ : List (Option V)) (H : Hp) (s : Shared) : Prop where
  ok : X.Ok
  os : s.os = X.s₀.os
  bare : AllBare s.gens
  base : Un X.fs X.ex X.H₀ H X.s₀.heap s.heap
  loc : ∃ m, s.heap.Ns X.env.locals m /\ ∀ (i : Nat) (x : Str) (v : V), X.N[i]? = some x -> σ[i]? = some (some v) -> Vis X.env.scope x -> ∃ u, RelV v u /\ Look X.env s.heap m x u
  cell : ∀ x c, X.env.cells.lookup x = some c -> ∃ v, s.heap.IsCell c v
  free : H X.env.locals = none
  freeC : ∀ x c, X.env.cells.lookup x = some c -> H c = none
  pin : ∀ p ∈ X.pn ++ pins, s.heap.get? p.1 = some p.2 /\ H p.1 = none /\ p.1 ≠ X.env.locals /\ p.1 ∉ X.fs /\ ∀ v, p.2.data ≠ .cell v
  hok : HOk X.prog X.w H s.heap
  len : σ.length = X.N.length
section
variable {X : Cx} {pins : List (Addr × Obj)} {σ : List (Option V)} {H H' : Hp} {s : Shared} {h' : Heap}
theorem Cx.Ok.nofr (ok : X.Ok) {b : Addr} {o : Obj} (e : X.base.get? b = some o) : b ∉ X.fs := fun hb => by
  have := (ok.funs.mem hb).1
  rw [e] at this; cases this
theorem Inv.bs (I : Inv X pins σ H s) : ∀ b o, X.base.get? b = some o -> s.heap.get? b = some o /\ H b = none := fun b o e =>
  ⟨I.base.keep b o (I.ok.bs b o e).1 (I.ok.bs b o e).2 (I.ok.nofr e) (I.ok.noex b o e), I.base.free b o (I.ok.bs b o e).1 (I.ok.bs b o e).2 (I.ok.noex b o e)⟩
theorem Inv.bk (I : Inv X pins σ H s) : ∀ b o, X.base.get? b = some o -> s.heap.get? b = some o := fun b o e => (I.bs b o e).1
theorem Inv.mod (I : Inv X pins σ H s) : Mod X.K X.mg X.base := I.ok.mod
theorem Inv.kIn (I : Inv X pins σ H s) : X.K.In s.heap := I.ok.mod.kin.keeps I.bk
theorem Inv.nolimit (I : Inv X pins σ H s) : s.heap.NoLimit := I.ok.mod.nolimit.keeps I.bk
theorem Inv.fr (I : Inv X pins σ H s) : ∃ m, Fr X.base X.env.locals s.heap m :=
  let ⟨m, hn, _⟩ := I.loc
  ⟨m, hn, I.bk, Nat.le_trans I.ok.bsz I.ok.above⟩
theorem Inv.lt (I : Inv X pins σ H s) : X.env.locals < s.heap.objs.size := let ⟨_, hn, _⟩ := I.loc; hn.lt
theorem Inv.sz (I : Inv X pins σ H s) : X.s₀.heap.objs.size <= s.heap.objs.size := Nat.le_trans I.ok.above (Nat.le_of_lt I.lt)
theorem Inv.nofs (I : Inv X pins σ H s) {a : Addr} (h : s.heap.objs.size <= a) : a ∉ X.fs := fun hb => by
  obtain ⟨_, o, ho, _⟩ := I.ok.funs.mem hb
  exact absurd (Nat.lt_of_lt_of_le (Heap.lt_size ho) (Nat.le_trans I.sz h)) (Nat.lt_irrefl _)
theorem Inv.cne (I : Inv X pins σ H s) : ∀ x c, X.env.cells.lookup x = some c -> c ≠ X.env.locals := fun x c e z => by
  obtain ⟨v, o, ho, hd⟩ := I.cell x c e
  obtain ⟨m, ⟨o', es, ep, ho', hd', _⟩, _⟩ := I.loc
  rw [z, ho'] at ho; cases ho; rw [hd'] at hd; cases hd
theorem Inv.funs (I : Inv X pins σ H s) : s.heap.FunFrames X.base X.outer := by
  have all : ∀ (l : List Env), (∀ b ∈ frs l, b ∈ X.fs) -> X.s₀.heap.FunFrames X.base l -> s.heap.FunFrames X.base l := by
    intro l
    induction l with
    | nil => intro _ _; trivial
    | cons env r ih =>
      intro hs hl
      obtain ⟨hk, ⟨L, o, hf, hn, ho, hd⟩, hr⟩ := hl
      have hL : L ∈ X.fs := hs L (by unfold frs; rw [List.filterMap_cons, hf]; exact List.mem_cons_self)
      obtain ⟨sl, e⟩ := I.base.slot L o ho (I.ok.frf L hL) hL fun z => I.ok.exfs L z hL
      exact ⟨hk, ⟨L, _, hf, hn, e, hd⟩, ih (fun b hb => hs b (by unfold frs; rw [List.filterMap_cons, hf]; exact List.mem_cons_of_mem _ hb)) hr⟩
  exact all X.outer (fun _ hb => hb) I.ok.funs
theorem Inv.stack (I : Inv X pins σ H s) : s.heap.FunFrames X.base X.stack := by
  rcases I.ok.stk with e | ⟨e, hf⟩
  . rw [e]; exact I.funs
  . rw [e]
    obtain ⟨m, hn, _⟩ := I.loc
    refine .cons (by rw [I.ok.kind]; decide) hf hn ?_ I.funs
    exact Heap.get?_none_of_le (Nat.le_trans I.ok.bsz I.ok.above)
theorem Inv.stkSub (I : Inv X pins σ H s) : ∀ b ∈ frs X.stack, b ∈ X.env.locals :: X.fs := fun b hb => by
  rcases I.ok.stk with e | ⟨e, hf⟩
  . rw [e] at hb; exact List.mem_cons_of_mem _ hb
  . rw [e] at hb
    unfold frs at hb
    rw [List.filterMap_cons, hf] at hb
    exact hb
theorem Inv.stkFree (I : Inv X pins σ H s) : ∀ b ∈ frs X.stack, H b = none := fun b hb => by
  rcases List.mem_cons.mp (I.stkSub b hb) with e | hb
  . rw [e]; exact I.free
  . obtain ⟨_, o, ho, _⟩ := I.ok.funs.mem hb
    exact I.base.free b o ho (I.ok.frf b hb) fun z => I.ok.exfs b z hb
theorem Inv.step {g' : Array GenState} {t' : Nat} {d' : Drawn} {ch : List Addr} (I : Inv X pins σ H s)
    (hch : ∀ b ∈ ch, (b ∈ X.ex \/ X.s₀.heap.objs.size <= b) /\ b ≠ X.env.locals /\ (∀ x c, X.env.cells.lookup x = some c -> c ≠ b) /\ ∀ p ∈ X.pn ++ pins, p.1 ≠ b)
    (keep : ∀ b o, b ≠ X.env.locals -> b ∉ X.fs -> b ∉ ch -> s.heap.get? b = some o -> H b = none -> h'.get? b = some o)
    (slot : ∀ b o, b ≠ X.env.locals -> b ∈ X.fs -> b ∉ ch -> s.heap.get? b = some o -> H b = none -> ∃ sl, h'.get? b = some { o with slots := sl }) (free : ∀ b o, b ∉ ch -> s.heap.get? b = some o -> H b = none -> H' b = none)
    (there : ∀ b o, b ∉ ch -> s.heap.get? b = some o -> ∃ o', h'.get? b = some o')
    (tups : ∀ b xs, H b = some (.tup xs) -> H' b = some (.tup xs)) (frzs : ∀ b o u, H b = some (.frz o u) -> H' b = some (.frz o u)) (tbls : ∀ b ps, H b = some (.tbl ps) -> ∃ more, H' b = some (.tbl (ps ++ more)))
    (ns : ∀ m, s.heap.Ns X.env.locals m -> h'.Ns X.env.locals m) (hok : HOk X.prog X.w H' h') (hg : AllBare g') :
    Inv X pins σ H' { s with heap := h', gens := g', drawn := d', toks := t' } := by
  have neL : ∀ b o, X.s₀.heap.get? b = some o -> b ≠ X.env.locals := fun b o e => Nat.ne_of_lt (Nat.lt_of_lt_of_le (Heap.lt_size e) I.ok.above)
  have neC : ∀ b o, X.s₀.heap.get? b = some o -> b ∉ X.ex -> b ∉ ch := fun b o e hx hb => by
    rcases (hch b hb).1 with z | z
    . exact hx z
    . exact absurd (Nat.lt_of_lt_of_le (Heap.lt_size e) z) (Nat.lt_irrefl _)
  have cellK : ∀ x c, X.env.cells.lookup x = some c -> ∀ v, s.heap.IsCell c v -> h'.IsCell c v := fun x c e v ⟨o, ho, hd⟩ => by
    have nch : c ∉ ch := fun z => (hch c z).2.2.1 x c e rfl
    by_cases hc : c ∈ X.fs
    . obtain ⟨sl, q⟩ := slot c o (I.cne x c e) hc nch ho (I.freeC x c e)
      exact ⟨_, q, hd⟩
    . exact ⟨o, keep c o (I.cne x c e) hc nch ho (I.freeC x c e), hd⟩
  refine ⟨I.ok, I.os, hg, ⟨fun b o e n hb hx => ?_, fun b o e n hb hx => ?_, fun b o e n hx => ?_, fun b o e hx => ?_, fun b xs e => tups b xs (I.base.tups b xs e), fun b o xs e => frzs b o xs (I.base.frzs b o xs e), fun b ps e => ?_⟩, ?_, fun x c e => ?_, ?_, fun x c e => ?_, fun p hp => ?_, hok, I.len⟩
  . exact keep b o (neL b o e) hb (neC b o e hx) (I.base.keep b o e n hb hx) (I.base.free b o e n hx)
  . obtain ⟨sl, e1⟩ := I.base.slot b o e n hb hx
    obtain ⟨sl', e2⟩ := slot b _ (neL b o e) hb (neC b o e hx) e1 (I.base.free b o e n hx)
    exact ⟨sl', e2⟩
  . obtain ⟨o', e1⟩ := I.base.there b o e hx
    exact free b o' (neC b o e hx) e1 (I.base.free b o e n hx)
  . obtain ⟨o', e1⟩ := I.base.there b o e hx
    exact there b o' (neC b o e hx) e1
  . obtain ⟨m1, e1⟩ := I.base.tbls b ps e
    obtain ⟨m2, e2⟩ := tbls b _ e1
    exact ⟨m1 ++ m2, by rw [e2, Array.append_assoc]⟩
  . obtain ⟨m, hn, hl⟩ := I.loc
    refine ⟨m, ns m hn, fun i x v e1 e2 e3 => ?_⟩
    obtain ⟨u, r, l⟩ := hl i x v e1 e2 e3
    refine ⟨u, r, ?_⟩
    rcases l with l | ⟨k, c, e, z⟩
    . exact .inl l
    . exact .inr ⟨k, c, e, cellK x c e _ z⟩
  . obtain ⟨v, z⟩ := I.cell x c e
    exact ⟨v, cellK x c e v z⟩
  . obtain ⟨m, ⟨o, _, _, ho, _⟩, _⟩ := I.loc
    exact free _ o (fun z => (hch _ z).2.1 rfl) ho I.free
  . obtain ⟨v, o, ho, hd⟩ := I.cell x c e
    exact free c o (fun z => (hch c z).2.2.1 x c e rfl) ho (I.freeC x c e)
  . obtain ⟨e, n, ne, nf, d⟩ := I.pin p hp
    have nch : p.1 ∉ ch := fun z => (hch p.1 z).2.2.2 p hp rfl
    exact ⟨keep p.1 p.2 ne nf nch e n, free p.1 p.2 nch e n, ne, nf, d⟩
theorem Inv.un {t' : Nat} (I : Inv X pins σ H s) (u : Un X.fs [] H H' s.heap h') (hok : HOk X.prog X.w H' h') : Inv X pins σ H' { s with heap := h', toks := t' } := by
  obtain ⟨m, ⟨o, es, ep, ho, r⟩, _⟩ := id I.loc
  obtain ⟨sl, hL⟩ := u.any ho I.free (by simp)
  exact I.step (g' := s.gens) (d' := s.drawn) (ch := []) (fun _ z => nomatch z) (fun b o _ hb _ e n => u.keep b o e n hb (by simp)) (fun b o _ hb _ e n => u.slot b o e n hb (by simp)) (fun b o _ e n => u.free b o e n (by simp)) (fun b o _ e => u.there b o e (by simp)) u.tups u.frzs u.tbls (fun m' hm => by
    obtain ⟨o', es', ep', ho', r'⟩ := hm
    rw [ho] at ho'; cases ho'
    exact ⟨_, es', ep', hL, r'⟩) hok I.bare
theorem Inv.call {g' : Array GenState} {t' : Nat} {d' : Drawn} {ch : List Addr} (I : Inv X pins σ H s) (u : Un (frs X.stack) ch H H' s.heap h') (hok : HOk X.prog X.w H' h') (hg : AllBare g')
    (hch : ∀ b ∈ ch, (b ∈ X.ex \/ X.s₀.heap.objs.size <= b) /\ b ≠ X.env.locals /\ (∀ x c, X.env.cells.lookup x = some c -> c ≠ b) /\ ∀ p ∈ X.pn ++ pins, p.1 ≠ b) :
    Inv X pins σ H' { s with heap := h', gens := g', drawn := d', toks := t' } := by
  obtain ⟨m, ⟨o, es, ep, ho, r⟩, _⟩ := id I.loc
  obtain ⟨sl, hL⟩ := u.any ho I.free fun z => (hch _ z).2.1 rfl
  exact I.step (ch := ch) hch (fun b o hL hb hc e n => u.keep b o e n (fun z => (List.mem_cons.mp (I.stkSub b z)).elim hL hb) hc) (fun b o _ _ hc e n => u.any e n hc) (fun b o hc e n => u.free b o e n hc) (fun b o hc e => u.there b o e hc) u.tups u.frzs u.tbls (fun m' hm => by
    obtain ⟨o', es', ep', ho', r'⟩ := hm
    rw [ho] at ho'; cases ho'
    exact ⟨_, es', ep', hL, r'⟩) hok hg
theorem Inv.turned {t' : Nat} {it : Addr} (I : Inv X pins σ H s) (k : ∀ b o, b ≠ it -> s.heap.get? b = some o -> h'.get? b = some o) (hn : H it = none) (hL : it ≠ X.env.locals)
    (h1 : it ∈ X.ex \/ X.s₀.heap.objs.size <= it) (h2 : ∀ x c, X.env.cells.lookup x = some c -> c ≠ it) (h3 : ∀ p ∈ X.pn ++ pins, p.1 ≠ it) : Inv X pins σ H { s with heap := h', toks := t' } := by
  have nit : ∀ b u, H b = some u -> b ≠ it := fun b u e z => by rw [z, hn] at e; cases e
  refine I.step (g' := s.gens) (d' := s.drawn) (ch := [it]) (fun b hb => ?_) (fun b o _ _ hc e _ => k b o (fun z => hc (by simp [z])) e) (fun b o _ _ hc e _ => ⟨o.slots, k b o (fun z => hc (by simp [z])) e⟩) (fun _ _ _ _ n => n)
    (fun b o hc e => ⟨o, k b o (fun z => hc (by simp [z])) e⟩) (fun _ _ e => e) (fun _ _ _ e => e) (fun b ps e => ⟨#[], by rw [e]; simp⟩) (fun m hm => ?_) (fun b u e => ?_) I.bare
  . have e : b = it := by simpa using hb
    subst e
    exact ⟨h1, hL, h2, h3⟩
  . obtain ⟨o, es, ep, ho, r⟩ := hm
    exact ⟨o, es, ep, k _ o (Ne.symm hL) ho, r⟩
  . refine (I.hok b u e).stay (fun c v hc q => k c v ?_ q) (fun _ q => q) fun _ _ q => q
    rcases hc with z | z
    . rw [z]; exact nit b u e
    . exact nit c _ z
theorem Inv.tok (I : Inv X pins σ H s) (t : Nat) : Inv X pins σ H { s with toks := t } := I.un (h' := s.heap) (t' := t) Un.refl I.hok
theorem Inv.kept {t' : Nat} (I : Inv X pins σ H s) (k : ∀ b u, s.heap.get? b = some u -> h'.get? b = some u) : Inv X pins σ H { s with heap := h', toks := t' } := I.un (Un.kept k) (I.hok.kept k)
theorem Inv.laid {a : Addr} {o : HO} {t' : Nat} (I : Inv X pins σ H s) (k : ∀ b u, s.heap.get? b = some u -> h'.get? b = some u) (hp : s.heap.objs.size <= a) (new : ObjOk X.prog X.w (upd H a o) h' a o) :
    Inv X pins σ (upd H a o) { s with heap := h', toks := t' } := I.un (Un.laid k hp (I.hok.fresh hp)) (I.hok.laid k hp new)
theorem Inv.write {x e : Addr} {o : HO} {t' : Nat} (I : Inv X pins σ H s) (mu : Mut (H x)) (he : e = x \/ H e = some (.own x)) (k : ∀ b u, b ≠ e -> s.heap.get? b = some u -> h'.get? b = some u) (heo : ∃ u, h'.get? e = some u)
    (new : ObjOk X.prog X.w (upd H x o) h' x o) : Inv X pins σ (upd H x o) { s with heap := h', toks := t' } := I.un (Un.write mu he k heo) (I.hok.write mu he k heo new)
theorem Inv.pins_of {pins' : List (Addr × Obj)} (I : Inv X pins σ H s) (h : ∀ p ∈ pins', s.heap.get? p.1 = some p.2 /\ H p.1 = none /\ p.1 ≠ X.env.locals /\ p.1 ∉ X.fs /\ ∀ v, p.2.data ≠ .cell v) : Inv X pins' σ H s :=
  ⟨I.ok, I.os, I.bare, I.base, I.loc, I.cell, I.free, I.freeC, fun p hp => (List.mem_append.mp hp).elim (fun z => I.pin p (List.mem_append_left _ z)) (h p), I.hok, I.len⟩
theorem z1O {N : List Str} (hN : N.Nodup) {i j : Nat} {x : Str} (a : N[i]? = some x) (b : N[j]? = some x) : i = j := by
  obtain ⟨h1, e1⟩ := List.getElem?_eq_some_iff.mp a
  obtain ⟨h2, e2⟩ := List.getElem?_eq_some_iff.mp b
  exact (List.getElem_inj hN).mp (e1.trans e2.symm)
theorem z2d {M : Model} {A : Around} {E : Value -> Shared -> Prop} {i : Nat} {x : Str} {v : V} {u : Value} {Q : Unit -> Shared -> Prop} (I : Inv X pins σ H s) (hN : X.N.Nodup) (hi : X.N[i]? = some x) (hx : Loc X.env.scope x) (r : RelV v u)
    (h : ∀ s', Inv X pins (σ.set i (some v)) H s' -> (∃ a, Heap.SameBut a s.heap s'.heap /\ (a = X.env.locals \/ X.env.cells.lookup x = some a)) -> Q () s') (hf : X.fn x = true \/ X.env.scope.names.lookup x = some .local := by first | exact .inl rfl | exact .inr rfl | assumption) : wpAny M A (storeName X.env x u) Q E s := by
  obtain ⟨m, hn, hl⟩ := id I.loc
  have hcls : (X.env.scope.kind == .class || (X.env.scope.kind == .module && X.env.locals != X.env.globals)) = false := by rw [I.ok.kind]; rfl
  have hiσ : i < σ.length := by rw [I.len]; exact (List.getElem?_eq_some_iff.mp hi).1
  have cne := I.cne
  have tracked : ∀ {a : Addr} {h' : Heap}, (∃ o, s.heap.get? a = some o /\ H a = none) -> Heap.SameBut a s.heap h' -> HOk X.prog X.w H h' := fun {a h'} ha hs b ob e => by
    obtain ⟨_, _, hfree⟩ := ha
    refine (I.hok b ob e).stay (fun c w' hc q => (hs.2 c ?_).trans q) (fun _ q => q) fun _ _ q => q
    rintro rfl
    rcases hc with rfl | hc
    . rw [hfree] at e; cases e
    . rw [hfree] at hc; cases hc
  rcases hx with hk | hk
  . refine wpAny_storeName_local hk hn (fun h' hn' hs => ?_) hcls
    obtain ⟨oL, _, _, hoL, _⟩ := id hn
    refine h _ ⟨I.ok, I.os, I.bare, ⟨fun b o e n hb hx => ?_, fun b o e n hb hx => ?_, I.base.free, fun b o e hx => ?_, I.base.tups, I.base.frzs, I.base.tbls⟩, ⟨_, hn', fun j y v' e1 e2 e3 => ?_⟩, fun y c e => ?_, I.free, I.freeC, fun p hp => ?_, tracked ⟨oL, hoL, I.free⟩ hs, by simpa using I.len⟩ ⟨_, hs, .inl rfl⟩
    . exact (hs.2 b (Nat.ne_of_lt (Nat.lt_of_lt_of_le (Heap.lt_size e) I.ok.above))).trans (I.base.keep b o e n hb hx)
    . obtain ⟨sl, e1⟩ := I.base.slot b o e n hb hx
      exact ⟨sl, (hs.2 b (Nat.ne_of_lt (Nat.lt_of_lt_of_le (Heap.lt_size e) I.ok.above))).trans e1⟩
    . obtain ⟨o', e1⟩ := I.base.there b o e hx
      exact ⟨o', (hs.2 b (Nat.ne_of_lt (Nat.lt_of_lt_of_le (Heap.lt_size e) I.ok.above))).trans e1⟩
    . by_cases hj : j = i
      . subst hj
        rw [hi] at e1; cases e1
        rw [List.getElem?_set_self hiσ] at e2
        cases e2
        exact ⟨u, r, .inl ⟨hk, by simp⟩⟩
      . rw [List.getElem?_set_ne (Ne.symm hj)] at e2
        obtain ⟨u', r', q⟩ := hl j y v' e1 e2 e3
        refine ⟨u', r', ?_⟩
        rcases q with ⟨k, e⟩ | ⟨k, c, e, z⟩
        . refine .inl ⟨k, ?_⟩
          have : y ≠ x := fun e => hj (z1O hN e1 (e ▸ hi))
          simp [this, e]
        . exact .inr ⟨k, c, e, z.sameBut hs (cne y c e)⟩
    . obtain ⟨w', z⟩ := I.cell y c e
      exact ⟨w', z.sameBut hs (cne y c e)⟩
    . obtain ⟨e, n, ne, nf, d⟩ := I.pin p hp
      exact ⟨(hs.2 p.1 ne).trans e, n, ne, nf, d⟩
  . have hfn : X.fn x = true := by
      rcases hf with z | z
      . exact z
      . rw [z] at hk; cases hk
    obtain ⟨c, hc⟩ := I.ok.has x (.inl hk)
    obtain ⟨w', z⟩ := I.cell x c hc
    refine wpAny_storeName_cell I.ok.kind hk hc z (fun h' hc' hs => ?_)
    obtain ⟨oc, hoc, hocd⟩ := id z
    refine h { s with heap := h' } ⟨I.ok, I.os, I.bare, ⟨fun b o e n hb hx => ?_, fun b o e n hb hx => ?_, I.base.free, fun b o e hx => ?_, I.base.tups, I.base.frzs, I.base.tbls⟩, ⟨m, hn.sameBut hs (Ne.symm (cne x c hc)), fun j y v' e1 e2 e3 => ?_⟩, fun y c' e => ?_, I.free, I.freeC, fun p hp => ?_, tracked ⟨oc, hoc, I.freeC x c hc⟩ hs, by simpa using I.len⟩ ⟨c, hs, .inr hc⟩
    . exact (hs.2 b (Nat.ne_of_lt (Nat.lt_of_lt_of_le (Heap.lt_size e) (I.ok.cab x c hfn hc)))).trans (I.base.keep b o e n hb hx)
    . obtain ⟨sl, e1⟩ := I.base.slot b o e n hb hx
      exact ⟨sl, (hs.2 b (Nat.ne_of_lt (Nat.lt_of_lt_of_le (Heap.lt_size e) (I.ok.cab x c hfn hc)))).trans e1⟩
    . obtain ⟨o', e1⟩ := I.base.there b o e hx
      exact ⟨o', (hs.2 b (Nat.ne_of_lt (Nat.lt_of_lt_of_le (Heap.lt_size e) (I.ok.cab x c hfn hc)))).trans e1⟩
    . by_cases hj : j = i
      . subst hj
        rw [hi] at e1; cases e1
        rw [List.getElem?_set_self hiσ] at e2
        cases e2
        exact ⟨u, r, .inr ⟨.inl hk, c, hc, hc'⟩⟩
      . rw [List.getElem?_set_ne (Ne.symm hj)] at e2
        obtain ⟨u', r', q⟩ := hl j y v' e1 e2 e3
        refine ⟨u', r', ?_⟩
        rcases q with q | ⟨k, c', e, z'⟩
        . exact .inl q
        . refine .inr ⟨k, c', e, z'.sameBut hs ?_⟩
          rintro rfl
          exact hj (z1O hN e1 (I.ok.inj _ _ _ e hc ▸ hi))
    . by_cases hcc : c' = c
      . subst hcc; exact ⟨_, hc'⟩
      . obtain ⟨w2, z2⟩ := I.cell y c' e
        exact ⟨w2, z2.sameBut hs hcc⟩
    . obtain ⟨e, n, ne, nf, d⟩ := I.pin p hp
      refine ⟨(hs.2 p.1 ?_).trans e, n, ne, nf, d⟩
      intro q
      rw [q, hoc] at e
      have q' : oc = p.2 := Option.some.inj e
      exact d w' (by rw [<- q']; exact hocd)
theorem z16 {M : Model} {A : Around} {E : Value -> Shared -> Prop} {i : Nat} {x : Str} {v : V} {u : Value} {Q : Unit -> Shared -> Prop} (I : Inv X pins σ H s) (hN : X.N.Nodup) (hi : X.N[i]? = some x) (hx : Loc X.env.scope x) (r : RelV v u)
    (h : ∀ s', Inv X pins (σ.set i (some v)) H s' -> Q () s') (hf : X.fn x = true \/ X.env.scope.names.lookup x = some .local := by first | exact .inl rfl | exact .inr rfl | assumption) : wpAny M A (storeName X.env x u) Q E s :=
  z2d I hN hi hx r (fun s' I' _ => h s' I') hf
theorem Inv.call' {s' : Shared} {ch : List Addr} (I : Inv X pins σ H s) (ho : s'.os = s.os) (u : Un (frs X.stack) ch H H' s.heap s'.heap) (hok : HOk X.prog X.w H' s'.heap) (hg : AllBare s'.gens)
    (hch : ∀ b ∈ ch, (b ∈ X.ex \/ X.s₀.heap.objs.size <= b) /\ b ≠ X.env.locals /\ (∀ x c, X.env.cells.lookup x = some c -> c ≠ b) /\ ∀ p ∈ X.pn ++ pins, p.1 ≠ b) : Inv X pins σ H' s' := by
  obtain ⟨h', g', d', t', o'⟩ := s'
  have e : o' = s.os := ho
  subst e
  exact I.call (g' := g') (t' := t') (d' := d') u hok hg hch
end
abbrev XK := Value -> Option Addr -> Hp -> Prop
abbrev St := List (Option V)
abbrev VK := V -> Hp -> Prop
abbrev TE := St -> Hp -> VK -> Prop
abbrev TT := St -> Hp -> (Bool -> Hp -> Prop) -> Prop
abbrev TA := St -> Hp -> (List V -> Hp -> Prop) -> Prop
structure Ends where
  nx : St -> Hp -> Prop
  rt : VK
  bk : St -> Hp -> Prop := fun _ _ => False
  ct : St -> Hp -> Prop := fun _ _ => False
abbrev TS := Ends -> St -> Hp -> Prop
def EP (X : Cx) (pins : List (Addr × Obj)) (σ : St) (Q : VK) (u : Value) (s' : Shared) : Prop := ∃ v H', Inv X pins σ H' s' /\ RelV v u /\ Q v H'
def TP (X : Cx) (pins : List (Addr × Obj)) (σ : St) (Q : Bool -> Hp -> Prop) (b : Bool) (s' : Shared) : Prop := ∃ H', Inv X pins σ H' s' /\ Q b H'
def AP (X : Cx) (pins : List (Addr × Obj)) (σ : St) (Q : List V -> Hp -> Prop) (us : List Value) (s' : Shared) : Prop := ∃ vs H', Inv X pins σ H' s' /\ Vals vs us /\ Q vs H'
def SP (X : Cx) (pins : List (Addr × Obj)) (D : Ends) (f : Flow) (s' : Shared) : Prop :=
  match f with
  | .next => ∃ σ' H', Inv X pins σ' H' s' /\ D.nx σ' H'
  | .brk => ∃ σ' H', Inv X pins σ' H' s' /\ D.bk σ' H'
  | .cont => ∃ σ' H', Inv X pins σ' H' s' /\ D.ct σ' H'
  | .ret u => ∃ v σ' H', Inv X pins σ' H' s' /\ RelV v u /\ D.rt v H'
def PE (X : Cx) (e : Expr) (t : TE) : Prop :=
  ∀ (pins : List (Addr × Obj)) (s : Shared) (σ : St) (H : Hp) (Q : VK), Inv X pins σ H s -> t σ H Q -> wpAny (model X.prog X.w) X.A (eval e X.env) (EP X pins σ Q) X.xe s
def PT (X : Cx) (e : Expr) (t : TT) : Prop :=
  ∀ (pins : List (Addr × Obj)) (s : Shared) (σ : St) (H : Hp) (Q : Bool -> Hp -> Prop), Inv X pins σ H s -> t σ H Q -> wpAny (model X.prog X.w) X.A (isTrue e X.env (eval e X.env)) (TP X pins σ Q) X.xe s
def PW (X : Cx) (e : Expr) (t : TT) : Prop :=
  ∀ (whole : Sem Value) (pins : List (Addr × Obj)) (s : Shared) (σ : St) (H : Hp) (Q : Bool -> Hp -> Prop), Inv X pins σ H s -> t σ H Q -> wpAny (model X.prog X.w) X.A (isTrue e X.env whole) (TP X pins σ Q) X.xe s
theorem PW.pt {X : Cx} {e : Expr} {t : TT} (h : PW X e t) : PT X e t := h _
def PA (X : Cx) (es : List Expr) (t : TA) : Prop :=
  ∀ (pos : Pos) (pins : List (Addr × Obj)) (s : Shared) (σ : St) (H : Hp) (Q : List V -> Hp -> Prop), Inv X pins σ H s -> t σ H Q -> wpAny (model X.prog X.w) X.A (spliced (backTo pos (starEach es X.env))) (AP X pins σ Q) X.xe s
def PS (X : Cx) (st : Stmt) (t : TS) : Prop :=
  ∀ (pins : List (Addr × Obj)) (s : Shared) (σ : St) (H : Hp) (D : Ends), Inv X pins σ H s -> t D σ H -> wpAny (model X.prog X.w) X.A (exec st X.env) (SP X pins D) X.xe s
def PSs (X : Cx) (st : List Stmt) (t : TS) : Prop :=
  ∀ (pins : List (Addr × Obj)) (s : Shared) (σ : St) (H : Hp) (D : Ends), Inv X pins σ H s -> t D σ H -> wpAny (model X.prog X.w) X.A (execs st X.env) (SP X pins D) X.xe s
theorem thn {α : Type} {t : Sem α} {Q Q' : α -> Shared -> Prop} {M : Model} {A : Around} {E : Value -> Shared -> Prop} {s : Shared} (h : wpAny M A t Q E s) (hQ : ∀ a s, Q a s -> Q' a s) : wpAny M A t Q' E s := wpAny_mono h hQ fun _ _ x => x
section
variable {X : Cx}
def z6c (i : Nat) : TE := fun σ H Q => ∃ v, σ[i]? = some (some v) /\ Q v H
def tC (v : V) : TE := fun _ H Q => Q v H
theorem z52 {i : Nat} {x : Str} {pos : Pos} (hN : X.N[i]? = some x) (hv : Vis X.env.scope x) (hd : (x == ("__debug__" : Str)) = false := by decide) (hcd : (x == ("__classdict__" : Str)) = false := by decide) : PE X (.Name x pos) (z6c i) := by
  intro pins s σ H Q I h
  obtain ⟨v, e, h⟩ := h
  obtain ⟨m, hn, hl⟩ := I.loc
  obtain ⟨u, r, l⟩ := hl i x v hN e hv
  have fin : EP X pins σ Q u s := ⟨v, H, I, r, h⟩
  rcases l with ⟨hk, hm⟩ | ⟨hk, c, hc, hcell⟩
  . exact wpAny_Name (wpAny_loadName_local I.ok.kind hk hn hm fin) hd
  . rcases hk with hk | hk
    . exact wpAny_Name (wpAny_loadName_cell I.ok.kind hk hc hcell fin) hd
    . exact wpAny_Name (wpAny_loadName_free I.ok.kind hk hc hcell fin hcd) hd
theorem z01 {i j pos} : PE X (.Constant (.int i) j pos) (tC (.int i)) := fun _ _ _ H _ I h => wpAny_Constant_int ⟨.int i, H, I.tok _, ⟨_, rfl⟩, h⟩
theorem z3d {b j pos} : PE X (.Constant (.bool b) j pos) (tC (.bl b)) := fun _ _ _ H _ I h => Constant_bool ⟨.bl b, H, I, rfl, h⟩
theorem z53 {j pos} : PE X (.Constant .none j pos) (tC .non) := fun _ _ _ H _ I h => Constant_none ⟨.non, H, I, rfl, h⟩
theorem z54 {x j pos} : PE X (.Constant (.str x) j pos) (tC (.str x)) := fun _ _ _ H _ I h => Calls.Constant_str ⟨.str x, H, I.tok _, ⟨_, rfl⟩, h⟩
def Gl (X : Cx) (x : Str) : Prop := X.env.kindOf x = some .globalImplicit
theorem z0x {E : Value -> Shared -> Prop} {pins : List (Addr × Obj)} {s : Shared} {σ : St} {H : Hp} {x : Str} {u : Value} {pos : Pos} {Q : Value -> Shared -> Prop} (I : Inv X pins σ H s) (hg : Gl X x) (hm : X.mg x = some u) (h : Q u s)
    (hd : (x == ("__debug__" : Str)) = false := by decide) : wpAny (model X.prog X.w) X.A (eval (.Name x pos) X.env) Q E s :=
  Calls.Name_function_global I.ok.kind hg (Calls.loadGlobal_global (by rw [I.ok.glob]; exact I.mod.glob.keeps I.bk) hm h) hd
theorem z1W {E : Value -> Shared -> Prop} {pins : List (Addr × Obj)} {s : Shared} {σ : St} {H : Hp} {x : Str} {u : Value} {pos : Pos} {Q : Value -> Shared -> Prop} (I : Inv X pins σ H s) (hg : Gl X x) (hm : X.mg x = none) (hv : bootBuiltins x = some u) (h : Q u s)
    (hn : x ≠ "__name__" := by decide) (hd : (x == ("__debug__" : Str)) = false := by decide) : wpAny (model X.prog X.w) X.A (eval (.Name x pos) X.env) Q E s := by
  obtain ⟨mb, h1, h2⟩ := I.mod.blt
  exact Calls.Name_function_global I.ok.kind hg (Calls.loadGlobal_builtin (by rw [I.ok.glob]; exact I.mod.glob.keeps I.bk) hm (by rw [I.ok.blt]; exact h1.keeps I.bk) ((h2 x hn).trans hv) h) hd
theorem z2e {x : Str} {v : V} {u : Value} {pos : Pos} (hg : Gl X x) (hm : X.mg x = some u) (r : RelV v u) (hd : (x == ("__debug__" : Str)) = false := by decide) : PE X (.Name x pos) (tC v) :=
  fun _ _ _ H _ I h => z0x I hg hm ⟨v, H, I, r, h⟩ hd
theorem z1P {x : Str} {v : V} {u : Value} {pos : Pos} (hg : Gl X x) (hm : X.mg x = none) (hv : bootBuiltins x = some u) (r : RelV v u) (hn : x ≠ "__name__" := by decide) (hd : (x == ("__debug__" : Str)) = false := by decide) : PE X (.Name x pos) (tC v) :=
  fun _ _ _ H _ I h => z1W I hg hm hv ⟨v, H, I, r, h⟩ hn hd
def t2I (ta tb : TE) (k : Int -> Int -> Hp -> Prop) : St -> Hp -> Prop := fun σ H => ta σ H fun x H1 => tb σ H1 fun y H2 => ∃ i j, x = .int i /\ y = .int j /\ k i j H2
def z8F (ta tb : TE) : TE := fun σ H Q => t2I ta tb (fun i j H2 => Q (.int (i + j)) H2) σ H
def z8G (ta tb : TE) : TE := fun σ H Q => t2I ta tb (fun i j H2 => Q (.int (i - j)) H2) σ H
def z8H (ta tb : TE) : TE := fun σ H Q => t2I ta tb (fun i j H2 => (-(2 ^ 64) < i /\ i < 2 ^ 64) /\ Q (.int (i * j)) H2) σ H
variable {a b : Expr} {ta tb : TE} {pos : Pos}
def PC (X : Cx) (op : CmpOp) (a b : Expr) (t : TE) : Prop :=
  ∀ (pins : List (Addr × Obj)) (s : Shared) (σ : St) (H : Hp) (Q : VK), Inv X pins σ H s -> t σ H Q ->
    wpAny (model X.prog X.w) X.A (eval a X.env) (fun v s₁ => wpAny (model X.prog X.w) X.A (eval b X.env) (fun u s₂ => wpAny (model X.prog X.w) X.A (compareOp op v u) (EP X pins σ Q) X.xe s₂) X.xe s₁) X.xe s
def z4s (p : Int -> Int -> Bool) (ta tb : TE) : TE := fun σ H Q => t2I ta tb (fun i j H2 => Q (.bl (p i j)) H2) σ H
abbrev tLt : TE -> TE -> TE := z4s fun i j => decide (i < j)
abbrev tLe : TE -> TE -> TE := z4s fun i j => decide (i <= j)
abbrev tGt : TE -> TE -> TE := z4s fun i j => decide (j < i)
abbrev tGe : TE -> TE -> TE := z4s fun i j => decide (j <= i)
abbrev z8I : TE -> TE -> TE := z4s fun i j => decide (i = j)
abbrev z8J : TE -> TE -> TE := z4s fun i j => !decide (i = j)
def z8K (ta : TE) : TE := fun σ H Q => ta σ H fun x H1 => Q (.bl (decide (x = .non))) H1
def z7R (ta : TE) : TE := fun σ H Q => ta σ H fun x H1 => Q (.bl (!decide (x = .non))) H1
def tB (t : TE) : TT := fun σ H Q => t σ H fun x H1 => ∃ c, x = .bl c /\ Q c H1
theorem z1X {e : Expr} {t : TE} (h : PE X e t) (he : ∀ whole, isTrue e X.env whole = (do let v <- whole; standAt e.pos; holding [v] (truthy v)) := by intro _; rfl) : PT X e (tB t) := by
  intro pins s σ H Q I hw
  refine isTrue_plain (thn (h pins s σ H _ I hw) fun v s1 ⟨x, H1, I1, r1, q1⟩ => ?_) (he _)
  obtain ⟨d, rfl, q⟩ := q1
  cases r1
  exact wpAny_truthy_bool ⟨H1, I1, q⟩
variable {tA tB' : TT} {rest : List Expr}
def z7S (t u : TT) : TT := fun σ H Q => t σ H fun c H1 => if c = true then u σ H1 Q else Q false H1
def tOr (t u : TT) : TT := fun σ H Q => t σ H fun c H1 => if c = true then Q true H1 else u σ H1 Q
def z7T (t : TT) : TT := fun σ H Q => t σ H fun c H1 => Q (!c) H1
theorem z2f (ha : PT X a tA) : PW X (.BoolOp .And [a] pos) tA := by
  intro wh pins s σ H Q I h
  refine isTrue_and (thn (ha pins s σ H Q I h) fun c s1 e => ?_)
  cases c with
  | true => exact isTrue_and_nil e
  | false => exact e
theorem z20 (ha : PT X a tA) : PW X (.BoolOp .Or [a] pos) tA := by
  intro wh pins s σ H Q I h
  refine isTrue_or (thn (ha pins s σ H Q I h) fun c s1 e => ?_)
  cases c with
  | false => exact isTrue_or_nil e
  | true => exact e
theorem z45 (ha : PT X a tA) (hb : PW X (.BoolOp .And (b :: rest) pos) tB') : PW X (.BoolOp .And (a :: b :: rest) pos) (z7S tA tB') := by
  intro wh pins s σ H Q I h
  refine isTrue_and (thn (ha pins s σ H _ I h) fun c s1 ⟨H1, I1, q1⟩ => ?_)
  cases c with
  | true => exact hb wh pins s1 σ H1 Q I1 q1
  | false => exact ⟨H1, I1, q1⟩
theorem z2K (ha : PT X a tA) (hb : PW X (.BoolOp .Or (b :: rest) pos) tB') : PW X (.BoolOp .Or (a :: b :: rest) pos) (tOr tA tB') := by
  intro wh pins s σ H Q I h
  refine isTrue_or (thn (ha pins s σ H _ I h) fun c s1 ⟨H1, I1, q1⟩ => ?_)
  cases c with
  | true => exact ⟨H1, I1, q1⟩
  | false => exact hb wh pins s1 σ H1 Q I1 q1
theorem z1B (ha : PT X a tA) : PT X (.UnaryOp .Not a pos) (z7T tA) := by
  intro pins s σ H Q I h
  exact isTrue_not (ha pins s σ H (fun c H1 => Q (!c) H1) I h)
def z5q (ta tb : TE) : TE := fun σ H Q => ta σ H fun x H1 => ∃ c, x = .bl c /\ if c = true then tb σ H1 Q else Q (.bl false) H1
def z8L (ta tb : TE) : TE := fun σ H Q => ta σ H fun x H1 => ∃ c, x = .bl c /\ if c = true then Q (.bl true) H1 else tb σ H1 Q
def z5r (ta : TE) : TE := fun σ H Q => ta σ H fun x H1 => ∃ c, x = .bl c /\ Q (.bl (!c)) H1
theorem z2g {op} {t : TE} (h : PE X a t) : PE X (.BoolOp op [a] pos) t := fun pins s σ H Q I hw => BoolOp_one (h pins s σ H Q I hw)
theorem z21 (ha : PE X a ta) (hb : PE X (.BoolOp .And (b :: rest) pos) tb) : PE X (.BoolOp .And (a :: b :: rest) pos) (z5q ta tb) := by
  intro pins s σ H Q I h
  refine BoolOp_and (thn (ha pins s σ H _ I h) fun v s1 ⟨x, H1, I1, r1, q1⟩ => ?_)
  obtain ⟨c, rfl, q1⟩ := q1
  cases r1
  refine wpAny_truthy_bool ?_
  cases c with
  | true => exact hb pins s1 σ H1 Q I1 q1
  | false => exact ⟨.bl false, H1, I1, rfl, q1⟩
theorem z46 (ha : PE X a ta) : PE X (.UnaryOp .Not a pos) (z5r ta) := by
  intro pins s σ H Q I h
  refine UnaryOp_ (thn (ha pins s σ H _ I h) fun v s1 ⟨x, H1, I1, r1, q1⟩ => ?_)
  obtain ⟨c, rfl, q1⟩ := q1
  cases r1
  exact not_of (wpAny_truthy_bool ⟨.bl (!c), H1, I1, rfl, q1⟩)
def tIf (t : TT) (ta tb : TE) : TE := fun σ H Q => t σ H fun c H1 => if c = true then ta σ H1 Q else tb σ H1 Q
theorem z3e {c : Expr} (hc : PT X c tA) (ha : PE X a ta) (hb : PE X b tb) : PE X (.IfExp c a b pos) (tIf tA ta tb) := by
  intro pins s σ H Q I h
  refine wpAny_IfExp (thn (hc pins s σ H _ I h) fun d s1 ⟨H1, I1, q1⟩ => ?_)
  cases d with
  | true => exact ha pins s1 σ H1 Q I1 q1
  | false => exact hb pins s1 σ H1 Q I1 q1
end
def SqL (K : PySem.W.Frag) (H : Hp) (a : Addr) (xs : List V) : Prop :=
  Rd H a (.lst xs) \/
    ∃ (o : Obj) (its : Array Value) (n : Nat), K.lookup a = some o /\ o.cls = .type "list" /\ o.dict = none /\ o.data = .seq its n /\ its.size <= sizeLine /\ Vals xs its.toList
def SqT (K : PySem.W.Frag) (H : Hp) (a : Addr) (xs : List V) : Prop :=
  Rd H a (.tup xs) \/
    ∃ (o : Obj) (its : Array Value) (n : Nat), K.lookup a = some o /\ o.cls = .type "tuple" /\ o.data = .seq its n /\ its.size <= sizeLine /\ Vals xs its.toList
def z7U : Value -> Option V
  | .none => some .non
  | .bool b => some (.bl b)
  | .int i _ => some (.int i)
  | .str x _ => some (.str x)
  | .bytes b _ => some (.byt b)
  | .float b _ => some (.flt b)
  | .ref a => some (.ref a)
  | .type n => some (.ty n)
  | _ => none
theorem RelV.abs {x : V} {u : Value} (r : RelV x u) : z7U u = some x := by
  cases x with
  | non => cases r; rfl
  | bl _ => cases r; rfl
  | int _ => obtain ⟨t, rfl⟩ := r; rfl
  | str _ => obtain ⟨t, rfl⟩ := r; rfl
  | byt _ => obtain ⟨t, rfl⟩ := r; rfl
  | flt _ => obtain ⟨t, rfl⟩ := r; rfl
  | ref _ => cases r; rfl
  | ty _ => cases r; rfl
theorem RelV.inj {x y : V} {u : Value} (r : RelV x u) (q : RelV y u) : x = y := Option.some.inj (r.abs.symm.trans q.abs)
theorem Vals.inj : ∀ {xs ys : List V} {us : List Value}, Vals xs us -> Vals ys us -> xs = ys
  | _, _, _, .nil, .nil => rfl
  | _, _, _, .cons r t, .cons r' t' => by rw [r.inj r', Vals.inj t t']
section
variable {X : Cx} {pins : List (Addr × Obj)} {σ : St} {H : Hp} {s : Shared} {a : Addr} {xs ys : List V}
theorem SqL.of {K : PySem.W.Frag} (h : H a = some (.lst xs)) : SqL K H a xs := .inl (.inl h)
theorem SqT.of {K : PySem.W.Frag} (h : H a = some (.tup xs)) : SqT K H a xs := .inl (.inl h)
theorem Inv.list (I : Inv X pins σ H s) (h : SqL X.K H a xs) : ∃ its : List Value, Vals xs its /\ PlainL s.heap a its.toArray /\ xs.length <= sizeLine := by
  rcases h with h | ⟨o, its, n, hk, hc, hd, hs, hz, r⟩
  . obtain ⟨z, its, n, r, e⟩ := h.ok I.hok
    exact ⟨its, r, ⟨_, n, e, rfl, rfl, rfl⟩, z⟩
  . refine ⟨its.toList, r, ⟨o, n, I.kIn a o hk, hc, hd, by simpa using hs⟩, ?_⟩
    have e := r.length
    simp only [Array.length_toList] at e
    omega
theorem Inv.tuple (I : Inv X pins σ H s) (h : SqT X.K H a xs) : ∃ its : List Value, Vals xs its /\ IsTup s.heap a its.toArray /\ xs.length <= sizeLine := by
  rcases h with h | ⟨o, its, n, hk, hc, hs, hz, r⟩
  . obtain ⟨z, its, r, p⟩ := h.ok I.hok
    exact ⟨its, r, p, z⟩
  . refine ⟨its.toList, r, ⟨o, I.kIn a o hk, hc, n, by simpa using hs⟩, ?_⟩
    have e := r.length
    simp only [Array.length_toList] at e
    omega
theorem Inv.list_inj (I : Inv X pins σ H s) (h : SqL X.K H a xs) (h' : SqL X.K H a ys) : xs = ys := by
  obtain ⟨its, r, ⟨o, n, e, _, _, d⟩, _⟩ := I.list h
  obtain ⟨its', r', ⟨o', n', e', _, _, d'⟩, _⟩ := I.list h'
  rw [e] at e'; cases e'
  rw [d] at d'
  injection d' with d1 _
  have : its = its' := by simpa using congrArg Array.toList d1
  subst this
  exact r.inj r'
theorem Inv.tuple_inj (I : Inv X pins σ H s) (h : SqT X.K H a xs) (h' : SqT X.K H a ys) : xs = ys := by
  obtain ⟨its, r, ⟨o, e, _, n, d⟩, _⟩ := I.tuple h
  obtain ⟨its', r', ⟨o', e', _, n', d'⟩, _⟩ := I.tuple h'
  rw [e] at e'; cases e'
  rw [d] at d'
  injection d' with d1 _
  have : its = its' := by simpa using congrArg Array.toList d1
  subst this
  exact r.inj r'
end
abbrev Cx.wish (X : Cx) (E : Value -> Shared -> Prop) : Cx := { X with xe := E }
abbrev Cx.nox (X : Cx) : Cx := X.wish fun _ _ => False
theorem Cx.Ok.wish {X : Cx} (ok : X.Ok) (E : Value -> Shared -> Prop) : (X.wish E).Ok :=
  ⟨ok.mod, ok.kind, ok.glob, ok.blt, ok.above, ok.inj, ok.has, ok.cab, ok.hd, ok.frames, ok.stk, ok.exf, ok.bs, ok.bsz, ok.noex, ok.exfs, ok.funs, ok.frf⟩
theorem Cx.Ok.unwish {X : Cx} {E : Value -> Shared -> Prop} (ok : (X.wish E).Ok) : X.Ok :=
  ⟨ok.mod, ok.kind, ok.glob, ok.blt, ok.above, ok.inj, ok.has, ok.cab, ok.hd, ok.frames, ok.stk, ok.exf, ok.bs, ok.bsz, ok.noex, ok.exfs, ok.funs, ok.frf⟩
section
variable {X : Cx} {pins : List (Addr × Obj)} {σ : St} {H : Hp} {s : Shared} {E : Value -> Shared -> Prop}
theorem Inv.wish (I : Inv X pins σ H s) (E : Value -> Shared -> Prop) : Inv (X.wish E) pins σ H s := ⟨I.ok.wish E, I.os, I.bare, I.base, I.loc, I.cell, I.free, I.freeC, I.pin, I.hok, I.len⟩
theorem Inv.unwish (I : Inv (X.wish E) pins σ H s) : Inv X pins σ H s := ⟨I.ok.unwish, I.os, I.bare, I.base, I.loc, I.cell, I.free, I.freeC, I.pin, I.hok, I.len⟩
theorem SP.unwish {D : Ends} {f : Flow} {s' : Shared} (h : SP (X.wish E) pins D f s') : SP X pins D f s' := by
  cases f with
  | next => obtain ⟨σ', H', I, q⟩ := h; exact ⟨σ', H', I.unwish, q⟩
  | brk => obtain ⟨σ', H', I, q⟩ := h; exact ⟨σ', H', I.unwish, q⟩
  | cont => obtain ⟨σ', H', I, q⟩ := h; exact ⟨σ', H', I.unwish, q⟩
  | ret u => obtain ⟨v, σ', H', I, r, q⟩ := h; exact ⟨v, σ', H', I.unwish, r, q⟩
theorem PE.nox {e : Expr} {t : TE} (h : PE X.nox e t) : PE X e t := fun pins s σ H Q I hw =>
  wpAny_mono (h pins s σ H Q (I.wish _) hw) (fun _ _ ⟨v, H', I', r, q⟩ => ⟨v, H', I'.unwish, r, q⟩) fun _ _ z => False.elim z
theorem PT.nox {e : Expr} {t : TT} (h : PT X.nox e t) : PT X e t := fun pins s σ H Q I hw =>
  wpAny_mono (h pins s σ H Q (I.wish _) hw) (fun _ _ ⟨H', I', q⟩ => ⟨H', I'.unwish, q⟩) fun _ _ z => False.elim z
theorem PSs.nox {st : List Stmt} {t : TS} (h : PSs X.nox st t) : PSs X st t := fun pins s σ H D I hw =>
  wpAny_mono (h pins s σ H D (I.wish _) hw) (fun _ _ q => q.unwish) fun _ _ z => False.elim z
end
section
variable {X : Cx} {st : Stmt} {rest : List Stmt} {t u : TS} {e : Expr} {te : TE} {pos : Pos}
def z5s : TS := fun D σ H => D.nx σ H
def z7V (t u : TS) : TS := fun D σ H => t { D with nx := u D } σ H
theorem z0I : PSs X [] z5s := fun _ _ σ H _ I h => wpAny_execs_nil ⟨σ, H, I, h⟩
theorem z03 (h1 : PS X st t) (h2 : PSs X rest u) : PSs X (st :: rest) (z7V t u) := by
  intro pins s σ H D I h
  refine wpAny_execs_cons (thn (h1 pins s σ H { D with nx := u D } I h) fun f s1 q => ?_)
  cases f with
  | next =>
    obtain ⟨σ', H', I', q⟩ := q
    exact h2 pins s1 σ' H' D I' q
  | ret v => exact q
  | brk => exact q
  | cont => exact q
theorem z06 (h1 : PS X st t) : PSs X [st] t := by
  intro pins s σ H D I h
  refine wpAny_execs_cons (thn (h1 pins s σ H D I h) fun f s1 q => ?_)
  cases f with
  | next => exact wpAny_execs_nil q
  | ret v => exact q
  | brk => exact q
  | cont => exact q
def z6d : TS := fun D σ H => D.bk σ H
def z7W : TS := fun D σ H => D.ct σ H
theorem Inv.quiet {pins : List (Addr × Obj)} {σ : St} {H : Hp} {s : Shared} (I : Inv X pins σ H s) : interactive X.env = false := by simp [interactive, I.ok.kind]
def z5t (te : TE) : TS := fun D σ H => te σ H fun _ H1 => D.nx σ H1
theorem z1m (he : PE X e te) (hs : swapsWith e none pos.line X.env = pure false := by rfl) : PS X (.Expr e pos) (z5t te) := by
  intro pins s σ H D I h
  exact wpAny_Expr_any (thn (he pins s σ H _ I h) fun v s1 ⟨x, H1, I1, r1, q1⟩ => ⟨σ, H1, I1, q1⟩) I.quiet hs
def z7X (te : TE) : TS := fun D σ H => te σ H D.rt
theorem z0J (he : PE X e te) : PS X (.Return (some e) pos) (z7X te) := by
  intro pins s σ H D I h
  exact wpAny_Return_some (thn (he pins s σ H _ I h) fun v s1 ⟨x, H1, I1, r1, q1⟩ => ⟨x, σ, H1, I1, r1, q1⟩)
def z7Y : TS := fun D _ H => D.rt .non H
def z7Z (c : TT) (t u : TS) : TS := fun D σ H => c σ H fun b H1 => if b = true then t D σ H1 else u D σ H1
theorem z0h {c : Expr} {a b : List Stmt} {tc : TT} (hc : PT X c tc) (ha : PSs X a t) (hb : PSs X b u) : PS X (.If c a b pos) (z7Z tc t u) := by
  intro pins s σ H D I h
  refine wpAny_If (thn (hc pins s σ H _ I h) fun d s1 ⟨H1, I1, q1⟩ => ?_)
  cases d with
  | true => exact ha pins s1 σ H1 D I1 q1
  | false => exact hb pins s1 σ H1 D I1 q1
def z6e : TS := fun _ _ _ => False
end
abbrev TG := V -> St -> Hp -> (St -> Hp -> Prop) -> Prop
abbrev TGs := List V -> St -> Hp -> (St -> Hp -> Prop) -> Prop
def PG (X : Cx) (target : Expr) (t : TG) : Prop :=
  ∀ (pins : List (Addr × Obj)) (s : Shared) (σ : St) (H : Hp) (v : V) (u : Value) (Q : St -> Hp -> Prop), Inv X pins σ H s -> RelV v u -> t v σ H Q ->
    wpAny (model X.prog X.w) X.A (assign target X.env u) (fun _ s' => ∃ σ' H', Inv X pins σ' H' s' /\ Q σ' H') X.xe s
def PGs (X : Cx) (ts : List Expr) (t : TGs) : Prop :=
  ∀ (pins : List (Addr × Obj)) (s : Shared) (σ : St) (H : Hp) (vs : List V) (us : List Value) (Q : St -> Hp -> Prop), Inv X pins σ H s -> Vals vs us -> t vs σ H Q ->
    wpAny (model X.prog X.w) X.A (assignInOrder ((assignEach ts X.env).map (·.2)) us) (fun _ s' => ∃ σ' H', Inv X pins σ' H' s' /\ Q σ' H') X.xe s
abbrev z5u := V -> V -> V -> Hp -> (Hp -> Prop) -> Prop
def z8M (X : Cx) (t : z5u) : Prop :=
  ∀ (pins : List (Addr × Obj)) (s : Shared) (σ : St) (H : Hp) (o i v : V) (ov iv u : Value) (Q : Hp -> Prop), Inv X pins σ H s -> RelV o ov -> RelV i iv -> RelV v u -> t o i v H Q ->
    wpAny (model X.prog X.w) X.A (setItem ov iv u) (fun _ s' => ∃ H', Inv X pins σ H' s' /\ Q H') X.xe s
abbrev TIp := V -> V -> Hp -> VK -> Prop
def PIp (X : Cx) (op : Operator) (t : TIp) : Prop :=
  ∀ (pins : List (Addr × Obj)) (s : Shared) (σ : St) (H : Hp) (x y : V) (v u : Value) (Q : VK), Inv X pins σ H s -> RelV x v -> RelV y u -> t x y H Q ->
    wpAny (model X.prog X.w) X.A (inplaceOp op v u) (EP X pins σ Q) X.xe s
section
variable {X : Cx} {pos : Pos}
def z55 (i : Nat) : TG := fun v σ H Q => Q (σ.set i (some v)) H
theorem z0Z {i : Nat} {x : Str} (hN : X.N.Nodup) (hi : X.N[i]? = some x) (hx : Loc X.env.scope x) (hf : X.fn x = true \/ X.env.scope.names.lookup x = some .local := by first | exact .inl rfl | exact .inr rfl | assumption) : PG X (.Name x pos) (z55 i) := by
  intro pins s σ H v u Q I r h
  exact wpAny_assign_Name (z16 I hN hi hx r (fun s' I' => ⟨_, H, I', h⟩) hf)
def z7a : TGs := fun vs σ H Q => vs = [] /\ Q σ H
def z5v (t : TG) (u : TGs) : TGs := fun vs σ H Q => ∃ v r, vs = v :: r /\ t v σ H fun σ' H' => u r σ' H' Q
theorem z2h : PGs X [] z7a := by
  intro pins s σ H vs us Q I r h
  obtain ⟨e, h⟩ := h
  subst e
  cases r
  exact assignInOrder_nil ⟨σ, H, I, h⟩
theorem z0i {e : Expr} {es : List Expr} {t : TG} {u : TGs} (h1 : PG X e t) (h2 : PGs X es u)
    (hs : (assignEach (e :: es) X.env).map (·.2) = assign e X.env :: (assignEach es X.env).map (·.2) := by rfl) : PGs X (e :: es) (z5v t u) := by
  intro pins s σ H vs us Q I r h
  obtain ⟨v, vr, e1, h⟩ := h
  subst e1
  cases r with
  | cons r rr =>
    rw [hs]
    refine assignInOrder_cons (thn (h1 pins s σ H _ _ _ I r h) fun _ s1 ⟨σ1, H1, I1, q1⟩ => ?_)
    exact h2 pins s1 σ1 H1 _ _ Q I1 rr q1
def z7b (K : PySem.W.Frag) (n : Nat) (t : TGs) : TG := fun v σ H Q => ∃ a xs, v = .ref a /\ SqT K H a xs /\ xs.length = n /\ t xs σ H Q
theorem z47 {es : List Expr} {k : Nat} {t : TGs} {n : Nat} (hc : X.calm = true) (h : PGs X es t)
    (hn : (assignEach es X.env).length = n := by rfl) (hst : (assignEach es X.env).findIdx? (·.1) = none := by rfl) : PG X (.Tuple es k pos) (z7b X.K n t) := by
  intro pins s σ H v u Q I r hw
  obtain ⟨a, xs, e1, hq, hl, hw⟩ := hw
  subst e1
  cases r
  obtain ⟨its, rv, ht, hz⟩ := I.tuple hq
  refine assign_Tuple_tuple (I.ok.hd hc) ht (by simp [hn, <- hl, rv.length]) hst fun h' hx => ?_
  have I1 : Inv X pins σ H { s with heap := h' } := I.kept (t' := s.toks) fun b o e => hx b o (Nat.ne_of_lt (Heap.lt_size e)) e
  exact h pins _ σ H xs _ Q I1 (by simpa using rv) hw
def z8N (to ti : TE) (t : z5u) : TG := fun v σ H Q => to σ H fun o H1 => ti σ H1 fun i H2 => t o i v H2 fun H3 => Q σ H3
def z6f (te : TE) (g : TG) : TS := fun D σ H => te σ H fun x H1 => g x σ H1 D.nx
theorem z48 {tg e : Expr} {te : TE} {g : TG} (he : PE X e te) (hg : PG X tg g) (hs : swapsWithSole [tg] e pos.line X.env = pure false := by rfl) (hw : swappedStores [tg] e X.env = pure none := by rfl)
    (h1 : (assignEach [tg] X.env).map (·.2) = [assign tg X.env] := by rfl) : PS X (.Assign [tg] e pos) (z6f te g) := by
  intro pins s σ H D I h
  refine wpAny_Assign_stores (thn (he pins s σ H _ I h) fun v s1 ⟨x, H1, I1, r1, q1⟩ => ?_) hs hw
  rw [h1]
  exact thn (hg pins s1 σ H1 x v _ I1 r1 q1) fun _ s2 q => q
theorem z0B {i : Nat} {x : Str} {e : Expr} {te : TE} {pos' : Pos} (hN : X.N.Nodup) (hi : X.N[i]? = some x) (hx : Loc X.env.scope x) (he : PE X e te) (hs : swapsWith e (some (.Name x pos')) pos.line X.env = pure false := by rfl) (hf : X.fn x = true \/ X.env.scope.names.lookup x = some .local := by first | exact .inl rfl | exact .inr rfl | assumption) :
    PS X (.Assign [.Name x pos'] e pos) (z6f te (z55 i)) := by
  intro pins s σ H D I h
  refine wpAny_Assign_Name (thn (he pins s σ H _ I h) fun v s1 ⟨y, H1, I1, r1, q1⟩ => ?_) hs
  exact z16 I1 hN hi hx r1 (fun s2 I2 => ⟨_, H1, I2, q1⟩) hf
def z8O (i j : Nat) (ta : TA) : TS := fun D σ H => ta σ H fun vs H1 => ∃ v w, vs = [v, w] /\ D.nx ((σ.set i (some v)).set j (some w)) H1
def z8P (i : Nat) (te : TE) (ti : TIp) : TS := fun D σ H => ∃ x, σ[i]? = some (some x) /\ te σ H fun y H1 => ti x y H1 fun z H2 => D.nx (σ.set i (some z)) H2
def z7c (to ti te : TE) (tget : V -> V -> Hp -> VK -> Prop) (tip : TIp) (tset : z5u) : TS := fun D σ H => to σ H fun o H1 => ti σ H1 fun i H2 => tget o i H2 fun x H3 => te σ H3 fun y H4 => tip x y H4 fun z H5 => tset o i z H5 fun H6 => D.nx σ H6
def z8Q (X : Cx) (t : V -> V -> Hp -> VK -> Prop) : Prop :=
  ∀ (pins : List (Addr × Obj)) (s : Shared) (σ : St) (H : Hp) (o i : V) (ov iv : Value) (Q : VK), Inv X pins σ H s -> RelV o ov -> RelV i iv -> t o i H Q ->
    wpAny (model X.prog X.w) X.A (getItem ov iv) (EP X pins σ Q) X.xe s
def ipI (f : Int -> Int -> Int) : TIp := fun x y H Q => ∃ i j, x = .int i /\ y = .int j /\ Q (.int (f i j)) H
end
section
variable {X : Cx} {pos : Pos}
def z6g (c : TT) (tb : TS) : TS := fun D σ H => ∃ W : Nat -> St -> Hp -> Prop, (∃ m, W m σ H) /\ ∀ m σ H, W m σ H ->
  c σ H fun b H1 => if b = true then ∃ N : St -> Hp -> Prop, (∀ σ' H', N σ' H' -> ∃ m', m' < m /\ W m' σ' H') /\ tb { D with nx := N, ct := N, bk := D.nx } σ H1 else D.nx σ H1
end
structure It where
  go : Nat -> Hp -> Prop
  yld : Nat -> Hp -> V -> Hp -> Prop
  stop : Nat -> Hp -> Prop
def z2Z (X : Cx) (pins : List (Addr × Obj)) (H : Hp) (b : Addr) : Prop :=
  H b = none /\ b ≠ X.env.locals /\ b ∉ X.fs /\ (b ∈ X.ex \/ X.s₀.heap.objs.size <= b) /\ (∀ x c, X.env.cells.lookup x = some c -> c ≠ b) /\ ∀ p ∈ X.pn ++ pins, p.1 ≠ b
theorem Inv.fpOk {X : Cx} {pins : List (Addr × Obj)} {σ : St} {H H' : Hp} {s : Shared} {b : Addr} (I : Inv X pins σ H s) (hb : s.heap.objs.size <= b) (hn : H' b = none) : z2Z X pins H' b := by
  refine ⟨hn, Nat.ne_of_gt (Nat.lt_of_lt_of_le I.lt hb), I.nofs hb, .inr (Nat.le_trans I.sz hb), fun x c e z => ?_, fun p hp z => ?_⟩
  . obtain ⟨v, q⟩ := I.cell x c e
    exact absurd (Nat.lt_of_lt_of_le q.lt (by rw [z]; exact hb)) (Nat.lt_irrefl _)
  . exact absurd (Nat.lt_of_lt_of_le (Heap.lt_size (I.pin p hp).1) (by rw [z]; exact hb)) (Nat.lt_irrefl _)
structure Turn (P : Program) (w : World) (K : PySem.W.Frag) (tg : Expr) (J : It) (fp : List Addr) (it : Addr) (tn : Nat -> Heap -> Prop) : Prop where
  mem : it ∈ fp
  obj : ∀ i h, tn i h -> ∀ b ∈ fp, ∃ o, h.get? b = some o /\ ∀ v, o.data ≠ .cell v
  keep : ∀ i h h', tn i h -> (∀ b ∈ fp, ∀ o, h.get? b = some o -> h'.get? b = some o) -> tn i h'
  item : ∀ (X : Cx), X.prog = P -> X.w = w -> X.K = K -> X.calm = true -> ∀ (i : Nat) (pins : List (Addr × Obj)) (s : Shared) (σ : St) (H : Hp) (E : Value -> Shared -> Prop), Inv X pins σ H s -> (∀ b ∈ fp, z2Z X pins H b) -> tn i s.heap -> J.go i H ->
    wpAny (model P w) X.A (pyNext (.ref it)) (fun r s1 => ∃ u, r = some u /\
      wpAny (model P w) X.A (letOwnedTupleGo tg (.ref it) u) (fun _ s2 => ∃ x H', Inv X pins σ H' s2 /\ RelV x u /\ J.yld i H x H' /\ tn (i + 1) s2.heap /\ ∀ b ∈ fp, H' b = none) E s1) E s
  done : ∀ (X : Cx), X.prog = P -> X.w = w -> X.K = K -> X.calm = true -> ∀ (i : Nat) (pins : List (Addr × Obj)) (s : Shared) (σ : St) (H : Hp) (E : Value -> Shared -> Prop), Inv X pins σ H s -> (∀ b ∈ fp, z2Z X pins H b) -> tn i s.heap -> J.stop i H ->
    wpAny (model P w) X.A (pyNext (.ref it)) (fun r s1 => r = none /\ Inv X pins σ H s1) E s
  self : ∀ (A : Around) (i : Nat) (s : Shared) (Q : Value -> Shared -> Prop) (E : Value -> Shared -> Prop), tn i s.heap -> Q (.ref it) s -> wpAny (model P w) A (pyIter (.ref it)) Q E s
abbrev TI := St -> Hp -> (It -> Hp -> Prop) -> Prop
def PIE (X : Cx) (pins : List (Addr × Obj)) (σ : St) (tg : Expr) (R : It -> Hp -> Prop) (itv : Value) (s2 : Shared) : Prop :=
  ∃ (it : Addr) (fp : List Addr) (tn : Nat -> Heap -> Prop) (J : It) (H' : Hp), itv = .ref it /\ Inv X pins σ H' s2 /\ Turn X.prog X.w X.K tg J fp it tn /\ tn 0 s2.heap /\ (∀ b ∈ fp, z2Z X pins H' b) /\ R J H'
def PI (X : Cx) (tg iter : Expr) (wi : TI) : Prop :=
  ∀ (pins : List (Addr × Obj)) (s : Shared) (σ : St) (H : Hp) (R : It -> Hp -> Prop), Inv X pins σ H s -> wi σ H R ->
    wpAny (model X.prog X.w) X.A (eval iter X.env) (fun v s1 => wpAny (model X.prog X.w) X.A (pyIter v) (PIE X pins σ tg R) X.xe s1) X.xe s
theorem z3f {M : Model} {A : Around} {E : Value -> Shared -> Prop} {s : Shared} {tg : Expr} {it : Addr} {u : Value} {o : Obj} {n : String} {vs : Array Value} {Q : Unit -> Shared -> Prop} (ho : s.heap.get? it = some o) (hc : o.cls = .type n) (hd : o.data = .fields vs)
    (hn : ["enumerate", "zip", "dict_itemiterator", "dict_reverseitemiterator", "odict_iterator", "itertools.zip_longest", "itertools.pairwise"].contains n = false) (hQ : Q () s) : wpAny M A (letOwnedTupleGo tg (.ref it) u) Q E s := by
  unfold letOwnedTupleGo
  cases tg <;> first
    | exact wpAny_pure hQ
    | (cases u <;> first
        | exact wpAny_pure hQ
        | (refine wpAny_bind (wpAny_load ho ?_)
           rw [hc, hd]
           show wpAny M A (if (["enumerate", "zip", "dict_itemiterator", "dict_reverseitemiterator", "odict_iterator", "itertools.zip_longest", "itertools.pairwise"].contains n && vs[0]? == some (rawInt _)) = true then _ else _) Q E s
           rw [if_neg (by intro h; rw [hn, Bool.false_and] at h; cases h)]
           exact wpAny_pure hQ))
def Itl (K : PySem.W.Frag) (a : Addr) : It :=
  ⟨fun i H => ∃ xs x, SqL K H a xs /\ xs[i]? = some x, fun i H x H' => H' = H /\ ∀ xs, SqL K H a xs -> xs[i]? = some x, fun i H => ∃ xs, SqL K H a xs /\ xs.length <= i⟩
def Itt (K : PySem.W.Frag) (a : Addr) : It :=
  ⟨fun i H => ∃ xs x, SqT K H a xs /\ xs[i]? = some x, fun i H x H' => H' = H /\ ∀ xs, SqT K H a xs -> xs[i]? = some x, fun i H => ∃ xs, SqT K H a xs /\ xs.length <= i⟩
def Itr (lo : Int) (n : Nat) : It := ⟨fun i _ => i < n, fun i H x H' => H' = H /\ x = .int (lo + i), fun i _ => n <= i⟩
theorem z2i {P : Program} {w : World} {K : PySem.W.Frag} {tg : Expr} (a it : Addr) : Turn P w K tg (Itl K a) [it] it (fun i h => h.IsListIter it a i) where
  mem := by simp
  obj := fun i h st b hb => by
    have e : b = it := by simpa using hb
    subst e
    obtain ⟨o, e, c, d⟩ := st
    exact ⟨o, e, fun v z => by rw [d] at z; cases z⟩
  keep := fun i h h' st k => st.at fun o e => k it (by simp) o e
  item := by
    intro X hP hw hK hc i pins s σ H E I hf st hg
    subst hP hw hK
    obtain ⟨xs, x, hq, hx⟩ := hg
    obtain ⟨its, rv, p, hz⟩ := I.list hq
    obtain ⟨u, hu, ru⟩ := rv.get hx
    obtain ⟨f0, f1, f2, f3, f4, f5⟩ := hf it (by simp)
    refine wpAny_pyNext_list_item st p.isList (x := u) (by simpa using hu) fun h' st' sb => ?_
    have I1 : Inv X pins σ H { s with heap := h' } := I.turned (t' := s.toks) (fun b o hb e => (sb.2 b hb).trans e) f0 f1 f3 f4 f5
    obtain ⟨o, e, c, d⟩ := id st'
    exact ⟨u, rfl, z3f (s := { s with heap := h' }) e c d (by decide) ⟨x, H, I1, ru, ⟨rfl, fun ys hy => by rw [I.list_inj hy hq]; exact hx⟩, st', fun b hb => (hf b hb).1⟩⟩
  done := by
    intro X hP hw hK hc i pins s σ H E I hf st hg
    subst hP hw hK
    obtain ⟨xs, hq, hx⟩ := hg
    obtain ⟨its, rv, p, hz⟩ := I.list hq
    obtain ⟨f0, f1, f2, f3, f4, f5⟩ := hf it (by simp)
    have hl := rv.length
    exact wpAny_pyNext_list_end (I.ok.hd hc) st p.isList (by simp; omega) fun h' eb => ⟨rfl, I.turned (t' := s.toks) (fun b o hb e => eb b o hb e) f0 f1 f3 f4 f5⟩
  self := fun _ _ _ _ _ st h => wpAny_pyIter_listiter st h
theorem z2L {P : Program} {w : World} {K : PySem.W.Frag} {tg : Expr} (a it : Addr) : Turn P w K tg (Itt K a) [it] it (fun i h => h.IsTupleIter it a i) where
  mem := by simp
  obj := fun i h st b hb => by
    have e : b = it := by simpa using hb
    subst e
    obtain ⟨o, e, c, d⟩ := st
    exact ⟨o, e, fun v z => by rw [d] at z; cases z⟩
  keep := fun i h h' st k => st.at fun o e => k it (by simp) o e
  item := by
    intro X hP hw hK hc i pins s σ H E I hf st hg
    subst hP hw hK
    obtain ⟨xs, x, hq, hx⟩ := hg
    obtain ⟨its, rv, p, hz⟩ := I.tuple hq
    obtain ⟨u, hu, ru⟩ := rv.get hx
    obtain ⟨f0, f1, f2, f3, f4, f5⟩ := hf it (by simp)
    refine wpAny_pyNext_tuple_item st (show s.heap.IsTuple a its.toArray from p) (x := u) (by simpa using hu) fun h' st' sb => ?_
    have I1 : Inv X pins σ H { s with heap := h' } := I.turned (t' := s.toks) (fun b o hb e => (sb.2 b hb).trans e) f0 f1 f3 f4 f5
    obtain ⟨o, e, c, d⟩ := id st'
    exact ⟨u, rfl, z3f (s := { s with heap := h' }) e c d (by decide) ⟨x, H, I1, ru, ⟨rfl, fun ys hy => by rw [I.tuple_inj hy hq]; exact hx⟩, st', fun b hb => (hf b hb).1⟩⟩
  done := by
    intro X hP hw hK hc i pins s σ H E I hf st hg
    subst hP hw hK
    obtain ⟨xs, hq, hx⟩ := hg
    obtain ⟨its, rv, p, hz⟩ := I.tuple hq
    obtain ⟨f0, f1, f2, f3, f4, f5⟩ := hf it (by simp)
    have hl := rv.length
    exact wpAny_pyNext_tuple_end (I.ok.hd hc) st (show s.heap.IsTuple a its.toArray from p) (by simp; omega) fun h' eb => ⟨rfl, I.turned (t' := s.toks) (fun b o hb e => eb b o hb e) f0 f1 f3 f4 f5⟩
  self := fun _ _ _ _ _ st h => wpAny_pyIter_tupleiter st h
theorem z2M {P : Program} {w : World} {K : PySem.W.Frag} {tg : Expr} (it : Addr) (lo : Int) (n : Nat) : Turn P w K tg (Itr lo n) [it] it (fun i h => IsRangeIter h it (lo + (i : Nat) * 1) ((n : Int) - (i : Nat)) 1) where
  mem := by simp
  obj := fun i h st b hb => by
    have e : b = it := by simpa using hb
    subst e
    exact ⟨_, st, fun v z => by
      have z' : Data.fields _ = Data.cell v := z
      cases z'⟩
  keep := fun i h h' st k => k it (by simp) _ st
  item := by
    intro X hP hw hK hc i pins s σ H E I hf st hg
    subst hP hw hK
    obtain ⟨f0, f1, f2, f3, f4, f5⟩ := hf it (by simp)
    have W := Walks.range (prog := X.prog) (w := X.w) (I.ok.hd hc) it lo 1 n
    refine W.item i s _ _ hg st fun v h' tk hv st' kk => ?_
    obtain ⟨t, rfl⟩ := hv
    have I1 : Inv X pins σ H { s with heap := h', toks := tk } := I.turned (fun b o hb e => kk b o (by simpa using hb) e) f0 f1 f3 f4 f5
    refine ⟨_, rfl, z3f (s := { s with heap := h', toks := tk }) (n := "range_iterator") st' rfl rfl (by decide) ⟨.int (lo + i), H, I1, ⟨t, ?_⟩, ⟨rfl, rfl⟩, st', fun b hb => (hf b hb).1⟩⟩
    rw [Int.mul_one]
  done := by
    intro X hP hw hK hc i pins s σ H E I hf st hg
    subst hP hw hK
    obtain ⟨f0, f1, f2, f3, f4, f5⟩ := hf it (by simp)
    exact wpAny_pyNext_range_end (I.ok.hd hc) st (by have : n <= i := hg; omega) fun h' eb => ⟨rfl, I.turned (t' := s.toks) (fun b o hb e => eb b o hb e) f0 f1 f3 f4 f5⟩
  self := fun _ _ _ _ _ st h => wpAny_pyIter_rangeiter st h
section
variable {X : Cx} {tg : Expr}
def z5w (K : PySem.W.Frag) (tl : TE) : TI := fun σ H R => tl σ H fun x H1 => ∃ a, x = .ref a /\ (∃ xs, SqL K H1 a xs) /\ R (Itl K a) H1
def z7d (K : PySem.W.Frag) (tl : TE) : TI := fun σ H R => tl σ H fun x H1 => ∃ a, x = .ref a /\ (∃ xs, SqT K H1 a xs) /\ R (Itt K a) H1
theorem z4L {l : Expr} {tl : TE} (hl : PE X l tl) : PI X tg l (z5w X.K tl) := by
  intro pins s σ H R I h
  refine thn (hl pins s σ H _ I h) fun v s1 ⟨x, H1, I1, r1, q1⟩ => ?_
  obtain ⟨a, e, ⟨xs, hq⟩, q⟩ := q1
  subst e
  cases r1
  obtain ⟨its, rv, p, hz⟩ := I1.list hq
  refine wpAny_pyIter_list p.isList ?_
  refine ⟨s1.heap.objs.size, [s1.heap.objs.size], _, _, H1, rfl, I1.kept (t' := s1.toks) fun b o e => Heap.get?_push_of_some _ e, z2i a _, ⟨_, Heap.get?_push_size _ rfl, rfl, rfl⟩, fun b hb => ?_, q⟩
  have e : b = s1.heap.objs.size := by simpa using hb
  subst e
  exact I1.fpOk (Nat.le_refl _) (I1.hok.fresh (Nat.le_refl _))
theorem z56 {l : Expr} {tl : TE} (hl : PE X l tl) : PI X tg l (z7d X.K tl) := by
  intro pins s σ H R I h
  refine thn (hl pins s σ H _ I h) fun v s1 ⟨x, H1, I1, r1, q1⟩ => ?_
  obtain ⟨a, e, ⟨xs, hq⟩, q⟩ := q1
  subst e
  cases r1
  obtain ⟨its, rv, p, hz⟩ := I1.tuple hq
  refine wpAny_pyIter_tuple (show s1.heap.IsTuple a its.toArray from p) ?_
  refine ⟨s1.heap.objs.size, [s1.heap.objs.size], _, _, H1, rfl, I1.kept (t' := s1.toks) fun b o e => Heap.get?_push_of_some _ e, z2L a _, ⟨_, Heap.get?_push_size _ rfl, rfl, rfl⟩, fun b hb => ?_, q⟩
  have e : b = s1.heap.objs.size := by simpa using hb
  subst e
  exact I1.fpOk (Nat.le_refl _) (I1.hok.fresh (Nat.le_refl _))
theorem z3g {pins : List (Addr × Obj)} {σ : St} {H : Hp} {s : Shared} {R : It -> Hp -> Prop} {E : Value -> Shared -> Prop} {lo hi : Int} {t u v : Tok} {tk : Nat} (I : Inv X pins σ H s) (h1 : -(2 ^ 62) <= lo) (h2 : lo < 2 ^ 62) (h3 : -(2 ^ 62) <= hi) (h4 : hi < 2 ^ 62)
    (q : R (Itr lo (hi - lo).toNat) H) : wpAny (model X.prog X.w) X.A (pyIter (.ref s.heap.objs.size)) (PIE X pins σ tg R) E { s with heap := s.heap.push { cls := .type "range", data := .fields #[.int lo t, .int hi u, .int 1 v] }, toks := tk } := by
  refine wpAny_pyIter_range (IsRange.new ..) (small_one h1 h2 h3 h4) ?_
  have I1 : Inv X pins σ H { s with heap := s.heap.push { cls := .type "range", data := .fields #[.int lo t, .int hi u, .int 1 v] }, toks := tk } := I.kept fun b o e => Heap.get?_push_of_some _ e
  refine ⟨(s.heap.push { cls := .type "range", data := .fields #[.int lo t, .int hi u, .int 1 v] }).objs.size, [(s.heap.push { cls := .type "range", data := .fields #[.int lo t, .int hi u, .int 1 v] }).objs.size], _, _, H, rfl,
    I1.kept (t' := tk) fun b o e => Heap.get?_push_of_some _ e, z2M _ lo (hi - lo).toNat, ?_, fun b hb => ?_, q⟩
  . have e1 : lo + ((0 : Nat) : Int) * 1 = lo := by simp
    have e2 : (((hi - lo).toNat : Nat) : Int) - ((0 : Nat) : Int) = Builtin.Range.rangeSize lo hi 1 := by rw [rangeSize_one]; split <;> omega
    show IsRangeIter _ _ (lo + ((0 : Nat) : Int) * 1) ((((hi - lo).toNat : Nat) : Int) - ((0 : Nat) : Int)) 1
    rw [e1, e2]
    exact Heap.get?_push_size _ rfl
  . have e : b = (s.heap.push { cls := .type "range", data := .fields #[.int lo t, .int hi u, .int 1 v] }).objs.size := by simpa using hb
    subst e
    exact I1.fpOk (Nat.le_refl _) (I1.hok.fresh (Nat.le_refl _))
def z5x (ta : TA) : TI := fun σ H R => ta σ H fun vs H1 => ∃ j : Int, vs = [.int j] /\ -(2 ^ 62) <= j /\ j < 2 ^ 62 /\ R (Itr 0 j.toNat) H1
def z7e (ta : TA) : TI := fun σ H R => ta σ H fun vs H1 => ∃ i j : Int, vs = [.int i, .int j] /\ (-(2 ^ 62) <= i /\ i < 2 ^ 62 /\ -(2 ^ 62) <= j /\ j < 2 ^ 62) /\ R (Itr i (j - i).toNat) H1
theorem z2j {a : Expr} {ta : TA} {p pos : Pos} (hg : Gl X "range") (hm : X.mg "range" = none) (ha : PA X [a] ta) (hs : starEach [a] X.env = [(false, eval a X.env)] := by rfl) : PI X tg (.Call (.Name "range" p) [a] [] pos) (z5x ta) := by
  intro pins s σ H R I h
  refine Call_ (z1W I hg hm boot_range (PyProof.Rows.callWith_type1 (thn (ha pos pins s σ H _ I h) fun us s1 ⟨vs, H1, I1, r1, q1⟩ => ?_) hs rfl))
  obtain ⟨j, e, q1, q2, q⟩ := q1
  subst e
  cases r1 with
  | cons r rr =>
    cases rr
    obtain ⟨t, rfl⟩ := r
    exact call_range_1 (z3g I1 (by omega) (by omega) q1 q2 (by simpa using q))
def z7f (wi : TI) (g : TG) (tb : TS) : TS := fun D σ H => wi σ H fun J H1 => ∃ W : Nat -> Nat -> St -> Hp -> Prop, (∃ m, W 0 m σ H1) /\ ∀ i m σ H, W i m σ H ->
  (J.stop i H /\ D.nx σ H) \/ (J.go i H /\ ∃ N : St -> Hp -> Prop, (∀ σ' H', N σ' H' -> ∃ m', m' < m /\ W (i + 1) m' σ' H') /\ ∀ x H', J.yld i H x H' -> g x σ H' fun σ2 H2 => tb { D with nx := N, ct := N, bk := D.nx } σ2 H2)
def z1Y (fp : List Addr) (h : Heap) : List (Addr × Obj) := fp.filterMap fun b => (h.get? b).map fun o => (b, o)
theorem z0s {fp : List Addr} {h : Heap} {b : Addr} {o : Obj} (hb : b ∈ fp) (e : h.get? b = some o) : (b, o) ∈ z1Y fp h := List.mem_filterMap.mpr ⟨b, hb, by rw [e]; rfl⟩
theorem z2k {fp : List Addr} {h : Heap} {p : Addr × Obj} (hp : p ∈ z1Y fp h) : p.1 ∈ fp /\ h.get? p.1 = some p.2 := by
  obtain ⟨b, hb, e⟩ := List.mem_filterMap.mp hp
  cases q : h.get? b with
  | none => rw [q] at e; cases e
  | some o =>
    rw [q] at e
    have e' : (b, o) = p := Option.some.inj e
    subst e'
    exact ⟨hb, q⟩
theorem Inv.pinned {pins : List (Addr × Obj)} {σ : St} {H : Hp} {s : Shared} {fp : List Addr} (I : Inv X pins σ H s) (hf : ∀ b ∈ fp, z2Z X pins H b) (ho : ∀ b ∈ fp, ∃ o, s.heap.get? b = some o /\ ∀ v, o.data ≠ .cell v) : Inv X (pins ++ z1Y fp s.heap) σ H s :=
  I.pins_of fun p hp => (List.mem_append.mp hp).elim (fun z => I.pin p (List.mem_append_right _ z)) fun z => by
    obtain ⟨hb, e⟩ := z2k z
    obtain ⟨f0, f1, f2, _⟩ := hf p.1 hb
    obtain ⟨o, e', d⟩ := ho p.1 hb
    rw [e] at e'; cases e'
    exact ⟨e, f0, f1, f2, d⟩
theorem Inv.unpinned {pins pl : List (Addr × Obj)} {σ : St} {H : Hp} {s : Shared} (I : Inv X (pins ++ pl) σ H s) : Inv X pins σ H s := I.pins_of fun p hp => I.pin p (List.mem_append_right _ (List.mem_append_left _ hp))
theorem z49 {iter : Expr} {body : List Stmt} {wi : TI} {g : TG} {tb : TS} {pos : Pos} (hp : PassesOwn (model X.prog X.w) X.A X.env X.xe) (hc : X.calm = true) (hi : PI X tg iter wi) (hg : PG X tg g) (hb : PSs X body tb)
    (hs : ∀ x, foldedSetIterable iter X.env x = pure x := by intro _; rfl) : PS X (.For tg iter body [] pos) (z7f wi g tb) := by
  intro pins s σ H D I h
  refine wpAny_For (thn (hi pins s σ H _ I h) fun v s1 h1 => thn h1 fun itv s2 h2 => ?_) hs
  obtain ⟨it, fp, tn, J, H2, e, I2, T, st2, f2, W, ⟨m0, w0⟩, turn⟩ := h2
  subst e
  have stat : ∀ {H' : Hp}, (∀ b ∈ fp, H' b = none) -> ∀ b ∈ fp, z2Z X pins H' b := fun hn b hb => ⟨hn b hb, (f2 b hb).2⟩
  refine codeAny_forLoop_any (fun n s' => ∃ i σ' H', Inv X pins σ' H' s' /\ tn i s'.heap /\ (∀ b ∈ fp, H' b = none) /\ W i n σ' H') ?_ m0 ⟨0, σ, H2, I2, st2, fun b hb => (f2 b hb).1, w0⟩
  rintro n s3 ⟨i, σ3, H3, I3, st3, fr3, w3⟩
  rcases turn i n σ3 H3 w3 with ⟨stop, qn⟩ | ⟨go, N, hN, step⟩
  . refine wpAny_passesOwn hp (thn (T.done X rfl rfl rfl hc i pins s3 σ3 H3 X.xe I3 (stat fr3) st3 stop) fun r s4 ⟨hr, I4⟩ => ?_)
    subst hr
    exact wpAny_execs_nil ⟨σ3, H3, I4, qn⟩
  . refine wpAny_passesOwn hp (thn (T.item X rfl rfl rfl hc i pins s3 σ3 H3 X.xe I3 (stat fr3) st3 go) fun r s4 ⟨u, hr, h4⟩ => ?_)
    subst hr
    refine wpAny_passesOwn hp (thn h4 fun _ s5 ⟨x, H5, I5, r5, y5, st5, fr5⟩ => ?_)
    have I5' := I5.pinned (stat fr5) (T.obj _ _ st5)
    refine wpAny_passesOwn hp (thn (hg _ s5 σ3 H5 x u _ I5' r5 (step x H5 y5)) fun _ s6 ⟨σ6, H6, I6, q6⟩ => ?_)
    refine wpAny_passesOwn hp (thn (hb _ s6 σ6 H6 _ I6 q6) fun f s7 q7 => ?_)
    have again : ∀ {σ7 : St} {H7 : Hp}, Inv X (pins ++ z1Y fp s5.heap) σ7 H7 s7 -> N σ7 H7 -> ∃ m, m < n /\ ∃ i σ' H', Inv X pins σ' H' s7 /\ tn i s7.heap /\ (∀ b ∈ fp, H' b = none) /\ W i m σ' H' := fun {σ7 H7} I7 n7 => by
      obtain ⟨m', hm, w7⟩ := hN σ7 H7 n7
      refine ⟨m', hm, i + 1, σ7, H7, I7.unpinned, T.keep _ _ _ st5 fun b hb o e => (I7.pin (b, o) (List.mem_append_right _ (List.mem_append_right _ (z0s hb e)))).1, fun b hb => ?_, w7⟩
      obtain ⟨o, e, d⟩ := T.obj _ _ st5 b hb
      exact (I7.pin (b, o) (List.mem_append_right _ (List.mem_append_right _ (z0s hb e)))).2.1
    cases f with
    | next => obtain ⟨σ7, H7, I7, n7⟩ := q7; exact again I7 n7
    | cont => obtain ⟨σ7, H7, I7, n7⟩ := q7; exact again I7 n7
    | brk => obtain ⟨σ7, H7, I7, q7⟩ := q7; exact ⟨σ7, H7, I7.unpinned, q7⟩
    | ret v => obtain ⟨x7, σ7, H7, I7, r7, q7⟩ := q7; exact ⟨x7, σ7, H7, I7.unpinned, r7, q7⟩
end
theorem z3h {K : PySem.W.Frag} {a : Addr} {xs : List V} {g : TG} {tb : TS} {D : Ends} {σ : St} {H : Hp} (Pv : Nat -> St -> Hp -> Prop) (h0 : Pv 0 σ H) (hl : ∀ i σ H, i <= xs.length -> Pv i σ H -> SqL K H a xs)
    (hs : ∀ i x σ H, xs[i]? = some x -> Pv i σ H -> g x σ H fun σ2 H2 => tb { D with nx := Pv (i + 1), ct := Pv (i + 1), bk := D.nx } σ2 H2) (hd : ∀ σ H, Pv xs.length σ H -> D.nx σ H) :
    ∃ W : Nat -> Nat -> St -> Hp -> Prop, (∃ m, W 0 m σ H) /\ ∀ i m σ H, W i m σ H ->
      ((Itl K a).stop i H /\ D.nx σ H) \/ ((Itl K a).go i H /\ ∃ N : St -> Hp -> Prop, (∀ σ' H', N σ' H' -> ∃ m', m' < m /\ W (i + 1) m' σ' H') /\ ∀ x H', (Itl K a).yld i H x H' -> g x σ H' fun σ2 H2 => tb { D with nx := N, ct := N, bk := D.nx } σ2 H2) := by
  refine ⟨fun i m σ H => m = xs.length - i /\ i <= xs.length /\ Pv i σ H, ⟨xs.length, by simp, Nat.zero_le _, h0⟩, ?_⟩
  rintro i m σ H ⟨rfl, hi, p⟩
  have q := hl i σ H hi p
  by_cases hlt : i < xs.length
  . refine .inr ⟨⟨xs, xs[i], q, by simp [hlt]⟩, Pv (i + 1), fun σ' H' p' => ⟨xs.length - (i + 1), by omega, rfl, hlt, p'⟩, fun x H' y => ?_⟩
    obtain ⟨e, y⟩ := y
    subst e
    exact hs i x σ _ (y xs q) p
  . have e : i = xs.length := by omega
    subst e
    exact .inl ⟨⟨xs, q, Nat.le_refl _⟩, hd σ H p⟩
abbrev R2 := V -> V -> Hp -> VK -> Prop
def OpR (X : Cx) (f : Value -> Value -> Sem Value) (r : R2) : Prop :=
  ∀ (pins : List (Addr × Obj)) (s : Shared) (σ : St) (H : Hp) (x y : V) (v u : Value) (Q : VK), Inv X pins σ H s -> RelV x v -> RelV y u -> r x y H Q ->
    wpAny (model X.prog X.w) X.A (f v u) (EP X pins σ Q) X.xe s
def UnR (X : Cx) (f : Value -> Sem Value) (r : V -> Hp -> VK -> Prop) : Prop :=
  ∀ (pins : List (Addr × Obj)) (s : Shared) (σ : St) (H : Hp) (x : V) (v : Value) (Q : VK), Inv X pins σ H s -> RelV x v -> r x H Q ->
    wpAny (model X.prog X.w) X.A (f v) (EP X pins σ Q) X.xe s
def CallR (X : Cx) (f : Value) (r : List V -> Hp -> VK -> Prop) : Prop :=
  ∀ (pins : List (Addr × Obj)) (s : Shared) (σ : St) (H : Hp) (xs : List V) (us : List Value) (Q : VK), Inv X pins σ H s -> Vals xs us -> r xs H Q ->
    wpAny (model X.prog X.w) X.A (call f us) (EP X pins σ Q) X.xe s
def z8R (X : Cx) (r : V -> Hp -> (Bool -> Hp -> Prop) -> Prop) : Prop :=
  ∀ (pins : List (Addr × Obj)) (s : Shared) (σ : St) (H : Hp) (x : V) (v : Value) (Q : Bool -> Hp -> Prop), Inv X pins σ H s -> RelV x v -> r x H Q ->
    wpAny (model X.prog X.w) X.A (truthy v) (TP X pins σ Q) X.xe s
def tOp (r : R2) (ta tb : TE) : TE := fun σ H Q => ta σ H fun x H1 => tb σ H1 fun y H2 => r x y H2 Q
def tUn (r : V -> Hp -> VK -> Prop) (ta : TE) : TE := fun σ H Q => ta σ H fun x H1 => r x H1 Q
def rI (C : Int -> Int -> Prop) (g : Int -> Int -> V) : R2 := fun x y H Q => ∃ i j, x = .int i /\ y = .int j /\ C i j /\ Q (g i j) H
def rI0 (g : Int -> Int -> V) : R2 := fun x y H Q => ∃ i j, x = .int i /\ y = .int j /\ Q (g i j) H
def rU (g : Int -> V) : V -> Hp -> VK -> Prop := fun x H Q => ∃ i, x = .int i /\ Q (g i) H
section
variable {X : Cx} {a b c : Expr} {ta tb tc : TE} {pos : Pos}
theorem z5y (ha : PE X a ta) (hb : PE X b tb) {pins : List (Addr × Obj)} {s : Shared} {σ : St} {H : Hp} {R : V -> V -> Hp -> Prop} (I : Inv X pins σ H s)
    (h : ta σ H fun x H1 => tb σ H1 fun y H2 => R x y H2) {Q : Value -> Shared -> Prop} {f : Value -> Value -> Sem Value}
    (hf : ∀ v u s2 x y H2, Inv X pins σ H2 s2 -> RelV x v -> RelV y u -> R x y H2 -> wpAny (model X.prog X.w) X.A (f v u) Q X.xe s2) :
    wpAny (model X.prog X.w) X.A (eval a X.env) (fun v s₁ => wpAny (model X.prog X.w) X.A (eval b X.env) (fun u s₂ => wpAny (model X.prog X.w) X.A (f v u) Q X.xe s₂) X.xe s₁) X.xe s := by
  refine thn (ha pins s σ H _ I h) fun v s1 ⟨x, H1, I1, r1, q1⟩ => ?_
  refine thn (hb pins s1 σ H1 _ I1 q1) fun u s2 ⟨y, H2, I2, r2, q2⟩ => ?_
  exact hf v u s2 x y H2 I2 r1 r2 q2
theorem z09 {op : Operator} {r : R2} (ho : OpR X (binaryOp op) r) (ha : PE X a ta) (hb : PE X b tb) : PE X (.BinOp a op b pos) (tOp r ta tb) := by
  intro pins s σ H Q I h
  exact wpAny_BinOp (z5y ha hb I h fun v u s2 x y H2 I2 rx ry q => ho pins s2 σ H2 x y v u Q I2 rx ry q)
theorem z57 {op : UnaryOp} {r : V -> Hp -> VK -> Prop} (ho : UnR X (unaryOp op) r) (ha : PE X a ta) : PE X (.UnaryOp op a pos) (tUn r ta) := by
  intro pins s σ H Q I h
  exact UnaryOp_ (thn (ha pins s σ H _ I h) fun v s1 ⟨x, H1, I1, r1, q1⟩ => ho pins s1 σ H1 x v Q I1 r1 q1)
theorem opI {f : Value -> Value -> Sem Value} {C : Int -> Int -> Prop} {g : Int -> Int -> Int}
    (rule : ∀ (i j : Int) (t u : Tok) (s : Shared) (Q : Value -> Shared -> Prop) (E : Value -> Shared -> Prop), C i j -> Q (.int (g i j) s.toks) { s with toks := s.toks + 1 } -> wpAny (model X.prog X.w) X.A (f (.int i t) (.int j u)) Q E s) :
    OpR X f (rI C fun i j => .int (g i j)) := by
  intro pins s σ H x y v u Q I rx ry h
  obtain ⟨i, j, rfl, rfl, hc, q⟩ := h
  obtain ⟨t, rfl⟩ := rx
  obtain ⟨t', rfl⟩ := ry
  exact rule i j t t' s _ _ hc ⟨.int (g i j), H, I.tok _, ⟨_, rfl⟩, q⟩
theorem z6h {f : Value -> Value -> Sem Value} {g : Int -> Int -> Int}
    (rule : ∀ (i j : Int) (t u : Tok) (s : Shared) (Q : Value -> Shared -> Prop) (E : Value -> Shared -> Prop), Q (.int (g i j) s.toks) { s with toks := s.toks + 1 } -> wpAny (model X.prog X.w) X.A (f (.int i t) (.int j u)) Q E s) :
    OpR X f (rI0 fun i j => .int (g i j)) := by
  intro pins s σ H x y v u Q I rx ry h
  obtain ⟨i, j, rfl, rfl, q⟩ := h
  obtain ⟨t, rfl⟩ := rx
  obtain ⟨t', rfl⟩ := ry
  exact rule i j t t' s _ _ ⟨.int (g i j), H, I.tok _, ⟨_, rfl⟩, q⟩
theorem z6i {f : Value -> Value -> Sem Value} {g : Int -> Int -> Bool}
    (rule : ∀ (i j : Int) (t u : Tok) (s : Shared) (Q : Value -> Shared -> Prop) (E : Value -> Shared -> Prop), Q (.bool (g i j)) s -> wpAny (model X.prog X.w) X.A (f (.int i t) (.int j u)) Q E s) :
    OpR X f (rI0 fun i j => .bl (g i j)) := by
  intro pins s σ H x y v u Q I rx ry h
  obtain ⟨i, j, rfl, rfl, q⟩ := h
  obtain ⟨t, rfl⟩ := rx
  obtain ⟨t', rfl⟩ := ry
  exact rule i j t t' s _ _ ⟨.bl (g i j), H, I, rfl, q⟩
def z7g (i j : Int) : Prop := 0 < j /\ j < 1073741824
def z7h (i j : Int) : Prop := j ≠ 0 /\ j.natAbs < 1073741824
def z6j (i j : Int) : Prop := 0 <= j /\ j <= 1000000 /\ i.natAbs < 2 ^ 64
def CMul (i j : Int) : Prop := (-(2 ^ 64) < i /\ i < 2 ^ 64) \/ (-(2 ^ 64) < j /\ j < 2 ^ 64)
theorem CMul.ok {i j : Int} (h : CMul i j) : IntMulOk i j := by
  rcases h with ⟨h1, h2⟩ | ⟨h1, h2⟩
  . exact .of_left (intBits_le_64 h1 h2)
  . exact .of_right (intBits_le_64 h1 h2)
theorem z0T : OpR X (binaryOp .Add) (rI0 fun i j => .int (i + j)) := z6h fun _ _ _ _ _ _ _ q => add_int q
theorem z0n : OpR X (binaryOp .Sub) (rI0 fun i j => .int (i - j)) := z6h fun _ _ _ _ _ _ _ q => sub_int q
theorem z0z : OpR X (binaryOp .Mult) (rI CMul fun i j => .int (i * j)) := opI fun _ _ _ _ _ _ _ hc q => mul_int q hc.ok
theorem z4M : OpR X (binaryOp .FloorDiv) (rI z7g fun i j => .int (i / j)) := opI fun i j _ _ _ _ _ hc q => by
  have h1 : (0 : Int) < j := hc.1
  have h2 : j < 1073741824 := hc.2
  exact floordiv_int (by omega) (by rw [Int.fdiv_eq_ediv_of_nonneg i (by omega)]; exact q) (.inl (PyProof.noPylong_small (by omega)))
theorem z0u : OpR X (binaryOp .Mod) (rI (fun _ j => 0 < j) fun i j => .int (i % j)) := opI fun i j _ _ _ _ _ hc q => by
  have h1 : (0 : Int) < j := hc
  exact mod_int' (by omega) (by rw [Int.fmod_eq_emod_of_nonneg i (by omega)]; exact q)
theorem z1N : OpR X (binaryOp .Pow) (rI z6j fun i j => .int (i ^ j.toNat)) := opI fun _ _ _ _ _ _ _ hc q => pow_int_small hc.1 hc.2.1 hc.2.2 q
theorem unI {f : Value -> Sem Value} {g : Int -> Int}
    (rule : ∀ (i : Int) (t : Tok) (s : Shared) (Q : Value -> Shared -> Prop) (E : Value -> Shared -> Prop), Q (.int (g i) s.toks) { s with toks := s.toks + 1 } -> wpAny (model X.prog X.w) X.A (f (.int i t)) Q E s) :
    UnR X f (rU fun i => .int (g i)) := by
  intro pins s σ H x v Q I rx h
  obtain ⟨i, rfl, q⟩ := h
  obtain ⟨t, rfl⟩ := rx
  exact rule i t s _ _ ⟨.int (g i), H, I.tok _, ⟨_, rfl⟩, q⟩
theorem z4A : UnR X (unaryOp .USub) (rU fun i => .int (-i)) := unI fun _ _ _ _ _ q => neg_int q
end
def z58 : V -> V -> Bool
  | .non, .non => true | .non, .int _ => true | .int _, .non => true | .non, .bl _ => true | .bl _, .non => true | .non, .str _ => true | .str _, .non => true
  | .int _, .int _ => true | .bl _, .bl _ => true | .str _, .str _ => true | .byt _, .byt _ => true
  | .int _, .str _ => true | .str _, .int _ => true | .bl _, .str _ => true | .str _, .bl _ => true
  | _, _ => false
def rEq : R2 := fun x y H Q => z58 x y = true /\ Q (.bl (decide (x = y))) H
def rNe : R2 := fun x y H Q => z58 x y = true /\ Q (.bl (!decide (x = y))) H
theorem z2l {i j : Int} : decide (V.int i = V.int j) = (i == j) := by
  rw [Bool.eq_iff_iff]
  simp
theorem z4B {i j : Bool} : decide (V.bl i = V.bl j) = (i == j) := by
  rw [Bool.eq_iff_iff]
  simp
theorem z2m {i j : Str} : decide (V.str i = V.str j) = (i == j) := by
  rw [Bool.eq_iff_iff]
  simp
theorem z2n {i j : Array UInt8} : decide (V.byt i = V.byt j) = (i.toList == j.toList) := by
  rw [Bool.eq_iff_iff]
  cases i
  cases j
  simp
section
variable {X : Cx} {a b c : Expr} {ta tb tc : TE} {pos : Pos}
theorem z0E {pins : List (Addr × Obj)} {σ : St} {H : Hp} {s : Shared} {Q : VK} {k k' : Bool} (I : Inv X pins σ H s) (q : Q (.bl k) H) (e : k = k') : EP X pins σ Q (.bool k') s := by
  subst e
  exact ⟨.bl k, H, I, rfl, q⟩
theorem z0m : OpR X (compareOp .Eq) rEq := by
  intro pins s σ H x y v u Q I rx ry h
  obtain ⟨hs, q⟩ := h
  cases x with
  | non =>
    cases rx
    cases y with
    | non => cases ry; exact PySem.EqNone.eq_none_none (z0E I q (by simp))
    | bl j => cases ry; exact PySem.EqNone.eq_none_bool (z0E I q (by simp))
    | int j => obtain ⟨t', rfl⟩ := ry; exact PySem.EqNone.eq_none_int (z0E I q (by simp))
    | str j => obtain ⟨t', rfl⟩ := ry; exact PySem.EqNone.eq_none_str (z0E I q (by simp))
    | _ => exact absurd (show false = true from hs) Bool.false_ne_true
  | bl i =>
    cases rx
    cases y with
    | non => cases ry; exact PySem.EqNone.eq_bool_none (z0E I q (by simp))
    | bl j => cases ry; exact eq_bool (z0E I q z4B)
    | str j => obtain ⟨t', rfl⟩ := ry; exact PySem.EqMixed.eq_bool_str (z0E I q (by simp))
    | _ => exact absurd (show false = true from hs) Bool.false_ne_true
  | int i =>
    obtain ⟨t, rfl⟩ := rx
    cases y with
    | non => cases ry; exact PySem.EqNone.eq_int_none (z0E I q (by simp))
    | int j => obtain ⟨t', rfl⟩ := ry; exact eq_int (z0E I q z2l)
    | str j => obtain ⟨t', rfl⟩ := ry; exact PySem.EqMixed.eq_int_str (z0E I q (by simp))
    | _ => exact absurd (show false = true from hs) Bool.false_ne_true
  | str i =>
    obtain ⟨t, rfl⟩ := rx
    cases y with
    | non => cases ry; exact PySem.EqNone.eq_str_none (z0E I q (by simp))
    | bl j => cases ry; exact PySem.EqMixed.eq_str_bool (z0E I q (by simp))
    | int j => obtain ⟨t', rfl⟩ := ry; exact PySem.EqMixed.eq_str_int (z0E I q (by simp))
    | str j => obtain ⟨t', rfl⟩ := ry; exact eq_str (z0E I q z2m)
    | _ => exact absurd (show false = true from hs) Bool.false_ne_true
  | byt i =>
    obtain ⟨t, rfl⟩ := rx
    cases y with
    | byt j => obtain ⟨t', rfl⟩ := ry; exact PySem.W.eq_bytes (z0E I q z2n)
    | _ => exact absurd (show false = true from hs) Bool.false_ne_true
  | _ => cases y <;> exact absurd (show false = true from hs) Bool.false_ne_true
theorem z5z : OpR X (compareOp .NotEq) rNe := by
  intro pins s σ H x y v u Q I rx ry h
  obtain ⟨hs, q⟩ := h
  cases x with
  | non =>
    cases rx
    cases y with
    | non => cases ry; exact PySem.EqNone.ne_none_none (z0E I q (by simp))
    | bl j => cases ry; exact PySem.EqNone.ne_none_bool (z0E I q (by simp))
    | int j => obtain ⟨t', rfl⟩ := ry; exact PySem.EqNone.ne_none_int (z0E I q (by simp))
    | str j => obtain ⟨t', rfl⟩ := ry; exact PySem.EqNone.ne_none_str (z0E I q (by simp))
    | _ => exact absurd (show false = true from hs) Bool.false_ne_true
  | bl i =>
    cases rx
    cases y with
    | non => cases ry; exact PySem.EqNone.ne_bool_none (z0E I q (by simp))
    | bl j => cases ry; exact ne_bool (z0E I q (congrArg not z4B))
    | str j => obtain ⟨t', rfl⟩ := ry; exact PySem.EqMixed.ne_bool_str (z0E I q (by simp))
    | _ => exact absurd (show false = true from hs) Bool.false_ne_true
  | int i =>
    obtain ⟨t, rfl⟩ := rx
    cases y with
    | non => cases ry; exact PySem.EqNone.ne_int_none (z0E I q (by simp))
    | int j => obtain ⟨t', rfl⟩ := ry; exact ne_int (z0E I q (congrArg not z2l))
    | str j => obtain ⟨t', rfl⟩ := ry; exact PySem.EqMixed.ne_int_str (z0E I q (by simp))
    | _ => exact absurd (show false = true from hs) Bool.false_ne_true
  | str i =>
    obtain ⟨t, rfl⟩ := rx
    cases y with
    | non => cases ry; exact PySem.EqNone.ne_str_none (z0E I q (by simp))
    | bl j => cases ry; exact PySem.EqMixed.ne_str_bool (z0E I q (by simp))
    | int j => obtain ⟨t', rfl⟩ := ry; exact PySem.EqMixed.ne_str_int (z0E I q (by simp))
    | str j => obtain ⟨t', rfl⟩ := ry; exact ne_str (z0E I q (congrArg not z2m))
    | _ => exact absurd (show false = true from hs) Bool.false_ne_true
  | byt i =>
    obtain ⟨t, rfl⟩ := rx
    cases y with
    | byt j => obtain ⟨t', rfl⟩ := ry; exact PySem.W.ne_bytes (z0E I q (congrArg not z2n))
    | _ => exact absurd (show false = true from hs) Bool.false_ne_true
  | _ => cases y <;> exact absurd (show false = true from hs) Bool.false_ne_true
theorem z2o : OpR X (compareOp .LtE) (rI0 fun i j => .bl (decide (i <= j))) := z6i fun _ _ _ _ _ _ _ q => le_int q
theorem z60 : OpR X (compareOp .Gt) (rI0 fun i j => .bl (decide (j < i))) := z6i fun _ _ _ _ _ _ _ q => gt_int q
theorem z4N : OpR X (compareOp .IsNot) (fun x y H Q => y = .non /\ Q (.bl (!decide (x = .non))) H) := by
  intro pins s σ H x y v u Q I rx ry h
  obtain ⟨rfl, q⟩ := h
  cases ry
  refine isnot_none_gen (z0E I q ?_)
  cases x <;> first
    | (cases rx; rfl)
    | (obtain ⟨t, rfl⟩ := rx; rfl)
def isObj : HO -> Bool
  | .lst _ => true
  | .ins _ _ _ => true
  | _ => false
theorem OpR.or {f : Value -> Value -> Sem Value} {r r' : R2} (h : OpR X f r) (h' : OpR X f r') : OpR X f (fun x y H Q => r x y H Q \/ r' x y H Q) := by
  intro pins s σ H x y v u Q I rx ry q
  rcases q with q | q
  . exact h pins s σ H x y v u Q I rx ry q
  . exact h' pins s σ H x y v u Q I rx ry q
theorem z0N (b : Expr) {op : CmpOp} (h : op ≠ .In := by decide) (h2 : op ≠ .NotIn := by decide) : behindInMarks op b = false := by
  have e1 : (op == CmpOp.In) = false := by cases op <;> first | rfl | exact absurd rfl h
  have e2 : (op == CmpOp.NotIn) = false := by cases op <;> first | rfl | exact absurd rfl h2
  cases b <;> simp [behindInMarks, e1, e2]
theorem z4O {op : CmpOp} {r : R2} (ho : OpR X (compareOp op) r) (ha : PE X a ta) (hb : PE X b tb) (hm : behindInMarks op b = false) : PE X (.Compare a [op] [b] pos) (tOp r ta tb) := by
  intro pins s σ H Q I h
  exact wpAny_Compare1 (z5y ha hb I h fun v u s2 x y H2 I2 rx ry q => ho pins s2 σ H2 x y v u Q I2 rx ry q) hm
def z59 (t : TE) : TT := fun σ H Q => t σ H fun x H' => ∃ k, x = .bl k /\ Q k H'
theorem z0F {op : CmpOp} {r : R2} (ho : OpR X (compareOp op) r) (ha : PE X a ta) (hb : PE X b tb) (hm : behindInMarks op b = false) : PT X (.Compare a [op] [b] pos) (z59 (tOp r ta tb)) := by
  intro pins s σ H Q I h
  refine wpAny_isTrue_Compare1 (thn (ha pins s σ H _ I h) fun v s1 ⟨x, H1, I1, r1, q1⟩ => thn (hb pins s1 σ H1 _ I1 q1) fun u s2 ⟨y, H2, I2, r2, q2⟩ =>
    thn (ho pins s2 σ H2 x y v u _ I2 r1 r2 q2) fun c s3 ⟨z, H3, I3, r3, k, e, q3⟩ => ?_) hm
  subst e
  cases r3
  exact wpAny_truthy_bool ⟨H3, I3, q3⟩
def z5A (r r' : R2) (ta tb tc : TE) : TE := fun σ H Q => ta σ H fun x H1 => tb σ H1 fun y H2 => r x y H2 fun z H3 => ∃ k, z = .bl k /\
  (if k = true then tc σ H3 fun w' H4 => r' y w' H4 Q else Q (.bl false) H3)
theorem z22 {op op' : CmpOp} {r r' : R2} (ho : OpR X (compareOp op) r) (ho' : OpR X (compareOp op') r') (ha : PE X a ta) (hb : PE X b tb) (hc : PE X c tc)
    (hm : lastMarks [op, op'] [b, c] = false := by with_unfolding_all rfl) : PT X (.Compare a [op, op'] [b, c] pos) (z59 (z5A r r' ta tb tc)) := by
  intro pins s σ H Q I h
  refine isTrue_chain (thn (ha pins s σ H _ I h) fun v s1 ⟨x, H1, I1, r1, q1⟩ => test_link (thn (hb pins s1 σ H1 _ I1 q1) fun u s2 ⟨y, H2, I2, r2, q2⟩ =>
    thn (ho pins s2 σ H2 x y v u _ I2 r1 r2 q2) fun d s3 ⟨z, H3, I3, r3, k, e, q3⟩ => ?_)) hm
  subst e
  cases r3
  refine wpAny_truthy_bool ?_
  cases k with
  | false =>
    obtain ⟨k', e', q'⟩ := q3
    cases e'
    exact ite_ff ⟨H3, I3, q'⟩
  | true =>
    refine ite_tt (test_last (thn (hc pins s3 σ H3 _ I3 q3) fun w' s4 ⟨z', H4, I4, r4, q4⟩ => thn (ho' pins s4 σ H4 y z' u w' _ I4 r2 r4 q4) fun d' s5 ⟨z2, H5, I5, r5, k2, e2, q5⟩ => ?_))
    subst e2
    cases r5
    exact wpAny_truthy_bool ⟨H5, I5, q5⟩
def z8S (K : PySem.W.Frag) (x : V) (H : Hp) (k : Bool) : Prop :=
  match x with
  | .non => k = false
  | .bl b => k = b
  | .int i => k = (i != 0)
  | .str y => y.length <= sizeLine /\ k = ((y.length : Int) != 0)
  | .byt y => y.size <= sizeLine /\ k = ((y.size : Int) != 0)
  | .ref p => (∃ xs, SqL K H p xs /\ k = !xs.isEmpty) \/ (∃ xs, SqT K H p xs /\ k = !xs.isEmpty) \/ ∃ kvs, H p = some (.dK kvs) /\ k = !kvs.isEmpty
  | _ => False
theorem z2p : (sizeLine : Nat) < 2 ^ 63 := by rw [sizeLine_eq]; decide
def z5e (b : Expr) : Prop := ∀ o i, subscripted b false o i = operate [o, i] (getItem o i)
theorem vals1 {x : V} {us : List Value} (r : Vals [x] us) : ∃ u, us = [u] /\ RelV x u := by
  cases r with
  | cons r1 r2 => cases r2; exact ⟨_, rfl, r1⟩
theorem vals2 {x y : V} {us : List Value} (r : Vals [x, y] us) : ∃ u w', us = [u, w'] /\ RelV x u /\ RelV y w' := by
  cases r with
  | cons r1 r2 =>
    cases r2 with
    | cons r3 r4 => cases r4; exact ⟨_, _, rfl, r1, r3⟩
theorem z1Z (hc : X.calm = true) : CallR X (.builtin "min") (fun xs H Q => ∃ i j, xs = [.int i, .int j] /\ Q (.int (if j < i then j else i)) H) := by
  intro pins s σ H xs us Q I r h
  obtain ⟨i, j, rfl, q⟩ := h
  obtain ⟨u, w', rfl, ⟨t, rfl⟩, ⟨t', rfl⟩⟩ := vals2 r
  refine min_two_ints (I.ok.hd hc) fun h' tk k => ⟨_, H, I.kept k, ?_, q⟩
  by_cases hj : j < i
  . rw [if_pos hj, if_pos hj]; exact ⟨_, rfl⟩
  . rw [if_neg hj, if_neg hj]; exact ⟨_, rfl⟩
def z8T (K : PySem.W.Frag) (x : V) (H : Hp) (n : Nat) : Prop :=
  match x with
  | .str y => y.length <= sizeLine /\ n = y.length
  | .byt y => y.size <= sizeLine /\ n = y.size
  | .ref p => (∃ xs, SqL K H p xs /\ n = xs.length) \/ ∃ xs, SqT K H p xs /\ n = xs.length
  | _ => False
end
structure ObjM (h : Heap) (x dx C : Addr) (mA : Str -> Option Value) : Prop where
  obj : h.get? x = some (PySem.W.instObj C dx)
  ns : h.Ns1 dx mA
  ne : dx ≠ x
theorem z2q {h : Heap} {dx : Addr} {mA : Str -> Option Value} (n : h.Ns1 dx mA) : ∃ od, h.get? dx = some od /\ ∀ name, PySem.W.lookIn name od = some (mA name) := by
  obtain ⟨o, es, ep, ho, hd, hk, _, hm⟩ := n
  refine ⟨o, ho, fun name => ?_⟩
  have e := hm name
  unfold nsFind findBy at e
  rw [<- Array.find?_toList] at e
  unfold PySem.W.lookIn
  rw [hd]
  dsimp only
  split
  . rename_i y q
    rw [q] at e
    exact congrArg some e
  . rename_i q
    rw [q] at e
    have a : es.toList.any (·.refKey) = false := by
      rw [List.any_eq_false]
      intro y hy
      obtain ⟨z, t, hkey⟩ := hk y (Array.mem_toList_iff.mp hy)
      simp [DictEntry.refKey, hkey]
    have a' : ¬ es.toList.any (·.refKey) = true := by rw [a]; exact Bool.false_ne_true
    rw [if_neg a']
    exact congrArg some e
theorem ObjM.look {h : Heap} {x dx C : Addr} {mA : Str -> Option Value} (I : ObjM h x dx C mA) : ∃ od, PySem.W.InstAt h x (PySem.W.instObj C dx) C (some od) /\ ∀ name, PySem.W.lookIn name od = some (mA name) :=
  let ⟨od, ho, hl⟩ := z2q I.ns
  ⟨od, ⟨I.obj, rfl, rfl, ho⟩, hl⟩
section
variable {prog : Program} {w : World} {A : Around} {E : Value -> Shared -> Prop} {s : Shared} {K : PySem.W.Frag} {x dx C f : Addr} {mA : Str -> Option Value} {name : Str} {v : Value}
end
def z61 (f : Str) (v : V) : List (Str × V) -> List (Str × V)
  | [] => [(f, v)]
  | (g, x) :: r => if g = f then (g, v) :: r else (g, x) :: z61 f v r
theorem RelO.some_of {v : V} {o : Option Value} (r : RelO (some v) o) : ∃ u, o = some u /\ RelV v u := by
  cases o with
  | none => exact (show False from r).elim
  | some u => exact ⟨u, rfl, r⟩
section
variable {P : Program} {w : World} {H H' : Hp} {h h' : Heap} {a C dx : Addr} {fs fs' : List (Str × V)}
theorem z4P (hok : HOk P w H h) (e : H a = some (.ins C dx fs)) : ∃ mA, ObjM h a dx C mA /\ (∀ f, RelO (fs.lookup f) (mA f)) /\ PySem.Within mA (fs.map (·.1)) /\ fs.length <= 1000 /\ H dx = some (.own a) := by
  obtain ⟨d, z, ne, ob, mA, n, r, q⟩ := (show ObjOk P w H h a (.ins C dx fs) from hok a _ e)
  exact ⟨mA, ⟨ob, n, ne⟩, r, q, z, d⟩
end
structure Cls (K : PySem.W.Frag) (C : Addr) : Prop where
  pg : PySem.W.plainGet K C Str.empty = true
  hd : PySem.W.hasDictIn K C = true
  po : PySem.W.plainOver K C = true
  sa : PySem.W.findIn K (.ref C) "__setattr__" = some (some (.builtin "object.__setattr__"))
theorem Cls.get {K : PySem.W.Frag} {C : Addr} (c : Cls K C) (f : Str) : PySem.W.plainGet K C f = true := c.pg
def z2r (K : PySem.W.Frag) (C : Addr) (f : Str) : Prop := PySem.W.findIn K (.ref C) f = some none
structure Con (K : PySem.W.Frag) (C : Addr) (f : Str) (v : V) (u : Value) : Prop where
  at_ : PySem.W.findIn K (.ref C) f = some (some u)
  rel : RelV v u
  get : PySem.W.specialIn K u "__get__" = some none
  cp : PySem.W.copiedNames.contains f = false
structure Meth (K : PySem.W.Frag) (C : Addr) (m : Str) (f : Addr) : Prop where
  at_ : PySem.W.findIn K (.ref C) m = some (some (.ref f))
  fn : PySem.W.isFn K (.ref f) = true
  kp : PySem.W.keepIn K (.ref f) = true
section
variable {X : Cx} {pins : List (Addr × Obj)} {σ : St} {H : Hp} {s : Shared} {a C dx : Addr} {fs : List (Str × V)} {f : Str} {v : V} {A : Around} {E : Value -> Shared -> Prop}
theorem Inv.made (I : Inv X pins σ H s) : Inv X pins σ (upd (upd H s.heap.objs.size (.own (s.heap.objs.size + 1))) (s.heap.objs.size + 1) (.ins C s.heap.objs.size []))
    { s with heap := (s.heap.push PySem.W.emptyDict).push (PySem.W.instObj C s.heap.objs.size) } := by
  have e1 : (s.heap.push PySem.W.emptyDict).get? s.heap.objs.size = some PySem.W.emptyDict := Heap.get?_push_size s.heap rfl
  have e2 : ((s.heap.push PySem.W.emptyDict).push (PySem.W.instObj C s.heap.objs.size)).get? (s.heap.objs.size + 1) = some (PySem.W.instObj C s.heap.objs.size) := by
    have := Heap.get?_push_size (s.heap.push PySem.W.emptyDict) (o := PySem.W.instObj C s.heap.objs.size) rfl
    rwa [Heap.size_push] at this
  have e3 : (s.heap.push PySem.W.emptyDict).Ns s.heap.objs.size (fun _ => none) := ⟨PySem.W.emptyDict, #[], _, e1, rfl, (fun e he => absurd he (by simp)), fun _ => rfl⟩
  have I1 := I.laid (a := s.heap.objs.size) (o := .own (s.heap.objs.size + 1)) (h' := s.heap.push PySem.W.emptyDict) (t' := s.toks) (fun b u q => Heap.get?_push_of_some _ q) (Nat.le_refl _) ⟨_, e1⟩
  refine I1.laid (a := s.heap.objs.size + 1) (o := .ins C s.heap.objs.size []) (t' := s.toks) (fun b u q => Heap.get?_push_of_some _ q) (Nat.le_of_eq (Heap.size_push _ _)) ?_
  have ne : s.heap.objs.size ≠ s.heap.objs.size + 1 := Nat.ne_of_lt (Nat.lt_succ_self _)
  refine ⟨by rw [z07 ne, z05], Nat.zero_le _, ne, e2, fun _ => none, (Heap.Ns1.of_empty e3).at fun o q => Heap.get?_push_of_some _ q, fun _ => True.intro, fun y hy => absurd rfl hy⟩
end
def z8U (K : PySem.W.Frag) (ta : TE) (f : Str) : TE := fun σ H Q => ta σ H fun x H1 => ∃ a C dx fs v, x = .ref a /\ H1 a = some (.ins C dx fs) /\ Cls K C /\ z2r K C f /\ fs.lookup f = some v /\ Q v H1
def z8V (K : PySem.W.Frag) (ta : TE) (f : Str) : TE := fun σ H Q => ta σ H fun x H1 => ∃ a C dx fs v u, x = .ref a /\ H1 a = some (.ins C dx fs) /\ Cls K C /\ Con K C f v u /\ fs.lookup f = none /\ Q v H1
def z8W (K : PySem.W.Frag) (ta tv : TE) (f : Str) : TS := fun D σ H => tv σ H fun y H1 => ta σ H1 fun x H2 => ∃ a C dx fs, x = .ref a /\ H2 a = some (.ins C dx fs) /\ Cls K C /\ z2r K C f /\ fs.length < 1000 /\
  D.nx σ (upd H2 a (.ins C dx (z61 f y fs)))
def z8X (X : Cx) (op : Operator) (rd : V -> V -> Hp -> VK -> Prop) : Prop :=
  ∀ (pins : List (Addr × Obj)) (s : Shared) (σ : St) (H : Hp) (x y : V) (u v : Value) (Q : VK), Inv X pins σ H s -> RelV x u -> RelV y v -> rd x y H Q -> wpAny (model X.prog X.w) X.A (inplaceOp op u v) (EP X pins σ Q) X.xe s
def z62 (K : PySem.W.Frag) (ta tv : TE) (rd : V -> V -> Hp -> VK -> Prop) (f : Str) : TS := fun D σ H => ta σ H fun x H1 => ∃ a C dx fs v, x = .ref a /\ H1 a = some (.ins C dx fs) /\ Cls K C /\ z2r K C f /\ fs.lookup f = some v /\
  tv σ H1 fun y H2 => rd v y H2 fun z H3 => ∃ dx' fs', H3 a = some (.ins C dx' fs') /\ fs'.length < 1000 /\ D.nx σ (upd H3 a (.ins C dx' (z61 f z fs')))
section
variable {X : Cx} {o e value : Expr} {f : Str} {pos pos' tpos : Pos} {ta tv : TE}
def z8Y : V -> V -> Hp -> VK -> Prop := fun x y H Q => ∃ i j, x = .int i /\ y = .int j /\ Q (.int (i + j)) H
def z8Z : V -> V -> Hp -> VK -> Prop := fun x y H Q => ∃ i j, x = .int i /\ y = .int j /\ Q (.int (i - j)) H
end
section
variable {X : Cx} {pins : List (Addr × Obj)} {σ : St} {H : Hp} {s : Shared} {A : Around} {E : Value -> Shared -> Prop} {Q : Value -> Shared -> Prop} {c : Value} {b : Bool}
inductive TyOf (K : PySem.W.Frag) (H : Hp) : V -> Value -> Prop where
  | non : TyOf K H .non (.type "NoneType")
  | bl (x : Bool) : TyOf K H (.bl x) (.type "bool")
  | int (i : Int) : TyOf K H (.int i) (.type "int")
  | str (x : Str) : TyOf K H (.str x) (.type "str")
  | flt (x : UInt64) : TyOf K H (.flt x) (.type "float")
  | lst {a : Addr} {xs : List V} (e : H a = some (.lst xs)) : TyOf K H (.ref a) (.type "list")
  | frz {a : Addr} {o : Obj} {xs : List V} (e : H a = some (.frz o (.lst xs))) : TyOf K H (.ref a) (.type "list")
  | tup {a : Addr} {xs : List V} (e : H a = some (.tup xs)) : TyOf K H (.ref a) (.type "tuple")
  | dK {a : Addr} {kvs : List (Key × V)} (e : H a = some (.dK kvs)) : TyOf K H (.ref a) (.type "dict")
  | dT {a : Addr} {kvs : List (List Key × V)} (e : H a = some (.dT kvs)) : TyOf K H (.ref a) (.type "dict")
  | ins {a C dx : Addr} {fs : List (Str × V)} (e : H a = some (.ins C dx fs)) (cl : Cls K C) (ha : PySem.W.findIn K (.ref C) "__class__" = some (some (.builtin "object.__class__")))
      (hn : PySem.W.specialIn K (.builtin "object.__class__") "__get__" = some (some (.builtin "getset_descriptor.__get__"))) (htk : PySem.W.takesIn K (.builtin "object.__class__") = some true)
      (hm : PySem.W.mroIn K C (.type "object") = some true) : TyOf K H (.ref a) (.ref C)
theorem z2s {x : V} {u t : Value} (I : Inv X pins σ H s) (rx : RelV x u) (ty : TyOf X.K H x t) (e : PySem.W.kitOne X.K t c = some b) (h : ∀ tk, Q (.bool b) { s with toks := tk }) :
    wpAny (model X.prog X.w) A (call (.builtin "isinstance") [u, c]) Q E s := by
  cases ty with
  | non => cases (show u = Value.none from rx); exact PySem.W.kia_one PySem.W.kitx_none I.kIn True.intro e (fun z => nomatch z) h
  | bl y => cases (show u = Value.bool y from rx); exact PySem.W.kia_one PySem.W.kitx_bool I.kIn True.intro e (fun z => nomatch z) h
  | int i => obtain ⟨t, q⟩ := (show ∃ t, u = Value.int i t from rx); cases q; exact PySem.W.kia_one PySem.W.kitx_int I.kIn True.intro e (fun z => nomatch z) h
  | str y => obtain ⟨t, q⟩ := (show ∃ t, u = Value.str y t from rx); cases q; exact PySem.W.kia_one PySem.W.kitx_str I.kIn True.intro e (fun z => nomatch z) h
  | flt y => obtain ⟨t, q⟩ := (show ∃ t, u = Value.float y t from rx); cases q; exact PySem.W.kia_one PySem.W.kitx_float I.kIn True.intro e (fun z => nomatch z) h
  | @lst a xs ea =>
    cases (show u = Value.ref a from rx)
    obtain ⟨_, _, n, _, h1⟩ := (show ObjOk X.prog X.w H s.heap a (.lst xs) from I.hok a _ ea)
    exact PySem.W.kia_one PySem.W.kitx_list I.kIn ⟨_, h1, rfl⟩ e (fun z => nomatch z) h
  | @frz a ob xs ea =>
    cases (show u = Value.ref a from rx)
    obtain ⟨_, _, _, n, _, h1⟩ := (show ObjOk X.prog X.w H s.heap a (.frz ob (.lst xs)) from I.hok a _ ea)
    exact PySem.W.kia_one PySem.W.kitx_list I.kIn ⟨_, h1, rfl⟩ e (fun z => nomatch z) h
  | @tup a xs ea =>
    cases (show u = Value.ref a from rx)
    obtain ⟨_, _, _, p⟩ := (show ObjOk X.prog X.w H s.heap a (.tup xs) from I.hok a _ ea)
    obtain ⟨o, h1, h2, _⟩ := p
    exact PySem.W.kia_one PySem.W.kitx_tuple I.kIn ⟨o, h1, h2⟩ e (fun z => nomatch z) h
  | @dK a kvs ea =>
    cases (show u = Value.ref a from rx)
    obtain ⟨_, _, vs, _, p⟩ := (show ObjOk X.prog X.w H s.heap a (.dK kvs) from I.hok a _ ea)
    obtain ⟨o, es, ep, h1, h2, _⟩ := p
    exact PySem.W.kia_one PySem.W.kitx_dict I.kIn ⟨o, h1, h2.1⟩ e (fun z => nomatch z) h
  | @dT a kvs ea =>
    cases (show u = Value.ref a from rx)
    obtain ⟨_, _, xs, _, o, es, ep, h1, h2, _⟩ := (show ObjOk X.prog X.w H s.heap a (.dT kvs) from I.hok a _ ea)
    exact PySem.W.kia_one PySem.W.kitx_dict I.kIn ⟨o, h1, h2.1⟩ e (fun z => nomatch z) h
  | @ins a C dx fs ea cl ha hn htk hm =>
    cases (show u = Value.ref a from rx)
    obtain ⟨mA, O, _⟩ := z4P I.hok ea
    obtain ⟨od, J, _⟩ := O.look
    exact PySem.W.kia_one (PySem.W.kitx_own (cl.get _) cl.hd ha hn htk hm) I.kIn J e (fun z => nomatch z) h
end
structure Room (k : Nat) (A : Around) : Prop where
  hd : A.handled = none
  dp : A.depth + 3 * k + 5 < recursionLimit
  un : A.units + 16 * k + 200 < cLine
theorem Room.mono {j k : Nat} {A : Around} (r : Room k A) (h : j <= k) : Room j A := ⟨r.hd, by have := r.dp; omega, by have := r.un; omega⟩
theorem Room.deeper {k : Nat} {A : Around} (r : Room (k + 1) A) (env : Env) : Room k (A.deeper env) :=
  ⟨r.hd, by have := r.dp; show A.depth + 1 + 3 * k + 5 < _; omega, by have := r.un; show A.units + 3 + 16 * k + 200 < _; omega⟩
theorem Room.in1 {k : Nat} {A : Around} (r : Room (k + 1) A) : Room k A.in1 :=
  ⟨r.hd, by have := r.dp; show A.depth + 3 * k + 5 < _; omega, by have := r.un; show A.units + 1 + 16 * k + 200 < _; omega⟩
theorem Room.depth {k : Nat} {A : Around} (r : Room k A) : A.depth < recursionLimit := by have := r.dp; omega
theorem Room.units {k : Nat} {A : Around} (r : Room k A) : A.units + 64 < cLine := by have := r.un; omega
def z6k : TA := fun _ H Q => Q [] H
def z5B (ta : TE) (tr : TA) : TA := fun σ H Q => ta σ H fun x H1 => tr σ H1 fun xs H2 => Q (x :: xs) H2
section
variable {X : Cx} {e : Expr} {es : List Expr} {te : TE} {t : TA} {pos : Pos}
theorem z02 : PA X [] z6k := fun _ _ _ _ H Q I h => Calls.spliced_nil ⟨[], H, I, .nil, h⟩
theorem z00 (ha : PE X e te) (hr : PA X es t) (hs : starEach (e :: es) X.env = (false, eval e X.env) :: starEach es X.env := by rfl) : PA X (e :: es) (z5B te t) := by
  intro pos pins s σ H Q I h
  rw [hs]
  show wpAny _ _ (spliced ((false, eval e X.env) :: backTo pos (starEach es X.env))) _ _ s
  refine Calls.spliced_cons (thn (ha pins s σ H _ I h) fun u s1 ⟨x, H1, I1, r1, q1⟩ => ?_)
  exact thn (hr pos pins s1 σ H1 _ I1 q1) fun us s2 ⟨xs, H2, I2, r2, q2⟩ => ⟨x :: xs, H2, I2, .cons r1 r2, q2⟩
def z7i (t : TA) : TE := fun σ H Q => t σ H fun xs H1 => xs.length <= sizeLine /\ ∀ p, H1 p = none -> Q (.ref p) (upd H1 p (.tup xs))
def z7j (t : TA) : TE := fun σ H Q => t σ H fun xs H1 => xs.length <= sizeLine /\ ∀ p, H1 p = none -> Q (.ref p) (upd H1 p (.lst xs))
theorem z0R {x1} (h : PA X es t) : PE X (.Tuple es x1 pos) (z7i t) := by
  intro pins s σ H Q I hq
  refine wpAny_Tuple_spliced (thn (h pos pins s σ H _ I hq) fun us s1 ⟨xs, H1, I1, r, z, q⟩ => ⟨by rw [<- r.length]; exact z, ?_⟩)
  have hf : H1 s1.heap.objs.size = none := I1.hok.fresh (Nat.le_refl _)
  refine ⟨.ref s1.heap.objs.size, upd H1 s1.heap.objs.size (.tup xs), I1.laid (t' := s1.toks) (fun b u e => Heap.get?_push_of_some _ e) (Nat.le_refl _) ?_, rfl, q _ hf⟩
  exact ⟨z, us, r, ⟨_, Heap.get?_push_size _ rfl, rfl, _, rfl⟩⟩
theorem z2t (h : PA X es t) : PE X (.List es pos) (z7j t) := by
  intro pins s σ H Q I hq
  refine wpAny_List_spliced (thn (h pos pins s σ H _ I hq) fun us s1 ⟨xs, H1, I1, r, z, q⟩ => ⟨by rw [<- r.length]; exact z, ?_⟩)
  have hf : H1 s1.heap.objs.size = none := I1.hok.fresh (Nat.le_refl _)
  refine ⟨.ref s1.heap.objs.size, upd H1 s1.heap.objs.size (.lst xs), I1.laid (t' := s1.toks) (fun b u e => Heap.get?_push_of_some _ e) (Nat.le_refl _) ?_, rfl, q _ hf⟩
  exact ⟨z, us, 0, r, Heap.get?_push_size _ rfl⟩
end
abbrev Sp := List V -> Hp -> VK -> XK -> Prop
abbrev CXT := List Env -> Hp -> Shared -> XK -> Value -> Shared -> Prop
structure Env0 (P : Program) (w : World) (K : PySem.W.Frag) (mg : Str -> Option Value) (base : Heap) (A : Around) (outer : List Env) (s : Shared) (H : Hp) : Prop where
  frames : A.frames = some outer
  mod : Mod K mg base
  bs : ∀ b o, base.get? b = some o -> s.heap.get? b = some o /\ H b = none
  bsz : base.objs.size <= s.heap.objs.size
  funs : s.heap.FunFrames base outer
  frf : ∀ b ∈ frs outer, H b = none
  hok : HOk P w H s.heap
  bare : AllBare s.gens
def CE (outer : List Env) (P : Program) (w : World) (H : Hp) (s : Shared) (Q : VK) (u : Value) (s' : Shared) : Prop :=
  ∃ v H', s'.os = s.os /\ AllBare s'.gens /\ Un (frs outer) [] H H' s.heap s'.heap /\ HOk P w H' s'.heap /\ RelV v u /\ Q v H'
def CR (CX : CXT) (outer : List Env) (P : Program) (w : World) (H : Hp) (s : Shared) (Q : VK) (E : XK) (r : Result) (s' : Shared) : Prop :=
  match r with
  | .ok (.ret u) => CE outer P w H s Q u s'
  | .ok _ => False
  | .error e => CX outer H s E e s'
structure FnOk (P : Program) (w : World) (K : PySem.W.Frag) (mg : Str -> Option Value) (base : Heap) (CX : CXT) (k : Nat) (f : Addr) (fd : FuncData) (ps : List Str) (sp : Sp) : Prop where
  len : ∀ vs H Q E, sp vs H Q E -> vs.length = ps.length
  run : ∀ (A : Around) (outer : List Env) (s : Shared) (H : Hp) (args : Args) (us : List Value) (vs : List V) (Q : VK) (E : XK), Room k A -> Env0 P w K mg base A outer s H -> BindsTo s fd args (ps.zip us) -> Vals vs us -> sp vs H Q E ->
    codeAny (model P w) A (.call (.ref f) args) (CR CX outer P w H s Q E) s
theorem FnOk.mono {P : Program} {w : World} {K : PySem.W.Frag} {mg : Str -> Option Value} {base : Heap} {CX : CXT} {j k : Nat} {f : Addr} {fd : FuncData} {ps : List Str} {sp : Sp} (F : FnOk P w K mg base CX j f fd ps sp) (h : j <= k) :
    FnOk P w K mg base CX k f fd ps sp := ⟨F.len, fun A outer s H args us vs Q E hr => F.run A outer s H args us vs Q E (hr.mono h)⟩
theorem FnOk.imp {P : Program} {w : World} {K : PySem.W.Frag} {mg : Str -> Option Value} {base : Heap} {CX : CXT} {k : Nat} {f : Addr} {fd : FuncData} {ps : List Str} {sp sp' : Sp} (F : FnOk P w K mg base CX k f fd ps sp)
    (h : ∀ vs H Q E, sp' vs H Q E -> sp vs H Q E) : FnOk P w K mg base CX k f fd ps sp' :=
  ⟨fun vs H Q E q => F.len vs H Q E (h _ _ _ _ q), fun A outer s H args us vs Q E hr he hb hv hs => F.run A outer s H args us vs Q E hr he hb hv (h _ _ _ _ hs)⟩
theorem Env0.in1 {P : Program} {w : World} {K : PySem.W.Frag} {mg : Str -> Option Value} {base : Heap} {A : Around} {outer : List Env} {s : Shared} {H : Hp} (e : Env0 P w K mg base A outer s H) :
    Env0 P w K mg base A.in1 outer s H := ⟨e.frames, e.mod, e.bs, e.bsz, e.funs, e.frf, e.hok, e.bare⟩
section
variable {X : Cx} {pins : List (Addr × Obj)} {σ : St} {H : Hp} {s s' : Shared}
theorem Inv.env0 (I : Inv X pins σ H s) : Env0 X.prog X.w X.K X.mg X.base X.A X.stack s H :=
  ⟨I.ok.frames, I.ok.mod, I.bs, Nat.le_trans I.ok.bsz I.sz, I.stack, I.stkFree, I.hok, I.bare⟩
theorem Inv.after {Q : VK} {u : Value} (I : Inv X pins σ H s) (h : CE X.stack X.prog X.w H s Q u s') : EP X pins σ Q u s' := by
  obtain ⟨v, H', os, bare, un, hok, r, q⟩ := h
  obtain ⟨hh, g, d, t, os'⟩ := s'
  obtain rfl : os' = s.os := os
  exact ⟨v, H', I.call (h' := hh) (g' := g) (d' := d) (t' := t) (ch := []) un hok bare (fun b z => absurd z (by simp)), r, q⟩
end
def z4Q (sp : Sp) (dvs : List V) (E : XK) (t : TA) : TE := fun σ H Q => t σ H fun vs H1 => sp (vs ++ dvs) H1 Q E
def z7k (C : Addr) (m : Str) (sp : Sp) (dvs : List V) (E : XK) (ta : TE) (t : TA) : TE := fun σ H Q => ta σ H fun x H1 => ∃ a dx fs, x = .ref a /\ H1 a = some (.ins C dx fs) /\ fs.lookup m = none /\
  t σ H1 fun vs H2 => sp (x :: (vs ++ dvs)) H2 Q E
def z7l (C : Addr) (sp : Sp) (dvs : List V) (E : XK) (t : TA) : TE := fun σ H Q => t σ H fun vs H1 => ∀ x dx, H1 x = none -> H1 dx = none -> dx ≠ x ->
  sp (.ref x :: (vs ++ dvs)) (upd (upd H1 dx (.own x)) x (.ins C dx [])) (fun v H2 => v = .non /\ Q (.ref x) H2) E
def Binds (K : PySem.W.Frag) (fd : FuncData) (ps : List Str) (ds : List Value) : Prop :=
  ∀ (s : Shared) (us : List Value), K.In s.heap -> (us ++ ds).length = ps.length -> BindsTo s fd ⟨us, []⟩ (ps.zip (us ++ ds))
theorem Binds.all {K : PySem.W.Frag} {fd : FuncData} {ps : List Str} (h : ∀ us : List Value, us.length = ps.length -> bindArgs fd ⟨us, []⟩ = pure (ps.zip us)) : Binds K fd ps [] := fun s us _ hl => by
  rw [List.append_nil] at hl ⊢
  exact .of_eq (h us hl)
def z23 (CX : CXT) (X : Cx) (E : XK) : Prop := ∀ (pins : List (Addr × Obj)) (σ : St) (H : Hp) (s : Shared) (e : Value) (s' : Shared), Inv X pins σ H s -> CX X.stack H s E e s' -> X.xe e s'
section
variable {X : Cx} {CX : CXT} {k : Nat} {f C : Addr} {fd : FuncData} {ps : List Str} {sp : Sp} {dvs : List V} {ds : List Value} {E : XK} {x m : Str} {p pos apos : Pos} {e o : Expr} {es : List Expr} {ta : TE} {t : TA}
theorem z5C {pins : List (Addr × Obj)} {σ : St} {H : Hp} {s : Shared} {Q : VK} {us : List Value} {vs : List V} (F : FnOk X.prog X.w X.K X.mg X.base CX k f fd ps sp) (hr : Room k X.A) (hb : Binds X.K fd ps ds) (hd : Vals dvs ds) (hx : z23 CX X E)
    (I : Inv X pins σ H s) (r : Vals vs us) (h : sp (vs ++ dvs) H Q E) : wpAny (model X.prog X.w) X.A (call (.ref f) us) (EP X pins σ Q) X.xe s := by
  have r2 : Vals (vs ++ dvs) (us ++ ds) := r.append hd
  have hl : (us ++ ds).length = ps.length := by rw [<- r2.length]; exact F.len _ _ _ _ h
  refine wpAny_call (codeAny_mono (F.run X.A X.stack s H ⟨us, []⟩ (us ++ ds) (vs ++ dvs) Q E hr I.env0 (hb s us I.kIn hl) r2 h) fun r s' hq => ?_)
  cases r with
  | error e => exact hx pins σ H s e s' I hq
  | ok fl =>
    cases fl with
    | ret u => exact I.after hq
    | next => exact False.elim hq
    | brk => exact False.elim hq
    | cont => exact False.elim hq
theorem z2u (F : FnOk X.prog X.w X.K X.mg X.base CX k f fd ps sp) (hr : Room k X.A) (hg : Gl X x) (hm : X.mg x = some (.ref f)) (hk : PySem.W.keepIn X.K (.ref f) = true) (hb : Binds X.K fd ps ds) (hd : Vals dvs ds) (hx : z23 CX X E)
    (ha : PA X (e :: es) t) (hdb : (x == ("__debug__" : Str)) = false := by decide) (he : starEach (e :: es) X.env = (false, eval e X.env) :: starEach es X.env := by rfl) (hpl : (backTo pos (starEach es X.env)).any (·.1) = false := by rfl) :
    PE X (.Call (.Name x p) (e :: es) [] pos) (z4Q sp dvs E t) := by
  intro pins s σ H Q I h
  refine wpAny_Call_Name_kw (z0x I hg hm ?_ hdb)
  refine PySem.W.callWith_K (h₀ := X.base) I.ok.mod.kin hk (thn (ha pos pins s σ H _ I h) fun us s1 ⟨vs, H1, I1, r, q⟩ => ⟨I1.kIn, ?_⟩) he hpl
  exact z5C F hr hb hd hx I1 r q
structure Mk (K : PySem.W.Frag) (C f : Addr) : Prop where
  makes : PySem.W.makesIn K C = true
  init : PySem.W.findIn K (.ref C) "__init__" = some (some (.ref f))
  fn : PySem.W.isFn K (.ref f) = true
  kp : PySem.W.keepIn K (.ref C) = true
end
def PK (X : Cx) (kws : List Keyword) (t : TA) : Prop :=
  ∀ (pos : Pos) (pins : List (Addr × Obj)) (s : Shared) (σ : St) (H : Hp) (Q : List V -> Hp -> Prop), Inv X pins σ H s -> t σ H Q -> wpAny (model X.prog X.w) X.A (evalAll ((backToKw pos (keywordEach kws X.env)).map (·.2))) (AP X pins σ Q) X.xe s
section
variable {X : Cx} {CX : CXT} {k : Nat} {f C : Addr} {fd : FuncData} {ps ks : List Str} {sp : Sp} {E : XK} {x m : Str} {p pos apos kpos : Pos} {e o : Expr} {es : List Expr} {kws : List Keyword} {te ta : TE} {t tk : TA} {nm : Option Str}
structure KBinds (K : PySem.W.Frag) (fd : FuncData) (ps ks : List Str) (g : List Value -> List Value -> List Value) (gV : List V -> List V -> List V) : Prop where
  to : ∀ (s : Shared) (us ws : List Value), K.In s.heap -> (g us ws).length = ps.length -> BindsTo s fd ⟨us, ks.zip ws⟩ (ps.zip (g us ws))
  rel : ∀ {vs : List V} {us : List Value} {zs : List V} {ws : List Value}, Vals vs us -> Vals zs ws -> Vals (gV vs zs) (g us ws)
def z6l (sp : Sp) (gV : List V -> List V -> List V) (E : XK) (t tk : TA) : TE := fun σ H Q => t σ H fun vs H1 => tk σ H1 fun zs H2 => sp (gV vs zs) H2 Q E
variable {g : List Value -> List Value -> List Value} {gV : List V -> List V -> List V}
end
structure FnScope (N P : List Str) (sc : Scope) : Prop where
  kind : sc.kind = .function
  co : sc.isCoroutine = false
  gen : sc.isGenerator = false
  nd : N.Nodup
  pre : N.take P.length = P
  par : ∀ x ∈ P, sc.names.lookup x = some .local \/ sc.names.lookup x = some .cell
  nofree : ∀ y ∈ sc.names, y.2 ≠ .free
theorem z1a {kindOf : Str -> Option NameKind} {x : Str} : ∀ {binds : List (Str × Value)} {m : Str -> Option Value}, (∀ v, (x, v) ∉ binds) -> bindL kindOf binds m x = m x
  | [], _, _ => rfl
  | (n, v) :: r, m, h => by
    unfold bindL
    rw [z1a fun w hw => h w (List.mem_cons_of_mem _ hw)]
    split
    . have : x ≠ n := by rintro rfl; exact h v List.mem_cons_self
      simp [this]
    . rfl
theorem z1b {kindOf : Str -> Option NameKind} {x : Str} : ∀ {binds : List (Str × Value)} {m : Str -> Option Value}, (∀ v, (x, v) ∉ binds) -> bindC kindOf binds m x = m x
  | [], _, _ => rfl
  | (n, v) :: r, m, h => by
    unfold bindC
    rw [z1b fun w hw => h w (List.mem_cons_of_mem _ hw)]
    split
    . rfl
    . have : x ≠ n := by rintro rfl; exact h v List.mem_cons_self
      simp [this]
theorem z1c {kindOf : Str -> Option NameKind} {x : Str} {v : Value} : ∀ {P : List Str} {vs : List Value} {i : Nat} {m : Str -> Option Value}, P.Nodup -> P[i]? = some x -> vs[i]? = some v -> kindOf x = some .local ->
    bindL kindOf (P.zip vs) m x = some v
  | [], _, _, _, _, h, _, _ => by simp at h
  | _ :: _, [], _, _, _, _, h, _ => by simp at h
  | p :: P, w :: vs, 0, m, nd, h1, h2, hk => by
    simp at h1 h2; subst h1; subst h2
    show bindL kindOf ((p, w) :: P.zip vs) m p = _
    unfold bindL
    rw [z1a fun v hv => (List.nodup_cons.mp nd).1 (List.of_mem_zip hv).1, if_pos hk]
    simp
  | p :: P, w :: vs, i + 1, m, nd, h1, h2, hk => by
    show bindL kindOf ((p, w) :: P.zip vs) m x = _
    unfold bindL
    exact z1c (i := i) (List.nodup_cons.mp nd).2 (by simpa using h1) (by simpa using h2) hk
theorem z1d {kindOf : Str -> Option NameKind} {x : Str} {v : Value} : ∀ {P : List Str} {vs : List Value} {i : Nat} {m : Str -> Option Value}, P.Nodup -> P[i]? = some x -> vs[i]? = some v -> kindOf x ≠ some .local ->
    bindC kindOf (P.zip vs) m x = some v
  | [], _, _, _, _, h, _, _ => by simp at h
  | _ :: _, [], _, _, _, _, h, _ => by simp at h
  | p :: P, w :: vs, 0, m, nd, h1, h2, hk => by
    simp at h1 h2; subst h1; subst h2
    show bindC kindOf ((p, w) :: P.zip vs) m p = _
    unfold bindC
    rw [z1b fun v hv => (List.nodup_cons.mp nd).1 (List.of_mem_zip hv).1, if_neg hk]
    simp
  | p :: P, w :: vs, i + 1, m, nd, h1, h2, hk => by
    show bindC kindOf ((p, w) :: P.zip vs) m x = _
    unfold bindC
    exact z1d (i := i) (List.nodup_cons.mp nd).2 (by simpa using h1) (by simpa using h2) hk
def start (N : List Str) (vs : List V) : St := vs.map some ++ List.replicate (N.length - vs.length) none
def z3a (CX : CXT) (P : Program) (w : World) (K : PySem.W.Frag) (mg : Str -> Option Value) (base : Heap) (N : List Str) (qual : Str) (scope : Scope) (f : Addr) (cd : Value) (A : Around) (outer : List Env) (s : Shared) (H : Hp) (E : XK) : Cx where
  prog := P
  w := w
  K := K
  mg := mg
  base := base
  A := A.deeper (envOfC qual scope s.heap.objs.size f cd)
  N := N
  s₀ := s
  H₀ := H
  env := envOfC qual scope s.heap.objs.size f cd
  outer := outer
  stack := envOfC qual scope s.heap.objs.size f cd :: outer
  ex := []
  calm := true
  fn := fun _ => true
  pn := []
  xe := fun e s' => wpAny (model P w) (A.deeper (envOfC qual scope s.heap.objs.size f cd)) (leaving (envOfC qual scope s.heap.objs.size f cd) e) (fun _ s'' => CX outer H s E e s'') (fun e' s'' => CX outer H s E e' s'') s'
theorem z24 {sc : Scope} {n : Nat} {x : Str} (h : sc.names.lookup x = some .cell) : ∃ c, (cellsFrom n sc.names []).lookup x = some c := by
  have q := PySem.W.cellsFrom_some sc.names n [] (.inl h)
  exact Option.isSome_iff_exists.mp q
theorem z2v {CX : CXT} {P : Program} {w : World} {K : PySem.W.Frag} {mg : Str -> Option Value} {base : Heap} {N ps : List Str} {qual : Str} {scope : Scope} {f : Addr} {cd : Value} {A : Around} {outer : List Env} {s s1 : Shared} {H : Hp} {E : XK} {us : List Value} {vs : List V}
    (S : FnScope N ps scope) (hd : A.handled = none) (e0 : Env0 P w K mg base A outer s H) (hl : vs.length = ps.length) (r : Vals vs us)
    (x : InCallC s s.heap.objs.size (bindL (envOfC qual scope s.heap.objs.size f cd).kindOf (ps.zip us) fun _ => none) (cellsFrom (s.heap.objs.size + 1) scope.names []) (bindC (envOfC qual scope s.heap.objs.size f cd).kindOf (ps.zip us) fun _ => none) s1) :
    Inv (z3a CX P w K mg base N qual scope f cd A outer s H E) [] (start N vs) H s1 := by
  have hpl : ps.length <= N.length := by have := congrArg List.length S.pre; rw [List.length_take] at this; omega
  obtain ⟨h1, tk, rfl, hk⟩ := x.done
  have noA : ∀ b : Addr, b ∉ (z3a CX P w K mg base N qual scope f cd A outer s H E).ex := fun b z => absurd (show b ∈ ([] : List Addr) from z) (by simp)
  refine ⟨⟨e0.mod, S.kind, rfl, rfl, Nat.le_refl _, fun y z c h1 h2 => ?_, fun y hy => ?_, fun y c _ h => ?_, fun _ => hd, Around.frames_deeper e0.frames, .inr ⟨rfl, rfl⟩, fun b z => absurd z (noA b), e0.bs, e0.bsz, fun b _ _ => noA b, fun b z => absurd z (noA b), e0.funs, e0.frf⟩,
    rfl, e0.bare, Un.kept hk, ⟨_, x.toInCall.ns, fun i y v h1 h2 h3 => ?_⟩, fun y c h => ⟨_, x.cell y c h⟩, e0.hok.fresh (Nat.le_refl _), fun y c h => ?_, fun p hp => absurd (show p ∈ ([] : List (Addr × Obj)) from hp) (by simp), e0.hok.kept hk, ?_⟩
  . exact name_of_addr x.apart (PySem.mem_of_lookup h1) (PySem.mem_of_lookup h2)
  . have hy : scope.names.lookup y = some .cell \/ scope.names.lookup y = some .free := hy
    rcases hy with hy | hy
    . exact z24 hy
    . exact absurd rfl (S.nofree _ (PySem.mem_of_lookup hy))
  . exact Nat.le_of_lt (x.above y c (PySem.mem_of_lookup h))
  . have hi : i < vs.length := by
      unfold start at h2
      by_cases hi : i < vs.length
      . exact hi
      . rw [List.getElem?_append_right (by simpa using hi)] at h2
        rw [List.getElem?_replicate] at h2
        split at h2 <;> cases h2
    have ha : vs[i]? = some v := by
      unfold start at h2
      rw [List.getElem?_append_left (by simpa using hi), List.getElem?_map] at h2
      cases e : vs[i]? with
      | none => rw [e] at h2; cases h2
      | some a => rw [e] at h2; cases h2; rfl
    obtain ⟨u, hu, rv⟩ := r.get ha
    have hp : ps[i]? = some y := by
      rw [<- S.pre, List.getElem?_take_of_lt (by omega)]; exact h1
    have ndP : ps.Nodup := by rw [<- S.pre]; exact S.nd.sublist (List.take_sublist _ _)
    refine ⟨u, rv, ?_⟩
    rcases S.par y (List.mem_of_getElem? hp) with k | k
    . exact .inl ⟨k, z1c ndP hp hu k⟩
    . obtain ⟨c, e⟩ := z24 (n := s.heap.objs.size + 1) k
      refine .inr ⟨.inl k, c, e, ?_⟩
      have q := x.cell y c e
      rw [z1d ndP hp hu (by show scope.names.lookup y ≠ _; rw [k]; decide)] at q
      exact q
  . exact e0.hok.fresh (Nat.le_of_lt (x.above y c (PySem.mem_of_lookup h)))
  . unfold start
    show _ = N.length
    rw [List.length_append, List.length_map, List.length_replicate]
    omega
theorem z3i {CX : CXT} {P : Program} {w : World} {K : PySem.W.Frag} {mg : Str -> Option Value} {base : Heap} {k : Nat} {f : Addr} {name qual : Str} {params : Arguments} {body : List Stmt} {scope : Scope} {dV kV doc pm cdv ct oc : Value} {an od : Option Addr}
    {osl : Array (Option Value)} {N ps : List Str} {sp : Sp} (lk : K.lookup f = some ⟨oc, od, .func (PySem.W.fnOf name qual params body scope dV kV doc pm an cdv ct), osl⟩) (hcd : PySem.W.codeIn K cdv qual = true) (S : FnScope N ps scope)
    (len : ∀ vs H Q E, sp vs H Q E -> vs.length = ps.length)
    (hbody : ∀ (A : Around) (outer : List Env) (s : Shared) (H : Hp) (vs : List V) (Q : VK) (E : XK), Room k (A.deeper (envOfC qual scope s.heap.objs.size f cdv)) -> sp vs H Q E ->
      ∃ t, PSs (z3a CX P w K mg base N qual scope f cdv A outer s H E) body t /\ t { nx := fun _ H' => Q .non H', rt := Q } (start N vs) H) :
    FnOk P w K mg base CX (k + 1) f (PySem.W.fnOf name qual params body scope dV kV doc pm an cdv ct) ps sp := by
  refine ⟨len, fun A outer s H args us vs Q E hr e0 hb r hsp => ?_⟩
  have hl := len _ _ _ _ hsp
  have KX : K.In s.heap := e0.mod.kin.keeps fun b o e => (e0.bs b o e).1
  have lim : s.heap.NoLimit := e0.mod.nolimit.keeps fun b o e => (e0.bs b o e).1
  have hkind : ∀ y ∈ ps.zip us, scope.names.lookup y.1 = some .local \/ (scope.names.lookup y.1 = some .cell /\ ((cellsFrom (s.heap.objs.size + 1) scope.names []).lookup y.1).isSome = true) := fun ⟨n, v⟩ hy => by
    rcases S.par n (List.of_mem_zip hy).1 with q | q
    . exact .inl q
    . exact .inr ⟨q, PySem.W.cellsFrom_some _ _ _ (.inl q)⟩
  refine codeAny_call_function hr.depth (KX _ _ lk) rfl S.co S.gen rfl (PySem.W.codeRec_of KX hcd) (hb _ _ _ _ ?_)
  refine wpAny_newFunctionEnv_cells S.kind hkind fun env he s1 x => ?_
  subst he
  refine ⟨lim.keeps x.toInCall.keep, codeAny_func ?_⟩
  obtain ⟨t, ht, hq⟩ := hbody A outer s H vs Q E (hr.deeper _) hsp
  have I : Inv (z3a CX P w K mg base N qual scope f cdv A outer s H E) [] (start N vs) H s1 := z2v S hr.hd e0 hl r x
  refine wpAny_mono (ht [] s1 (start N vs) H _ I hq) (fun fl s' hs => ?_) fun e s' hs => hs
  have fin : ∀ {σ' : St} {H' : Hp} {v : V} {u : Value}, Inv (z3a CX P w K mg base N qual scope f cdv A outer s H E) [] σ' H' s' -> RelV v u -> Q v H' -> CE outer P w H s Q u s' :=
    fun {σ' H' v u} J rv q => ⟨v, H', J.os, J.bare, J.base, J.hok, rv, q⟩
  cases fl with
  | ret u =>
    obtain ⟨v, σ', H', J, rv, q⟩ := hs
    exact fin J rv q
  | next =>
    obtain ⟨σ', H', J, q⟩ := hs
    exact fin (v := V.non) (u := Value.none) J rfl q
  | brk =>
    obtain ⟨_, _, _, q⟩ := hs
    exact False.elim q
  | cont =>
    obtain ⟨_, _, _, q⟩ := hs
    exact False.elim q
section
variable {X : Cx} {x : Str} {p pos : Pos} {e : Expr} {es : List Expr} {t : TA} {id T : String} {r : List V -> Hp -> VK -> Prop}
def tCB (r : List V -> Hp -> VK -> Prop) (t : TA) : TE := fun σ H Q => t σ H fun vs H1 => r vs H1 Q
theorem z0H (hc : CallR X (.builtin id) r) (hg : Gl X x) (hm : X.mg x = none) (hv : bootBuiltins x = some (.builtin id)) (ha : PA X (e :: es) t) (hn : x ≠ "__name__" := by decide) (hdb : (x == ("__debug__" : Str)) = false := by decide)
    (he : starEach (e :: es) X.env = (false, eval e X.env) :: starEach es X.env := by rfl) (hpl : (backTo pos (starEach es X.env)).any (·.1) = false := by rfl) : PE X (.Call (.Name x p) (e :: es) [] pos) (tCB r t) := by
  intro pins s σ H Q I h
  refine wpAny_Call_Name_kw (z1W I hg hm hv ?_ hn hdb)
  exact PyProof.Rows.callWith_builtin1 (thn (ha pos pins s σ H _ I h) fun us s1 ⟨vs, H1, I1, r1, q1⟩ => hc pins s1 σ H1 vs us Q I1 r1 q1) he hpl
theorem z1e (hc : CallR X (.type T) r) (hg : Gl X x) (hm : X.mg x = none) (hv : bootBuiltins x = some (.type T)) (ha : PA X (e :: es) t) (hn : x ≠ "__name__" := by decide) (hdb : (x == ("__debug__" : Str)) = false := by decide)
    (he : starEach (e :: es) X.env = (false, eval e X.env) :: starEach es X.env := by rfl) (hpl : (backTo pos (starEach es X.env)).any (·.1) = false := by rfl) : PE X (.Call (.Name x p) (e :: es) [] pos) (tCB r t) := by
  intro pins s σ H Q I h
  refine wpAny_Call_Name_kw (z1W I hg hm hv ?_ hn hdb)
  exact PyProof.Rows.callWith_type1 (thn (ha pos pins s σ H _ I h) fun us s1 ⟨vs, H1, I1, r1, q1⟩ => hc pins s1 σ H1 vs us Q I1 r1 q1) he hpl
end
end L2
namespace HT
open PySem PyProof.Rows
def lexLt : List Int -> List Int -> Bool
  | [], [] => false
  | [], _ :: _ => true
  | _ :: _, [] => false
  | x :: xs, y :: ys => if x = y then lexLt xs ys else decide (x < y)
section
open PySem.SeqAt
open PySem.AutoSeq1 (wpAny_loadPart')
open PySem.MeetsSeq PySem.MeetsSeq2 PySem.MeetsSeq3
end
section
variable {prog : Program} {w : World} {A : Around} {E : Value -> Shared -> Prop} {s : Shared}
def sIx (n d : Nat) : Option Int -> Nat
  | none => d
  | some v => if v < 0 then (v + (n : Int)).toNat else min v.toNat n
end
end HT
namespace L2
open PySem PySem.Spec PyProof.Rows
abbrev TO := St -> Hp -> (Option Int -> Hp -> Prop) -> Prop
def PO (X : Cx) (e : Option Expr) (t : TO) : Prop :=
  ∀ (pins : List (Addr × Obj)) (s : Shared) (σ : St) (H : Hp) (Q : Option Int -> Hp -> Prop), Inv X pins σ H s -> t σ H Q ->
    wpAny (model X.prog X.w) X.A (evalPart e X.env) (fun u s' => ∃ o H', Inv X pins σ H' s' /\ IsPart u o /\ Q o H') X.xe s
def z63 : TO := fun _ H Q => Q none H
def z7m (t : TE) : TO := fun σ H Q => t σ H fun x H1 => ∃ i, x = .int i /\ Q (some i) H1
section
variable {X : Cx} {e : Expr} {te : TE} {lo hi : Option Expr} {tl th : TO} {pos p2 : Pos}
def SlR (X : Cx) (r : V -> Option Int -> Option Int -> Hp -> VK -> Prop) : Prop :=
  ∀ (pins : List (Addr × Obj)) (s : Shared) (σ : St) (H : Hp) (x : V) (v vl vu : Value) (lo hi : Option Int) (sl : Addr) (Q : VK), Inv X pins σ H s -> RelV x v -> s.heap.IsSliceOf sl vl vu .none -> IsPart vl lo -> IsPart vu hi -> r x lo hi H Q ->
    ∃ T id, typeLookup (.type T) "__getitem__" = pure (some (.builtin id)) /\ s.TypeIs v T /\ wpAny (model X.prog X.w) X.A (getItem v (.ref sl)) (EP X pins σ Q) X.xe s
theorem SlR.or {r r' : V -> Option Int -> Option Int -> Hp -> VK -> Prop} (h : SlR X r) (h' : SlR X r') : SlR X (fun x lo hi H Q => r x lo hi H Q \/ r' x lo hi H Q) := by
  intro pins s σ H x v vl vu lo hi sl Q I rx hs pl pu q
  rcases q with q | q
  . exact h pins s σ H x v vl vu lo hi sl Q I rx hs pl pu q
  . exact h' pins s σ H x v vl vu lo hi sl Q I rx hs pl pu q
def tSl (r : V -> Option Int -> Option Int -> Hp -> VK -> Prop) (te : TE) (tl th : TO) : TE := fun σ H Q => te σ H fun x H1 => tl σ H1 fun l H2 => th σ H2 fun u H3 => r x l u H3 Q
def z6m (xs : List V) (lo hi : Option Int) : List V := (xs.drop (HT.sIx xs.length 0 lo)).take (HT.sIx xs.length xs.length hi - HT.sIx xs.length 0 lo)
def z8a (K : PySem.W.Frag) : V -> Option Int -> Option Int -> Hp -> VK -> Prop := fun x lo hi H Q => ∃ a xs, x = .ref a /\ SqT K H a xs /\
  ¬ (HT.sIx xs.length 0 lo = 0 /\ HT.sIx xs.length xs.length hi = xs.length) /\ ∀ p, H p = none -> Q (.ref p) (upd H p (.tup (z6m xs lo hi)))
def z8b (K : PySem.W.Frag) : R2 := fun x y H Q => ∃ a b ns ms, x = .ref a /\ y = .ref b /\ SqT K H a (ns.map V.int) /\ SqT K H b (ms.map V.int) /\ Q (.bl (HT.lexLt ns ms)) H
def z7n (K : PySem.W.Frag) : R2 := fun x y H Q => ∃ a b xs ys, x = .ref a /\ y = .ref b /\ SqT K H a xs /\ SqT K H b ys /\ xs ≠ [] /\ xs.length + ys.length <= sizeLine /\
  (ys = [] -> Q (.ref a) H) /\ (ys ≠ [] -> ∀ p, H p = none -> Q (.ref p) (upd H p (.tup (xs ++ ys))))
end
def ixN (n : Nat) (i : Int) : Option Nat := if 0 <= i then (if i < n then some i.toNat else none) else if -(n : Int) <= i then some (i + n).toNat else none
def atI {α : Type} (xs : List α) (i : Int) : Option α := (ixN xs.length i).bind fun j => xs[j]?
theorem z4R {n : Nat} {i : Int} {j : Nat} (h : ixN n i = some j) : seqIndex? i n = some j /\ j < n /\ -(n : Int) <= i /\ i < n := by
  unfold ixN at h
  by_cases h0 : 0 <= i
  . rw [if_pos h0] at h
    by_cases h1 : i < n
    . rw [if_pos h1] at h
      have e : i.toNat = j := Option.some.inj h
      exact ⟨by rw [seqIndex_of h0 h1, e], by omega, by omega, h1⟩
    . rw [if_neg h1] at h; cases h
  . rw [if_neg h0] at h
    by_cases h1 : -(n : Int) <= i
    . rw [if_pos h1] at h
      have e : (i + n).toNat = j := Option.some.inj h
      exact ⟨by rw [seqIndex_neg (by omega) h1, e], by omega, h1, by omega⟩
    . rw [if_neg h1] at h; cases h
theorem z2w {α : Type} {xs : List α} {i : Int} {v : α} (h : atI xs i = some v) : ∃ j, seqIndex? i xs.length = some j /\ xs[j]? = some v /\ j < xs.length /\ -(xs.length : Int) <= i /\ i < xs.length := by
  unfold atI at h
  cases e : ixN xs.length i with
  | none => rw [e] at h; cases h
  | some j =>
    rw [e] at h
    obtain ⟨h1, h2, h3, h4⟩ := z4R e
    exact ⟨j, h1, h, h2, h3, h4⟩
theorem z1C {α : Type} {xs : List α} {j : Nat} {v : α} (h : xs[j]? = some v) : atI xs (j : Int) = some v := by
  have hj : j < xs.length := (List.getElem?_eq_some_iff.mp h).1
  have e : ixN xs.length (j : Int) = some j := by
    unfold ixN
    rw [if_pos (by omega), if_pos (by omega)]; simp
  unfold atI; rw [e]; exact h
def z4S (b : Expr) : Prop := ∀ o i, subscripted b false o i = operate [o, i] (getItem o i)
def IxR (X : Cx) (r : R2) : Prop :=
  ∀ (value slice : Expr) (pins : List (Addr × Obj)) (s : Shared) (σ : St) (H : Hp) (x y : V) (v u : Value) (Q : VK), Inv X pins σ H s -> RelV x v -> RelV y u -> r x y H Q ->
    subscripted slice false v u = operate [v, u] (getItem v u) -> wpAny (model X.prog X.w) X.A (subscriptTail value slice v u) (EP X pins σ Q) X.xe s
def MtR (X : Cx) (id : String) (r : V -> List V -> Hp -> VK -> Prop) : Prop :=
  ∀ (pins : List (Addr × Obj)) (s : Shared) (σ : St) (H : Hp) (x : V) (xs : List V) (v : Value) (us : List Value) (Q : VK), Inv X pins σ H s -> RelV x v -> Vals xs us -> r x xs H Q ->
    wpAny (model X.prog X.w) X.A (call (.builtin id) (v :: us)) (EP X pins σ Q) X.xe s
section
variable {X : Cx} {a b : Expr} {ta tb : TE} {pos : Pos}
theorem IxR.or {r r' : R2} (h : IxR X r) (h' : IxR X r') : IxR X (fun x y H Q => r x y H Q \/ r' x y H Q) := by
  intro value slice pins s σ H x y v u Q I rx ry q hs
  rcases q with q | q
  . exact h value slice pins s σ H x y v u Q I rx ry q hs
  . exact h' value slice pins s σ H x y v u Q I rx ry q hs
theorem MtR.or {id : String} {r r' : V -> List V -> Hp -> VK -> Prop} (h : MtR X id r) (h' : MtR X id r') : MtR X id (fun x xs H Q => r x xs H Q \/ r' x xs H Q) := by
  intro pins s σ H x xs v us Q I rx rs q
  rcases q with q | q
  . exact h pins s σ H x xs v us Q I rx rs q
  . exact h' pins s σ H x xs v us Q I rx rs q
theorem z0G {r : R2} (hr : IxR X r) (ha : PE X a ta) (hb : PE X b tb) (hs : z4S b) : PE X (.Subscript a b pos) (tOp r ta tb) := by
  intro pins s σ H Q I h
  exact Subscript_ (z5y ha hb I h fun v u s2 x y H2 I2 rx ry q => hr a b pins s2 σ H2 x y v u Q I2 rx ry q (hs _ _))
def z6n (K : PySem.W.Frag) : R2 := fun x y H Q => ∃ p xs i v, x = .ref p /\ y = .int i /\ SqL K H p xs /\ atI xs i = some v /\ Q v H
def z6o (K : PySem.W.Frag) : R2 := fun x y H Q => ∃ p xs i v, x = .ref p /\ y = .int i /\ SqT K H p xs /\ atI xs i = some v /\ Q v H
def z7o : R2 := fun x y H Q => ∃ z i c, x = .str z /\ y = .int i /\ z.length <= sizeLine /\ atI z.cps.toList i = some c /\ Q (.str ⟨#[c]⟩) H
theorem z1n : IxR X (z6n X.K) := by
  intro value slice pins s σ H x y v u Q I rx ry h hs
  obtain ⟨p, xs, i, z, rfl, rfl, hq, he, q⟩ := h
  cases rx
  obtain ⟨t, rfl⟩ := ry
  obtain ⟨its, r, pl, hz⟩ := I.list hq
  obtain ⟨j, h1, h2, h3, h4, h5⟩ := z2w he
  obtain ⟨w, ew, rw'⟩ := r.get h2
  have hl := r.length
  have hn := z2p
  have fin : EP X pins σ Q w s := ⟨z, H, I, rw', q⟩
  by_cases h0 : 0 <= i
  . have hj : i.toNat = j := by
      rw [seqIndex_of h0 h5] at h1
      exact Option.some.inj h1
    exact item_listR pl.isList h0 (by omega) (by rw [hj]; simpa using ew) fin hs
  . have hj : (i + (its.toArray.size : Int)).toNat = j := by
      rw [seqIndex_neg (by omega) h4] at h1
      rw [List.size_toArray, <- hl]
      exact Option.some.inj h1
    exact subscriptTail_builtinR (x := w) pl.isList.typeIs slot_list_getitem.lookup
      (wpAny_getItem_list_neg (Q := fun r s' => r = w /\ EP X pins σ Q r s') pl.isList (by omega) (by rw [List.size_toArray] <;> omega) (by omega) (by rw [hj]; simpa using ew) ⟨rfl, fin⟩) hs
theorem z08 : IxR X (z6o X.K) := by
  intro value slice pins s σ H x y v u Q I rx ry h hs
  obtain ⟨p, xs, i, z, rfl, rfl, hq, he, q⟩ := h
  cases rx
  obtain ⟨t, rfl⟩ := ry
  obtain ⟨its, r, pl, hz⟩ := I.tuple hq
  obtain ⟨j, h1, h2, h3, h4, h5⟩ := z2w he
  obtain ⟨w, ew, rw'⟩ := r.get h2
  have hl := r.length
  have hn := z2p
  have fin : EP X pins σ Q w s := ⟨z, H, I, rw', q⟩
  exact subscriptTail_builtinR (x := w) pl.typeIs slot_tuple_getitem.lookup
    (getItem_tuple (j := j) (Q := fun r s' => r = w /\ EP X pins σ Q r s') pl (by omega) (by omega) (by rw [List.size_toArray, <- hl]; exact h1) (by simpa using ew) ⟨rfl, fin⟩) hs
def rIx (K : PySem.W.Frag) : R2 := fun x y H Q => z6n K x y H Q \/ z6o K x y H Q \/ z7o x y H Q
theorem Inv.lst {pins : List (Addr × Obj)} {σ : St} {H : Hp} {s : Shared} {p : Addr} {xs : List V} (I : Inv X pins σ H s) (h : H p = some (.lst xs)) :
    ∃ (its : List Value) (n : Nat), Vals xs its /\ s.heap.get? p = some { cls := .type "list", data := .seq its.toArray n } /\ xs.length <= sizeLine := by
  obtain ⟨z, its, n, r, e⟩ := I.hok p _ h
  exact ⟨its, n, r, e, z⟩
def z7p : V -> V -> V -> Hp -> (Hp -> Prop) -> Prop := fun o i v H Q => ∃ p xs k j, o = .ref p /\ i = .int k /\ H p = some (.lst xs) /\ ixN xs.length k = some j /\ Q (upd H p (.lst (xs.set j v)))
def z8c (K : PySem.W.Frag) : V -> Option Int -> Option Int -> Hp -> VK -> Prop := fun x lo hi H Q => ∃ a xs, x = .ref a /\ SqL K H a xs /\ ∀ p, H p = none -> Q (.ref p) (upd H p (.lst (z6m xs lo hi)))
def z5D : V -> Bool
  | .non => true
  | .bl _ => true
  | .int _ => true
  | .str _ => true
  | _ => false
def eqV : V -> V -> Bool
  | .non, .non => true
  | .bl a, .bl b => a == b
  | .bl a, .int b => (if a then 1 else 0) == b
  | .int a, .bl b => a == (if b then 1 else 0)
  | .int a, .int b => a == b
  | .str a, .str b => a == b
  | _, _ => false
def eqU (x : V) (u : Value) : Bool := match u with
  | .none => eqV .non x
  | .bool b => eqV (.bl b) x
  | .int i _ => eqV (.int i) x
  | .str z _ => eqV (.str z) x
  | _ => false
def inV (x : V) (xs : List V) : Bool := xs.any fun y => eqV y x
def rIn (K : PySem.W.Frag) (neg : Bool) : R2 := fun x y H Q => ∃ p xs, y = .ref p /\ (SqL K H p xs \/ SqT K H p xs) /\ z5D x = true /\ xs.all z5D = true /\ Q (.bl (if neg then !inV x xs else inV x xs)) H
theorem z0O : CallR X (.builtin "len") (fun xs H Q => ∃ p ys, xs = [.ref p] /\ (SqL X.K H p ys \/ SqT X.K H p ys) /\ Q (.int ys.length) H) := by
  intro pins s σ H xs us Q I r h
  obtain ⟨p, ys, rfl, hq, q⟩ := h
  obtain ⟨u, rfl, rx⟩ := vals1 r
  cases rx
  have hn := z2p
  rcases hq with hq | hq
  . obtain ⟨its, r', pl, hz⟩ := I.list hq
    have hlen := r'.length
    exact Calls.call_len_list pl.isList (by simp only [List.size_toArray] <;> omega) ⟨.int ys.length, H, I.tok _, ⟨s.toks + 1, by rw [List.size_toArray, hlen]⟩, q⟩
  . obtain ⟨its, r', pl, hz⟩ := I.tuple hq
    have hlen := r'.length
    exact len_tuple pl (by simp only [List.size_toArray] <;> omega) ⟨.int ys.length, H, I.tok _, ⟨s.toks + 1, by rw [List.size_toArray, hlen]⟩, q⟩
theorem CallR.or {f : Value} {r r' : List V -> Hp -> VK -> Prop} (h : CallR X f r) (h' : CallR X f r') : CallR X f (fun xs H Q => r xs H Q \/ r' xs H Q) := by
  intro pins s σ H xs us Q I rs q
  rcases q with q | q
  . exact h pins s σ H xs us Q I rs q
  . exact h' pins s σ H xs us Q I rs q
theorem z11 : CallR X (.type "tuple") (fun xs H Q => ∃ p ys, xs = [.ref p] /\ ((SqL X.K H p ys /\ ∀ l, H l = none -> Q (.ref l) (upd H l (.tup ys))) \/ (SqT X.K H p ys /\ Q (.ref p) H))) := by
  intro pins s σ H xs us Q I r h
  obtain ⟨p, ys, rfl, h⟩ := h
  obtain ⟨u, rfl, rx⟩ := vals1 r
  cases rx
  rcases h with ⟨hq, q⟩ | ⟨hq, q⟩
  . obtain ⟨its, r', pl, hz⟩ := I.list hq
    have hlen := r'.length
    refine call_tuple_list pl.isList (fun h' kp => ?_) (by simp only [List.size_toArray] <;> omega)
    have I1 : Inv X pins σ H { s with heap := h' } := I.kept (t' := s.toks) kp
    have I2 : Inv X pins σ (upd H h'.objs.size (.tup ys)) { s with heap := h'.push { cls := .type "tuple", data := .seq its.toArray } } :=
      I1.laid (t' := s.toks) (fun b o e => Heap.get?_push_of_some _ e) (Nat.le_refl _) (show ObjOk X.prog X.w _ _ _ (.tup ys) from ⟨hz, its, r', IsTup.new _ _⟩)
    exact ⟨.ref h'.objs.size, _, I2, rfl, q _ (I1.hok.fresh (Nat.le_refl _))⟩
  . obtain ⟨its, r', pl, hz⟩ := I.tuple hq
    exact call_tuple_same pl ⟨.ref p, H, I, rfl, q⟩
def tyV (K : PySem.W.Frag) (T : String) (x : V) (H : Hp) : Prop := match x with
  | .str _ => T = "str"
  | .int _ => T = "int"
  | .ref p => (T = "list" /\ ∃ xs, SqL K H p xs) \/ (T = "tuple" /\ ∃ o, K.lookup p = some o /\ o.cls = .type "tuple" /\ o.dict = none) \/
      (T = "dict" /\ ((∃ kvs, H p = some (.dK kvs)) \/ ∃ kvs, H p = some (.dT kvs))) \/ (T = "set" /\ ∃ S n, H p = some (.set S n))
  | _ => False
theorem z5E {pins : List (Addr × Obj)} {σ : St} {H : Hp} {s : Shared} {T : String} {x : V} {v : Value} (I : Inv X pins σ H s) (r : RelV x v) (ty : tyV X.K T x H) :
    s.TypeIs v T /\ ∀ a, v = .ref a -> ∃ ob, s.heap.get? a = some ob /\ ob.dict = none := by
  cases x with
  | str z =>
    obtain ⟨t, rfl⟩ := r
    cases (show T = "str" from ty)
    exact ⟨typeIs_str s z t, fun _ e => nomatch e⟩
  | int i =>
    obtain ⟨t, rfl⟩ := r
    cases (show T = "int" from ty)
    exact ⟨typeIs_int s i t, fun _ e => nomatch e⟩
  | ref p =>
    cases r
    rcases ty with ⟨rfl, xs, hq⟩ | ⟨rfl, o, hk, hc, hd⟩ | ⟨rfl, hk⟩ | ⟨rfl, S, n, hk⟩
    . obtain ⟨its, _, pl, _⟩ := I.list hq
      refine ⟨pl.isList.typeIs, fun a e => ?_⟩
      cases e
      obtain ⟨o, n, e, c, hd, _⟩ := pl
      exact ⟨o, e, hd⟩
    . refine ⟨⟨o, I.kIn p o hk, hc⟩, fun a e => ?_⟩
      cases e
      exact ⟨o, I.kIn _ o hk, hd⟩
    . have z : ∃ o, s.heap.get? p = some o /\ o.ExactDict := by
        rcases hk with ⟨kvs, hk⟩ | ⟨kvs, hk⟩
        . obtain ⟨_, _, _, _, o, _, _, e, ex, _⟩ := I.hok p _ hk
          exact ⟨o, e, ex⟩
        . obtain ⟨_, _, _, _, o, _, _, e, ex, _⟩ := I.hok p _ hk
          exact ⟨o, e, ex⟩
      obtain ⟨o, e, ex⟩ := z
      refine ⟨⟨o, e, ex.1⟩, fun a e2 => ?_⟩
      cases e2
      exact ⟨o, e, ex.2.1⟩
    . obtain ⟨o, _, _, _, e, ex, _⟩ := I.hok p _ hk
      refine ⟨⟨o, e, ex.1⟩, fun a e2 => ?_⟩
      cases e2
      exact ⟨o, e, ex.2.1⟩
  | _ => exact False.elim ty
def z8d (K : PySem.W.Frag) (T : String) (r : V -> List V -> Hp -> VK -> Prop) (to : TE) : TE := fun σ H Q => to σ H fun x H1 => tyV K T x H1 /\ r x [] H1 Q
def tBM (K : PySem.W.Frag) (T : String) (r : V -> List V -> Hp -> VK -> Prop) (to : TE) (t : TA) : TE := fun σ H Q => to σ H fun x H1 => tyV K T x H1 /\ t σ H1 fun xs H2 => r x xs H2 Q
variable {o e : Expr} {es : List Expr} {to : TE} {t : TA} {name : Str} {apos cpos : Pos} {T id : String} {r : V -> List V -> Hp -> VK -> Prop}
theorem z5F (pa : PlainAttrs T) (slot : Slot T name id) (hty : typeOf (.builtin id) = pure (.type "method_descriptor")) (hm : MtR X id r) (ho : PE X o to) (ha : PA X (e :: es) t)
    (hbase : attributeBase o name X.env (eval o X.env) = eval o X.env := by rfl)
    (hfew : ((backTo cpos (starEach (e :: es) X.env)).all (fun x => !x.1) && (backToKw cpos (keywordEach [] X.env)).all (fun x => x.1.isSome)
      && decide ((e :: es).length + ([] : List Keyword).length + (if ([] : List Keyword).isEmpty then 0 else 1) < 30)) = true := by rfl)
    (hline : (apos.endLine == cpos.line) = true := by rfl) (hs : starEach (e :: es) X.env = (false, eval e X.env) :: starEach es X.env := by rfl) (hplain : (backTo cpos (starEach es X.env)).any (·.1) = false := by rfl) :
    PE X (.Call (.Attribute o name apos) (e :: es) [] cpos) (tBM X.K T r to t) := by
  intro pins s σ H Q I h
  refine wpAny_Call_method_late hbase hfew hline rfl (thn (ho pins s σ H _ I h) fun v s1 ⟨x, H1, I1, r1, ty, q1⟩ => ?_)
  obtain ⟨h1, h2⟩ := z5E I1 r1 ty
  refine ⟨T, id, pa, slot, hty, h1, h2, ?_⟩
  have hA := ha cpos pins s1 σ H1 _ I1 q1
  rw [hs] at hA ⊢
  refine Calls.callWith_builtin (by show (false || (backTo cpos (starEach es X.env)).any (·.1)) = false; rw [hplain] <;> rfl) (Calls.evalArgs_plain ?_)
  exact thn hA fun us s2 ⟨vs, H2, I2, r2, q2⟩ => hm pins s2 σ H2 x vs v us Q I2 r1 r2 q2
/- xs.append(e), list.index on a module's tuple .. are MtR facts of 06m -/
end
def MtM (X : Cx) (id : String) (r : V -> List V -> Hp -> VK -> Prop) : Prop :=
  ∀ (pins : List (Addr × Obj)) (s : Shared) (σ : St) (H : Hp) (x : V) (xs : List V) (v : Value) (us : List Value) (Q : VK), Inv X pins σ H s -> RelV x v -> Vals xs us -> r x xs H Q ->
    wpAny (model X.prog X.w) X.A (call (.builtin id) (v :: us)) (EP X pins σ Q) X.xe s
theorem Vals.one : ∀ {x : V} {us : List Value}, Vals [x] us -> ∃ u, us = [u] /\ RelV x u
  | _, _, .cons r .nil => ⟨_, rfl, r⟩
theorem Vals.two : ∀ {x y : V} {us : List Value}, Vals [x, y] us -> ∃ u v, us = [u, v] /\ RelV x u /\ RelV y v
  | _, _, _, .cons r (.cons q .nil) => ⟨_, _, rfl, r, q⟩
theorem Vals.zero : ∀ {us : List Value}, Vals [] us -> us = []
  | _, .nil => rfl
theorem Vals.dropLast {xs : List V} {us : List Value} (h : Vals xs us) : Vals xs.dropLast us.dropLast := by
  induction h with
  | nil => exact .nil
  | cons r t ih =>
    cases t with
    | nil => exact .nil
    | cons q t' => exact .cons r ih
theorem Vals.eraseIdx : ∀ {xs : List V} {us : List Value} (i : Nat), Vals xs us -> Vals (xs.eraseIdx i) (us.eraseIdx i)
  | _, _, _, .nil => .nil
  | _, _, 0, .cons _ t => t
  | _, _, i + 1, .cons r t => .cons r (Vals.eraseIdx i t)
theorem Vals.reverse {xs : List V} {us : List Value} (h : Vals xs us) : Vals xs.reverse us.reverse := by
  induction h with
  | nil => exact .nil
  | cons r t ih => rw [List.reverse_cons, List.reverse_cons]; exact Vals.append ih (.cons r .nil)
theorem Vals.rep {xs : List V} {us : List Value} (h : Vals xs us) : ∀ k : Nat, Vals (List.replicate k xs).flatten (List.replicate k us).flatten
  | 0 => .nil
  | k + 1 => by
    rw [List.replicate_succ, List.replicate_succ, List.flatten_cons, List.flatten_cons]
    exact Vals.append h (Vals.rep h k)
theorem foldl_rep (its : List Value) : ∀ (k : Nat) (acc : List Value),
    List.foldl (fun x1 x2 => x1 ++ x2) acc.toArray (List.replicate k its.toArray) = (acc ++ (List.replicate k its).flatten).toArray
  | 0, acc => by simp
  | k + 1, acc => by
    have e : acc.toArray ++ its.toArray = (acc ++ its).toArray := by simp
    have e2 : (acc ++ its) ++ (List.replicate k its).flatten = acc ++ (List.replicate (k + 1) its).flatten := by
      rw [List.replicate_succ, List.flatten_cons, List.append_assoc]
    rw [<- e2, <- foldl_rep its k (acc ++ its), <- e, List.replicate_succ, List.foldl_cons]
section
variable {X : Cx} {pins : List (Addr × Obj)} {σ : St} {H : Hp} {s : Shared} {l b : Addr} {xs ys zs : List V}
theorem Inv.lset {its its' : List Value} {n : Nat} {f : Array Value -> Array Value} {t' : Nat} (I : Inv X pins σ H s) (hH : H l = some (.lst xs))
    (e : s.heap.get? l = some { cls := .type "list", data := .seq its.toArray n }) (hf : f its.toArray = its'.toArray) (hv : Vals ys its') (hz : ys.length <= sizeLine) :
    Inv X pins σ (upd H l (.lst ys)) { s with heap := s.heap.update l (Obj.mapSeq f), toks := t' } := by
  have q := PySem.IsL.update e f
  rw [hf] at q
  refine I.write (x := l) (e := l) (by rw [hH]; exact trivial) (.inl rfl) (fun b' u hb hu => (Heap.get?_update_other s.heap (Obj.mapSeq f) (Ne.symm hb)).trans hu) ⟨_, q⟩ ?_
  exact ⟨hz, its', _, hv, q⟩
theorem Inv.lnew {its : List Value} {t' : Nat} (I : Inv X pins σ H s) (hv : Vals ys its) (hz : ys.length <= sizeLine) :
    Inv X pins σ (upd H s.heap.objs.size (.lst ys)) { s with heap := s.heap.push { cls := .type "list", data := .seq its.toArray }, toks := t' } :=
  I.laid (fun _ _ q => Heap.get?_push_of_some _ q) (Nat.le_refl _) ⟨hz, its, 0, hv, Heap.get?_push_size _ rfl⟩
theorem Inv.fresh (I : Inv X pins σ H s) : H s.heap.objs.size = none := I.hok.fresh (Nat.le_refl _)
theorem Inv.lstM (I : Inv X pins σ H s) (hH : H l = some (.lst xs)) : xs.length <= sizeLine /\ ∃ (its : List Value) (n : Nat), Vals xs its /\ xs.length = its.length /\ s.heap.get? l = some { cls := .type "list", data := .seq its.toArray n } := by
  obtain ⟨z, its, n, r, e⟩ := I.hok l _ hH
  exact ⟨z, its, n, r, r.length, e⟩
theorem z3j {n : Nat} (h : n <= sizeLine) : Builtin.List.listTooLong n = false := by
  unfold Builtin.List.listTooLong
  exact decide_eq_false (by omega)
end
section
variable {X : Cx}
def z4T : V -> List V -> Hp -> VK -> Prop := fun x vs H Q => ∃ l xs y, x = .ref l /\ vs = [y] /\ H l = some (.lst xs) /\ xs.length < sizeLine /\ Q .non (upd H l (.lst (xs ++ [y])))
theorem z1f : MtM X "list.append" z4T := by
  intro pins s σ H x vs v us Q I rx rv h
  obtain ⟨l, xs, y, rfl, rfl, hH, hz, q⟩ := h
  cases rx
  obtain ⟨u, rfl, ru⟩ := rv.one
  obtain ⟨z, its, n, r, hl, e⟩ := I.lstM hH
  refine call_meets F.slot_list_append ⟨_, e, rfl⟩ F.entry_list_append (F.args_list_append_2 _ _) (PySem.list_append l its.toArray n u (by rw [List.size_toArray]; omega)) ⟨e, ?_⟩
  refine ⟨.non, _, I.lset (its' := its ++ [u]) hH e (by simp) (r.append (.cons ru .nil)) ?_, rfl, q⟩
  rw [List.length_append, List.length_singleton]
  omega
def z64 : V -> List V -> Hp -> VK -> Prop := fun x vs H Q => ∃ l b xs zs, x = .ref l /\ vs = [.ref b] /\ H l = some (.lst xs) /\ H b = some (.lst zs) /\ xs.length + zs.length <= sizeLine /\ Q .non (upd H l (.lst (xs ++ zs)))
def z8e : V -> List V -> Hp -> VK -> Prop := fun x vs H Q => ∃ l xs y, x = .ref l /\ vs = [] /\ H l = some (.lst xs) /\ xs[xs.length - 1]? = some y /\ Q y (upd H l (.lst xs.dropLast))
def z6p : V -> List V -> Hp -> VK -> Prop := fun x vs H Q => ∃ l xs i k y, x = .ref l /\ vs = [.int i] /\ H l = some (.lst xs) /\ -(2 ^ 63) <= i /\ i < 2 ^ 63 /\ seqIndex? i xs.length = some k /\ xs[k]? = some y /\ Q y (upd H l (.lst (xs.eraseIdx k)))
def z5f : V -> List V -> Hp -> VK -> Prop := fun x vs H Q => ∃ l xs, x = .ref l /\ vs = [] /\ H l = some (.lst xs) /\ Q .non (upd H l (.lst xs.reverse))
def z6q : V -> List V -> Hp -> VK -> Prop := fun x vs H Q => ∃ l xs, x = .ref l /\ vs = [] /\ H l = some (.lst xs) /\ Q .non (upd H l (.lst []))
def z8f : R2 := fun x y H Q => ∃ l b xs zs, x = .ref l /\ y = .ref b /\ H l = some (.lst xs) /\ H b = some (.lst zs) /\ xs.length + zs.length <= sizeLine /\ ∀ p, H p = none -> Q (.ref p) (upd H p (.lst (xs ++ zs)))
def z7q : R2 := fun x y H Q => ∃ l k xs, x = .ref l /\ y = .int k /\ H l = some (.lst xs) /\ -(2 ^ 63) <= k /\ k < 2 ^ 63 /\ xs.length * k.toNat <= sizeLine /\
  ∀ p, H p = none -> Q (.ref p) (upd H p (.lst (List.replicate k.toNat xs).flatten))
theorem len_rep {α : Type} (xs : List α) (k : Nat) : (List.replicate k xs).flatten.length = k * xs.length := by
  induction k with
  | zero => simp
  | succ k ih => rw [List.replicate_succ, List.flatten_cons, List.length_append, ih, Nat.succ_mul, Nat.add_comm]
theorem z5G : OpR X (binaryOp .Mult) z7q := by
  intro pins s σ H x y v u Q I rx ry h
  obtain ⟨l, k, xs, rfl, rfl, hH, h1, h2, hz, q⟩ := h
  cases rx
  obtain ⟨t, rfl⟩ := ry
  obtain ⟨z, its, n, r, hl, e⟩ := I.lstM hH
  have hlen : its.toArray.size * k.toNat <= sizeLine := by rw [List.size_toArray, <- hl]; exact hz
  have hcap : ¬ its.toArray.size * k.toNat > (2 ^ 63 - 1) / 8 := by
    have : (sizeLine : Nat) <= (2 ^ 63 - 1) / 8 := by decide
    omega
  have hfit : ¬ (!Builtin.List.listFitsIndex k) = true := by
    rw [fitsIndex_both h1 h2]
    exact Bool.false_ne_true
  have hlong : ¬ Builtin.List.listTooLong (its.toArray.size * k.toNat) = true := by
    rw [z3j hlen]
    exact Bool.false_ne_true
  have hnew : List.foldl (fun x1 x2 => x1 ++ x2) #[] (List.replicate (if its.toArray.isEmpty = true then 0 else k.toNat) its.toArray) = (List.replicate k.toNat its).flatten.toArray := by
    have f0 : ∀ m : Nat, List.foldl (fun x1 x2 => x1 ++ x2) #[] (List.replicate m its.toArray) = (List.replicate m its).flatten.toArray := fun m => by
      have := foldl_rep its m []
      rw [List.nil_append] at this
      exact this
    rw [f0]
    cases its with
    | nil => simp
    | cons a r' => rw [if_neg (by simp)]
  refine wpAny_binaryOp_repeat_ref (T := "list") (U := "int") (by decide) ⟨_, e, rfl⟩ (fun s' => typeIs_int s' k t) noFill_list_mul F.fills_int_mul F.slot_int_rmul repeat_list F.slot_int_index.lookup
    (call_meets F.slot_int_rmul (typeIs_int s k t) F.entry_int_rmul (F.args_int_rmul_2 _ _) (int___rmul___int_list k t l its.toArray n)
      ⟨e, rfl, ⟨_, e, rfl⟩, call_meets F.slot_list_mul ⟨_, e, rfl⟩ F.entry_list_mul (F.args_list_mul_2 _ _) (AutoListH.list___mul___list_int_3 l its.toArray n k t hfit hcap hlong) ⟨e, ?_⟩⟩)
  rw [hnew]
  exact ⟨.ref _, _, I.lnew (t' := s.toks) (r.rep k.toNat) (by rw [len_rep, Nat.mul_comm]; exact hz), rfl, q _ I.fresh⟩
end
section
variable {prog : Program} {w : World} {A : Around} {E : Value -> Shared -> Prop} {s : Shared}
end
section
variable {X : Cx}
end
section
variable {κ : Type} [DecidableEq κ]
def z1l (kvs : List (κ × V)) (k : κ) : Option V := (kvs.find? fun kv => decide (kv.1 = k)).map (·.2)
def putK (kvs : List (κ × V)) (k : κ) (v : V) : List (κ × V) :=
  if (kvs.any fun kv => decide (kv.1 = k)) = true then kvs.map (fun kv => if kv.1 = k then (kv.1, v) else kv) else kvs ++ [(k, v)]
def z2x (kvs : List (κ × V)) (k : κ) : List (κ × V) := kvs.filter fun kv => decide (kv.1 ≠ k)
theorem z1Q {p : κ × V} {r : List (κ × V)} {k : κ} (e : p.1 = k) : z1l (p :: r) k = some p.2 := by simp [z1l, List.find?_cons, e]
theorem z1R {p : κ × V} {r : List (κ × V)} {k : κ} (e : ¬ p.1 = k) : z1l (p :: r) k = z1l r k := by simp [z1l, List.find?_cons, e]
theorem z25 (k : κ) : ∀ kvs : List (κ × V), (kvs.any fun kv => decide (kv.1 = k)) = (z1l kvs k).isSome
  | [] => rfl
  | p :: r => by
    rw [List.any_cons]
    by_cases e : p.1 = k
    . simp only [z1Q e, decide_eq_true e, Bool.true_or, Option.isSome_some]
    . rw [z1R e, decide_eq_false e, Bool.false_or]; exact z25 k r
theorem RelO.isSome_eq {o : Option V} {u : Option Value} (r : RelO o u) : o.isSome = u.isSome := by
  cases o with
  | none => cases u with
    | none => rfl
    | some _ => exact (show False from r).elim
  | some _ => cases u with
    | none => exact (show False from r).elim
    | some _ => rfl
theorem RelO.getD {o : Option V} {u : Option Value} {d : V} {d' : Value} (r : RelO o u) (rd : RelV d d') : RelV (o.getD d) (u.getD d') := by
  cases o with
  | none => cases u with
    | none => exact rd
    | some _ => exact (show False from r).elim
  | some _ => cases u with
    | none => exact (show False from r).elim
    | some _ => exact r
theorem KV.val {kvs : List (κ × V)} {vs : List (κ × Value)} (r : KV kvs vs) (k : κ) : RelO (z1l kvs k) (valueAt vs k) := by
  unfold KV at r
  induction r with
  | nil => exact True.intro
  | @cons p q ps qs h t ih =>
    obtain ⟨h1, h2⟩ := h
    by_cases e : p.1 = k
    . have e' : q.1 = k := h1.symm.trans e
      have b : valueAt (q :: qs) k = some q.2 := by simp [valueAt, List.find?_cons, e']
      rw [z1Q e, b]; exact h2
    . have e' : ¬ q.1 = k := fun z => e (h1.trans z)
      have b : valueAt (q :: qs) k = valueAt qs k := by simp [valueAt, List.find?_cons, e']
      rw [z1R e, b]; exact ih
theorem KV.any {kvs : List (κ × V)} {vs : List (κ × Value)} (r : KV kvs vs) (k : κ) : (kvs.any fun kv => decide (kv.1 = k)) = vs.any fun kv => decide (kv.1 = k) := by
  unfold KV at r
  induction r with
  | nil => rfl
  | cons h t ih => rw [List.any_cons, List.any_cons, ih, h.1]
theorem KV.repl {kvs : List (κ × V)} {vs : List (κ × Value)} (r : KV kvs vs) (k : κ) {y : V} {u : Value} (ry : RelV y u) :
    KV (kvs.map fun kv => if kv.1 = k then (kv.1, y) else kv) (vs.map fun kv => if kv.1 = k then (kv.1, u) else kv) := by
  unfold KV at r ⊢
  induction r with
  | nil => exact .nil
  | @cons p q ps qs h t ih =>
    rw [List.map_cons, List.map_cons]
    refine .cons ?_ ih
    obtain ⟨h1, h2⟩ := h
    by_cases e : p.1 = k
    . rw [if_pos e, if_pos (h1.symm.trans e)]; exact ⟨h1, ry⟩
    . rw [if_neg e, if_neg (fun z => e (h1.trans z))]; exact ⟨h1, h2⟩
theorem KV.put {kvs : List (κ × V)} {vs : List (κ × Value)} (r : KV kvs vs) (k : κ) {y : V} {u : Value} (ry : RelV y u) : KV (putK kvs k y) (stored vs k u) := by
  unfold putK stored
  rw [r.any k]
  by_cases e : (vs.any fun kv => decide (kv.1 = k)) = true
  . rw [if_pos e, if_pos e]; exact r.repl k ry
  . rw [if_neg e, if_neg e]; exact Paired.snoc r ⟨rfl, ry⟩
theorem KV.drop {kvs : List (κ × V)} {vs : List (κ × Value)} (r : KV kvs vs) (k : κ) : KV (z2x kvs k) (without vs k) := by
  unfold KV at r ⊢
  unfold z2x without
  induction r with
  | nil => exact .nil
  | @cons p q ps qs h t ih =>
    obtain ⟨h1, h2⟩ := h
    rw [List.filter_cons, List.filter_cons]
    by_cases e : p.1 = k
    . have a : ¬ decide (p.1 ≠ k) = true := by simp [e]
      have b : ¬ decide (q.1 ≠ k) = true := by simp [h1.symm.trans e]
      rw [if_neg a, if_neg b]; exact ih
    . have e' : ¬ q.1 = k := fun z => e (h1.trans z)
      have a : decide (p.1 ≠ k) = true := by simp [e]
      have b : decide (q.1 ≠ k) = true := by simp [e']
      rw [if_pos a, if_pos b]; exact .cons ⟨h1, h2⟩ ih
theorem KV.keys {kvs : List (κ × V)} {vs : List (κ × Value)} (r : KV kvs vs) : kvs.map (·.1) = vs.map (·.1) := by
  unfold KV at r
  induction r with
  | nil => rfl
  | cons h t ih => rw [List.map_cons, List.map_cons, ih, h.1]
theorem KV.length {kvs : List (κ × V)} {vs : List (κ × Value)} (r : KV kvs vs) : kvs.length = vs.length := Paired.length r
end
abbrev KT (H : Hp) : List (List Key × V) -> List (List Key × Addr × Value) -> Prop := Paired fun p q => p.1 = q.1 /\ H q.2.1 = some (.tup (p.1.map kV)) /\ RelV p.2 q.2.2
theorem KT.val {H : Hp} {kvs : List (List Key × V)} {xs : List (List Key × Addr × Value)} (r : KT H kvs xs) (k : List Key) : RelO (z1l kvs k) ((atKey xs k).map (·.2)) := by
  induction r with
  | nil => exact True.intro
  | @cons p q ps qs h t ih =>
    obtain ⟨h1, _, h2⟩ := h
    by_cases e : p.1 = k
    . have e' : q.1 = k := h1.symm.trans e
      have b : atKey (q :: qs) k = some q.2 := by simp [atKey, List.find?_cons, e']
      rw [z1Q e, b]; exact h2
    . have e' : ¬ q.1 = k := fun z => e (h1.trans z)
      have b : atKey (q :: qs) k = atKey qs k := by simp [atKey, List.find?_cons, e']
      rw [z1R e, b]; exact ih
theorem KT.repl {H : Hp} {kvs : List (List Key × V)} {xs : List (List Key × Addr × Value)} (r : KT H kvs xs) (k : List Key) {y : V} {u : Value} (ry : RelV y u) :
    KT H (kvs.map fun kv => if kv.1 = k then (kv.1, y) else kv) (xs.map (putAt k u)) := by
  induction r with
  | nil => exact .nil
  | @cons p q ps qs h t ih =>
    rw [List.map_cons, List.map_cons]
    refine .cons ?_ ih
    obtain ⟨h1, h2, h3⟩ := h
    unfold putAt
    by_cases e : p.1 = k
    . rw [if_pos e, if_pos (h1.symm.trans e)]; exact ⟨h1, h2, ry⟩
    . rw [if_neg e, if_neg (fun z => e (h1.trans z))]; exact ⟨h1, h2, h3⟩
theorem KT.put {H : Hp} {kvs : List (List Key × V)} {xs : List (List Key × Addr × Value)} (r : KT H kvs xs) (k : List Key) {b : Addr} {y : V} {u : Value} (hb : H b = some (.tup (k.map kV))) (ry : RelV y u) :
    KT H (putK kvs k y) (storedH xs k b u) := by
  have e : (kvs.any fun kv => decide (kv.1 = k)) = (atKey xs k).isSome := by
    rw [z25, (r.val k).isSome_eq, Option.isSome_map]
  unfold putK storedH
  rw [e]
  by_cases q : (atKey xs k).isSome = true
  . rw [if_pos q, if_pos q]; exact r.repl k ry
  . rw [if_neg q, if_neg q]; exact Paired.snoc r ⟨rfl, hb, ry⟩
theorem KT.keeps {H H' : Hp} {kvs : List (List Key × V)} {xs : List (List Key × Addr × Value)} (r : KT H kvs xs) (ht : ∀ b ys, H b = some (.tup ys) -> H' b = some (.tup ys)) : KT H' kvs xs :=
  Paired.mapP r fun _ _ z => ⟨z.1, ht _ _ z.2.1, z.2.2⟩
section
variable {P : Program} {w : World} {H : Hp} {h : Heap} {a : Addr}
end
def DGet (H : Hp) (a : Addr) (y : V) (r : Option V) : Prop :=
  (∃ kvs k, Rd H a (.dK kvs) /\ y = kV k /\ r = z1l kvs k) \/ ∃ kvs k b, Rd H a (.dT kvs) /\ y = .ref b /\ H b = some (.tup (k.map kV)) /\ r = z1l kvs k
def DPut (H : Hp) (a : Addr) (y v : V) (H' : Hp) : Prop :=
  (∃ kvs k, H a = some (.dK kvs) /\ y = kV k /\ kvs.length < sizeLine /\ H' = upd H a (.dK (putK kvs k v))) \/
  ∃ kvs k b, H a = some (.dT kvs) /\ y = .ref b /\ H b = some (.tup (k.map kV)) /\ kvs.length < sizeLine /\ H' = upd H a (.dT (putK kvs k v))
theorem DGet.k {H : Hp} {a : Addr} {kvs : List (Key × V)} {k : Key} (e : H a = some (.dK kvs)) : DGet H a (kV k) (z1l kvs k) := .inl ⟨kvs, k, .inl e, rfl, rfl⟩
theorem DGet.t {H : Hp} {a b : Addr} {kvs : List (List Key × V)} {k : List Key} (e : H a = some (.dT kvs)) (eb : H b = some (.tup (k.map kV))) : DGet H a (.ref b) (z1l kvs k) := .inr ⟨kvs, k, b, .inl e, rfl, eb, rfl⟩
theorem DPut.k {H : Hp} {a : Addr} {kvs : List (Key × V)} {k : Key} {v : V} (e : H a = some (.dK kvs)) (hl : kvs.length < sizeLine) : DPut H a (kV k) v (upd H a (.dK (putK kvs k v))) := .inl ⟨kvs, k, e, rfl, hl, rfl⟩
theorem DPut.t {H : Hp} {a b : Addr} {kvs : List (List Key × V)} {k : List Key} {v : V} (e : H a = some (.dT kvs)) (eb : H b = some (.tup (k.map kV))) (hl : kvs.length < sizeLine) :
    DPut H a (.ref b) v (upd H a (.dT (putK kvs k v))) := .inr ⟨kvs, k, b, e, rfl, eb, hl, rfl⟩
section
variable {X : Cx} {pins : List (Addr × Obj)} {σ : St} {H : Hp} {s : Shared} {a : Addr} {y v : V} {u r : Value} {o : Option V} {A : Around} {E : Value -> Shared -> Prop}
end
section
variable {X : Cx} {pins : List (Addr × Obj)} {σ : St} {H : Hp} {s : Shared} {a : Addr} {kvs : List (Key × V)} {k : Key} {u : Value} {A : Around} {E : Value -> Shared -> Prop}
end
def z8g (i : Expr) : Prop := ∀ ov iv, subscripted i false ov iv = operate [ov, iv] (getItem ov iv)
def z7r (td ty : TE) : TE := fun σ H Q => td σ H fun x H1 => ty σ H1 fun y H2 => ∃ a v, x = .ref a /\ DGet H2 a y (some v) /\ Q v H2
def z8h (ty td : TE) : TE := fun σ H Q => ty σ H fun y H1 => td σ H1 fun x H2 => ∃ a o, x = .ref a /\ DGet H2 a y o /\ Q (.bl o.isSome) H2
def z65 (ty td : TE) : TE := fun σ H Q => ty σ H fun y H1 => td σ H1 fun x H2 => ∃ a o, x = .ref a /\ DGet H2 a y o /\ Q (.bl (!o.isSome)) H2
def z7s (td ty tv : TE) : TS := fun D σ H => tv σ H fun v H1 => td σ H1 fun x H2 => ty σ H2 fun y H3 => ∃ a H4, x = .ref a /\ DPut H3 a y v H4 /\ D.nx σ H4
def z7t (td ty tv : TE) (rd : V -> V -> Hp -> VK -> Prop) : TS := fun D σ H => td σ H fun x H1 => ty σ H1 fun y H2 => ∃ a v, x = .ref a /\ DGet H2 a y (some v) /\
  tv σ H2 fun y2 H3 => rd v y2 H3 fun z H4 => ∃ H5, DPut H4 a y z H5 /\ D.nx σ H5
def z7u (td ty : TE) : TS := fun D σ H => td σ H fun x H1 => ty σ H1 fun y H2 => ∃ a kvs k, x = .ref a /\ H2 a = some (.dK kvs) /\ y = kV k /\ (z1l kvs k).isSome = true /\ D.nx σ (upd H2 a (.dK (z2x kvs k)))
section
variable {X : Cx} {o i e value : Expr} {pos pos' tpos : Pos} {td ty tv : TE}
end
def z6r : TE := fun _ H Q => ∀ p, H p = none -> Q (.ref p) (upd H p (.dK []))
def z6s : TE := fun _ H Q => ∀ p, H p = none -> Q (.ref p) (upd H p (.dT []))
section
variable {X : Cx} {pos : Pos}
end
def z2y : List (TE × TE) -> St -> Hp -> (List (V × V) -> Hp -> Prop) -> Prop
  | [], _, H, Q => Q [] H
  | (tk, tv) :: r, σ, H, Q => tk σ H fun x H1 => tv σ H1 fun y H2 => z2y r σ H2 fun ps H3 => Q ((x, y) :: ps) H3
abbrev VV : List (V × V) -> List (Value × Value) -> Prop := Paired fun p q => RelV p.1 q.1 /\ RelV p.2 q.2
def PPs (X : Cx) (pos : Pos) (keys : List (Option Expr)) (values : List Expr) (trs : List (TE × TE)) : Prop :=
  ∀ (pins : List (Addr × Obj)) (s : Shared) (σ : St) (H : Hp) (Q : List (V × V) -> Hp -> Prop), Inv X pins σ H s -> z2y trs σ H Q ->
    wpAny (model X.prog X.w) X.A (evalPairs (pairTrees keys values X.env pos)) (fun vs s' => ∃ ps H', Inv X pins σ H' s' /\ VV ps vs /\ Q ps H') X.xe s
def z5H (kvs more : List (Key × V)) : List (Key × V) := more.foldl (fun acc kv => putK acc kv.1 kv.2) kvs
def z7v (trs : List (TE × TE)) : TE := fun σ H Q => ∀ p, H p = none -> z2y trs σ (upd H p (.dK [])) fun ps H2 => H2 p = some (.dK []) /\ ∃ kvs : List (Key × V), ps = kvs.map (fun kv => (kV kv.1, kv.2)) /\ kvs.length <= 15 /\ Q (.ref p) (upd H2 p (.dK (z5H [] kvs)))
structure M1 (X : Cx) (o : Expr) (m : Str) (apos : Pos) (e : Expr) (cpos : Pos) : Prop where
  base : attributeBase o m X.env (eval o X.env) = eval o X.env
  few : ((backTo cpos (starEach [e] X.env)).all (fun x => !x.1) && (backToKw cpos (keywordEach [] X.env)).all (fun x => x.1.isSome)
    && decide (([e] : List Expr).length + ([] : List Keyword).length + (if ([] : List Keyword).isEmpty then 0 else 1) < 30)) = true
  line : (apos.endLine == cpos.line) = true
  trees : backTo cpos (starEach [e] X.env) = [(false, eval e X.env)]
structure M2 (X : Cx) (o : Expr) (m : Str) (apos : Pos) (e f : Expr) (cpos : Pos) : Prop where
  base : attributeBase o m X.env (eval o X.env) = eval o X.env
  few : ((backTo cpos (starEach [e, f] X.env)).all (fun x => !x.1) && (backToKw cpos (keywordEach [] X.env)).all (fun x => x.1.isSome)
    && decide (([e, f] : List Expr).length + ([] : List Keyword).length + (if ([] : List Keyword).isEmpty then 0 else 1) < 30)) = true
  line : (apos.endLine == cpos.line) = true
  trees : backTo cpos (starEach [e, f] X.env) = [(false, eval e X.env), (false, eval f X.env)]
def IsD (H : Hp) (a : Addr) : Prop := (∃ kvs, Rd H a (.dK kvs)) \/ ∃ kvs, Rd H a (.dT kvs)
section
variable {X : Cx} {pins : List (Addr × Obj)} {σ : St} {H : Hp} {s : Shared} {a : Addr} {y d : V} {u r : Value} {o : Option V} {A : Around} {E : Value -> Shared -> Prop}
end
def z6t (td ty : TE) : TE := fun σ H Q => td σ H fun x H1 => ∃ a, x = .ref a /\ IsD H1 a /\ ty σ H1 fun y H2 => ∃ o, DGet H2 a y o /\ Q (o.getD .non) H2
def z6u (td ty tx : TE) : TE := fun σ H Q => td σ H fun x H1 => ∃ a, x = .ref a /\ IsD H1 a /\ ty σ H1 fun y H2 => tx σ H2 fun z H3 => ∃ o, DGet H3 a y o /\ Q (o.getD z) H3
def z6v (td ty : TE) : TE := fun σ H Q => td σ H fun x H1 => ∃ a, x = .ref a /\ IsD H1 a /\ ty σ H1 fun y H2 => ∃ kvs k v, H2 a = some (.dK kvs) /\ y = kV k /\ z1l kvs k = some v /\ Q v (upd H2 a (.dK (z2x kvs k)))
def z6w (td ty tx : TE) : TE := fun σ H Q => td σ H fun x H1 => ∃ a, x = .ref a /\ IsD H1 a /\ ty σ H1 fun y H2 => tx σ H2 fun z H3 => ∃ kvs k, H3 a = some (.dK kvs) /\ y = kV k /\
  (∀ v, z1l kvs k = some v -> Q v (upd H3 a (.dK (z2x kvs k)))) /\ (z1l kvs k = none -> Q z H3)
section
variable {X : Cx} {o e f : Expr} {apos cpos : Pos} {td ty tx : TE}
end
section
variable {X : Cx} {pins : List (Addr × Obj)} {σ : St} {H : Hp} {s : Shared} {a : Addr} {kvs : List (Key × V)} {A : Around} {E : Value -> Shared -> Prop}
end
section
variable {X : Cx} {pins : List (Addr × Obj)} {σ : St} {H : Hp} {s : Shared} {a : Addr} {y : V} {u : Value} {A : Around} {E : Value -> Shared -> Prop}
end
end L2
namespace Att
open PySem PySem.W PySem.Calls PyProof.Rows
theorem z1D {P : Params} {h : Heap} : ∀ (ns : List Int) (vs : List Value), WellAll P h vs (ns.map WData.int) -> IntsAre vs ns := by
  intro ns
  induction ns with
  | nil =>
    intro vs w
    rw [List.map_nil] at w
    cases w
    exact .nil
  | cons n ns ih =>
    intro vs w
    rw [List.map_cons] at w
    cases w with
    | cons a b =>
      cases a
      exact .cons _ _ (ih _ b)
theorem z2z {l : OpenLaw} {n : Nat} (hn : l.most = some n) {P : Params} {h : Heap} {args : List WData} {vals : List Value}
    (hpre : l.row.toRowW.claim.pre args = true) (hwl : WellAll P h vals args) :
    ∃ a vs ns, vals = [Value.ref a] /\ args = [WData.list (ns.map WData.int)] /\ h.get? a = some { cls := .type "list", data := .seq vs.toArray } /\ IntsAre vs ns /\ ns.length <= n := by
  have hsh : WShape.hasAll [] args [.list .int] = true := (pre_splitW hpre).1
  have hc : l.pre.holds [] { args := args } = true := (pre_splitW hpre).2
  obtain ⟨d, r, rfl, h1, h2⟩ := hasAllW_cons hsh
  obtain rfl := hasAllW_nil h2
  obtain ⟨xs, rfl, h3⟩ := hasW_list h1
  obtain ⟨ns, rfl⟩ := items_int h3
  have hlen : ns.length <= n := by
    unfold OpenLaw.pre at hc
    have h4 : (WTm.not (.lt (.lit (.int (n : Int))) (.len (.arg 0)))).holds [] { args := [.list (ns.map .int)] } = true := by
      have h4 := (holds_andW hc).1
      rw [hn] at h4
      exact h4
    have h5 := condW_of h4 (w_not (w_lt w_lit (w_len_list (w_arg rfl))))
    rw [List.length_map] at h5
    refine Nat.le_of_not_lt fun q => ?_
    have q' : (n : Int) < ((ns.length : Nat) : Int) := by omega
    first
      | (rw [decide_eq_true q'] at h5; exact absurd h5 (by decide))
      | (simp at h5; omega)
  cases hwl with
  | cons w1 w2 =>
    cases w2
    cases w1 with
    | list ho hall => exact ⟨_, _, ns, rfl, rfl, ho, z1D ns _ hall, hlen⟩
theorem z30 (l : OpenLaw) (args : List WData) : l.row.toRowW.claim.post args (.bool true) args = true :=
  postW_of (r := l.row.toRowW) (X := (true == true))
    (show WShape.has [] (.bool true) .bool = true by first | rfl | decide | simp [WShape.has, WShape.arms, WShape.armsAll])
    (show (WTm.eq .res (.lit (.bool true))).value [] { args := args, res := some (.bool true), after := args } = some (.bool (true == true)) from w_eq_bool (w_res rfl) w_lit) rfl
theorem attach_call {l : OpenLaw} {n : Nat} {q : Program} {loose : List Str} {XP : (Str -> Option Value) -> Heap -> Prop} {YP : World -> Heap -> Prop} {d : DefRec}
    (hn : l.most = some n) (hdf : d.params.defaults = [])
    (call : ∀ (w : World) (s₀ s₁ : Shared) (mg mb : Str -> Option Value) (fa : Addr) (o : Obj) (pm cd doc : Value) (a : Addr) (vs : List Value) (ns : List Int),
      Ground q loose [] XP w s₀ mg mb s₁.heap -> YP w s₁.heap ->
      s₁.heap.get? fa = some o -> o.data = .func (docDef d.name d.params d.body d.scope pm cd doc) -> s₁.heap.CodeRec cd d.name -> mg d.name = some (.ref fa) ->
      s₁.heap.get? a = some { cls := .type "list", data := .seq vs.toArray } -> IntsAre vs ns -> ns.length <= n -> s₁.gens = #[] ->
      codeAny (model l.prog w) callerA (.call (.ref fa) ⟨[.ref a], []⟩) (fun r s' => r = .ok (.ret (.bool true)) /\ OldK s₁.heap s'.heap /\ s'.os = s₁.os /\ AllBare s'.gens) s₁) :
    WalkO q loose XP YP l.row.toRowW d [] (fun f vs => PySem.call f vs) := by
  intro w s₀ s₁ mg mb G Y fa o pm cd doc dV kV ho hd hcd hD hmg hg args vals as hpre hlay hrd hwl hlo
  obtain rfl : dV = .none := Dflts.none hD hdf
  obtain rfl : kV = .none := Dflts.noKw hD
  obtain ⟨a, vs, ns, rfl, rfl, hobj, hints, hlen⟩ := z2z hn hpre hwl
  refine enter_call (codeAny_mono (call w s₀ s₁ mg mb fa o pm cd doc a vs ns G Y ho (fd_plain hd) hcd hmg hobj hints hlen hg) fun r s' hq => ?_)
  obtain ⟨rfl, h2, h3, h4⟩ := hq
  exact ⟨.inl ⟨.bool true, .bool true, [], rfl, fun _ => rfl, .bool true, z30 l _, fun _ => ⟨List.Pairwise.nil, fun _ hm => (nomatch hm)⟩⟩, h2, h3, h4⟩
section
variable {prog : Program} {w : World} {A : Around} {E : Value -> Shared -> Prop} {s : Shared} {K : Frag}
def z6x (h : Heap) : Heap := { h with objs := #[] }
def ledger (h : Heap) (L d : Addr) : List (Addr × Obj) := (List.range h.objs.size).filterMap fun a => if a = L \/ a = d then none else (h.get? a).map fun o => (a, o)
end
end Att
namespace L2
open PySem PySem.Spec PyProof.Rows
theorem z1g : ∀ {vs : List Value} {ns : List Int}, IntsAre vs ns -> Vals (ns.map V.int) vs
  | _, _, .nil => .nil
  | _, _, .cons n t h => .cons ⟨t, rfl⟩ (z1g h)
def z66 (H : Hp) : Prop := ∀ b, H b = none \/ ∃ o xs, H b = some (.frz o (.lst xs))
theorem z3k {P : Program} {w : World} {K : PySem.W.Frag} {mg mb : Str -> Option Value} {CX : CXT} {k : Nat} {fa a : Addr} {fd : FuncData} {x : Str} {sp : Sp} {s₁ : Shared} {vs : List Value} {ns : List Int}
    (KX : K.In s₁.heap) (hns : s₁.heap.Ns mainGlobals mg) (hb : s₁.heap.Ns builtinsNs mb) (hbb : ∀ x : Str, x ≠ "__name__" -> mb x = bootBuiltins x) (hlim : s₁.heap.NoLimit) (hg : s₁.gens = #[])
    (ha : s₁.heap.get? a = some { cls := .type "list", data := .seq vs.toArray }) (hi : IntsAre vs ns) (hl : ns.length <= sizeLine) (hr : Room k callerA)
    (F : ∀ base : Heap, K.In base -> base.Ns mainGlobals mg -> FnOk P w K mg base CX k fa fd [x] sp) (hbind : ∀ (s : Shared) (u : Value), BindsTo s fd ⟨[u], []⟩ [(x, u)])
    (hsp : ∀ H : Hp, z66 H -> SqL K H a (ns.map V.int) -> sp [.ref a] H (fun v _ => v = .bl true) fun _ _ _ => False)
    (hCX : ∀ H e s', CX [] H s₁ (fun _ _ _ => False) e s' -> False) :
    codeAny (model P w) callerA (.call (.ref fa) ⟨[.ref a], []⟩) (fun r s' => r = .ok (.ret (.bool true)) /\ OldK s₁.heap s'.heap /\ s'.os = s₁.os /\ AllBare s'.gens) s₁ := by
  have rv := z1g hi
  have lenV := hi.length
  have core : ∀ H : Hp, z66 H -> SqL K H a (ns.map V.int) -> HOk P w H s₁.heap -> (∀ b, H b ≠ none -> b = a) -> (H a ≠ none -> K.lookup a = none) ->
      codeAny (model P w) callerA (.call (.ref fa) ⟨[.ref a], []⟩) (fun r s' => r = .ok (.ret (.bool true)) /\ OldK s₁.heap s'.heap /\ s'.os = s₁.os /\ AllBare s'.gens) s₁ := by
    intro H hO hS hok hA hK
    have base_of : ∀ {b : Addr} {o : Obj}, s₁.heap.get? b = some o -> H b = none -> (z3b s₁.heap H).get? b = some o := fun e n => z3c e n
    have noA : ∀ {b : Addr} {o : Obj} {es : Array DictEntry} {ep : Nat}, s₁.heap.get? b = some o -> o.data = .dict es ep -> H b = none := fun {b o es ep} e d => by
      cases q : H b with
      | none => rfl
      | some u =>
        have e' : b = a := hA b (by rw [q]; simp)
        subst e'
        rw [ha] at e; cases e
        have d' : Data.seq vs.toArray _ = Data.dict es ep := d
        cases d'
    have nsK : ∀ {b : Addr} {m : Str -> Option Value}, s₁.heap.Ns b m -> (z3b s₁.heap H).Ns b m := fun {b m} ⟨o, es, ep, e, d, r⟩ => ⟨o, es, ep, base_of e (noA e d), d, r⟩
    have hKb : K.In (z3b s₁.heap H) := fun b o e => base_of (KX b o e) (by
      cases q : H b with
      | none => rfl
      | some u =>
        have e' : b = a := hA b (by rw [q]; simp)
        subst e'
        rw [hK (by rw [q]; simp)] at e; cases e)
    have hM : Mod K mg (z3b s₁.heap H) := ⟨hKb, nsK hns, ⟨mb, nsK hb, hbb⟩, let ⟨mc, h1, h2⟩ := hlim; ⟨mc, nsK h1, h2⟩⟩
    have e0 : Env0 P w K mg (z3b s₁.heap H) callerA [] s₁ H := ⟨rfl, hM, fun b o e => z4J e, Nat.le_of_eq (z2c _ _), trivial, fun b hb => absurd (show b ∈ ([] : List Addr) from hb) (by simp), hok, .of_eq hg⟩
    refine codeAny_mono ((F _ hKb (nsK hns)).run callerA [] s₁ H ⟨[.ref a], []⟩ [.ref a] [.ref a] _ _ hr e0 (hbind s₁ (.ref a)) (.cons rfl .nil) (hsp H hO hS)) fun r s' h => ?_
    cases r with
    | error e => exact (hCX H e s' h).elim
    | ok fl =>
      cases fl with
      | next => exact False.elim h
      | brk => exact False.elim h
      | cont => exact False.elim h
      | ret u =>
        obtain ⟨v, H', os, bare, un, hok', r', q⟩ := h
        have q' : v = .bl true := q
        subst q'
        obtain rfl : u = Value.bool true := r'
        refine ⟨rfl, OldK.of_keep fun b o e => ?_, os, bare⟩
        cases q : H b with
        | none => exact un.keep b o e q (by intro z; exact absurd (show b ∈ ([] : List Addr) from z) (by simp)) (by simp)
        | some u =>
          rcases hO b with z | ⟨ob, xs, z⟩
          . rw [q] at z; cases z
          . have z2 := un.frzs b ob _ z
            obtain ⟨e1, _⟩ := hok b _ z
            obtain ⟨e2, _⟩ := hok' b _ z2
            rw [e] at e1; cases e1
            exact e2
  cases hk : K.lookup a with
  | some o =>
    have e := KX a o hk
    rw [ha] at e
    cases e
    refine core (fun _ => none) (fun _ => .inl rfl) (.inr ⟨_, vs.toArray, _, hk, rfl, rfl, rfl, by rw [List.size_toArray, lenV]; exact hl, by simpa using rv⟩) (fun b u z => by have z' : (none : Option HO) = some u := z; cases z') (fun b z => absurd rfl z) fun z => absurd rfl z
  | none =>
    refine core (fun b => if b = a then some (.frz { cls := .type "list", data := .seq vs.toArray } (.lst (ns.map V.int))) else none) (fun b => ?_) (.inl (.inr ⟨{ cls := .type "list", data := .seq vs.toArray }, if_pos rfl⟩)) (fun b u z => ?_) (fun b z => ?_) fun _ => hk
    . by_cases hb : b = a
      . exact .inr ⟨_, _, if_pos hb⟩
      . exact .inl (if_neg hb)
    . by_cases hb : b = a
      . have z' := (if_pos hb).symm.trans z
        cases z'
        subst hb
        exact ⟨ha, by rw [List.length_map]; exact hl, vs, _, rv, ha⟩
      . have z' := (if_neg hb).symm.trans z
        cases z'
    . by_cases hb : b = a
      . exact hb
      . exact absurd (if_neg hb) z
abbrev KOf {K : PySem.W.Frag} {h : Heap} (_ : K.In h) : PySem.W.Frag := K
theorem walk_of {l : PySem.W.OpenLaw} {n k : Nat} {q : Program} {loose : List Str} {XP : (Str -> Option Value) -> Heap -> Prop} {YP : World -> Heap -> Prop} {d : DefRec} {K : Params -> PySem.W.Frag} {CX : World -> CXT} {sp : World -> Sp} {x : Str}
    (hn : l.most = some n) (hn2 : n <= sizeLine) (hdf : d.params.defaults = []) (hr : Room k callerA)
    (hY : ∀ (w : World) (h : Heap), YP w h -> (K w.params).In h)
    (F : ∀ (w : World) (mg : Str -> Option Value) (fa : Addr) (h : Heap), (K w.params).In h -> h.Ns mainGlobals mg -> mg d.name = some (.ref fa) ->
      ∃ fd : FuncData, (∀ (s : Shared) (u : Value), BindsTo s fd ⟨[u], []⟩ [(x, u)]) /\
        ∀ base : Heap, (K w.params).In base -> base.Ns mainGlobals mg -> FnOk l.prog w (K w.params) mg base (CX w) k fa fd [x] (sp w))
    (hsp : ∀ (w : World) (H : Hp) (a : Addr) (ns : List Int), ns.length <= n -> z66 H -> SqL (K w.params) H a (ns.map V.int) -> sp w [.ref a] H (fun v _ => v = .bl true) fun _ _ _ => False)
    (hCX : ∀ (w : World) (H : Hp) (s : Shared) (e : Value) (s' : Shared), CX w [] H s (fun _ _ _ => False) e s' -> False) :
    PySem.W.WalkO q loose XP YP l.row.toRowW d [] (fun f vs => PySem.call f vs) := by
  refine Att.attach_call hn hdf fun w s₀ s₁ mg mb fa o pm cd doc a vs ns G Y ho hd hcd hmg hobj hints hlen hg => ?_
  have KX := hY w _ Y
  obtain ⟨fd, hb, hF⟩ := F w mg fa _ KX G.T.g hmg
  exact z3k KX G.T.g G.T.b G.T.builtins G.T.nolimit hg hobj hints (Nat.le_trans hlen hn2) hr hF hb (fun H hO hS => hsp w H a ns hlen hO hS) fun H e s' => hCX w H s₁ e s'
end L2
/- THE LAST THEOREM (shape; LID, My.* are yours):
   My.Adr: a structure of the addresses that your layer names (classes, functions); My.Txt K t: a structure (Prop) of the equations over K;
   My.txt_mk : {K} {implicit addresses ..} (e1 : nsIn K mainGlobals "law" = some (some (.ref f))) (e2 : K.lookup f = some ⟨oc, od, .func (fnOf "law" "law" params body scope dV kV doc pm an cdv ct), sl⟩) (e3 : codeIn K cdv "law" = true) .. : ∃ t, My.Txt K t
set_option maxRecDepth 100000 in
set_option maxHeartbeats 0 in
theorem PySem.Challenge.cw_LID_holds : PySem.Challenge.rw_LID.Holds := by
  w_on; o_law; k_head; (case hw => w_witness2)
  k_fill
  refine L2.walk_of (l := PySem.Challenge.rw_LID) (n := 63) (k := 40) (x := "script") (CX := fun w => ..) (sp := fun _ => My.sp_law) rfl (by decide) rfl ⟨rfl, by decide, by decide⟩ (fun w h Y => PySem.W.kIn_of Y) ?F ?S ?C
  case F =>
    intro w mg fa h KX G hmg
    have T : ∃ t, My.Txt (L2.KOf KX) t := by
      dsimp only [L2.KOf]
      refine' My.txt_mk ?e1 ?e2 ?e3 ..
      (case e1 => PySem.W.k_is)
      (case e2 => PySem.W.k_is)
      ..
    obtain ⟨t, T⟩ := T
    have e0 := hmg.symm.trans (PySem.W.mg_of KX G T.law)
    cases e0
    exact ⟨_, fun s u => .of_eq rfl, fun base kb nb => My.law_fn T kb nb⟩
  case S => exact fun w H a ns hl hO hS => ..
  case C => exact ..
(the tactic k_is has no namespace: write k_is) -/
namespace L2
open PySem PySem.Spec PyProof.Rows
def inClass (s : Stmt) (j : Nat) : Stmt := match s with
  | .ClassDef _ _ _ body _ _ _ _ _ _ _ => body.getD j (.Pass ⟨0, 0, 0, 0⟩)
  | _ => .Pass ⟨0, 0, 0, 0⟩
def z0K (s : Stmt) : Arguments := match s with
  | .FunctionDef _ a _ _ _ _ _ _ _ _ => a
  | _ => { posonlyargs := [], args := [], vararg := none, kwonlyargs := [], kw_defaults := [], kwarg := none, defaults := [] }
def z0D (s : Stmt) : List Stmt := match s with
  | .FunctionDef _ _ b _ _ _ _ _ _ _ => b
  | _ => []
def z04 (s : Stmt) : Scope := match s with
  | .FunctionDef _ _ _ _ _ _ sc _ _ _ => sc
  | _ => { kind := .function, names := [], isGenerator := false, isCoroutine := false }
abbrev CX0 : CXT := fun _ _ _ _ _ _ => False
abbrev E0 : XK := fun _ _ _ => False
theorem z67 {X : Cx} : z23 CX0 X E0 := fun _ _ _ _ _ _ _ h => h.elim
structure Fun (K : PySem.W.Frag) (x qual : Str) (st : Stmt) (f : Addr) (fd : FuncData) : Prop where
  ex : ∃ (oc : Value) (od : Option Addr) (kV doc pm : Value) (an : Option Addr) (cdv ct : Value) (osl : Array (Option Value)),
    fd = PySem.W.fnOf x qual (z0K st) (z0D st) (z04 st) .none kV doc pm an cdv ct /\ K.lookup f = some ⟨oc, od, .func fd, osl⟩ /\ PySem.W.codeIn K cdv qual = true
  kp : PySem.W.keepIn K (.ref f) = true
section
variable {P : Program} {w : World} {K : PySem.W.Frag} {mg : Str -> Option Value} {base : Heap}
theorem Fun.ok {x qual : Str} {st : Stmt} {f : Addr} {fd : FuncData} {N ps : List Str} {k : Nat} {sp : Sp} (F : Fun K x qual st f fd) (S : FnScope N ps (z04 st)) (len : ∀ vs H Q E, sp vs H Q E -> vs.length = ps.length)
    (hbody : ∀ (cdv : Value) (A : Around) (outer : List Env) (s : Shared) (H : Hp) (vs : List V) (Q : VK) (E : XK), Room k (A.deeper (envOfC qual (z04 st) s.heap.objs.size f cdv)) -> sp vs H Q E ->
      ∃ t, PSs (z3a CX0 P w K mg base N qual (z04 st) f cdv A outer s H E).nox (z0D st) t /\ t { nx := fun _ H' => Q .non H', rt := Q } (start N vs) H) : FnOk P w K mg base CX0 (k + 1) f fd ps sp := by
  obtain ⟨oc, od, kV, doc, pm, an, cdv, ct, osl, rfl, lk, hcd⟩ := F.ex
  refine z3i lk hcd S len fun A outer s H vs Q E hr hsp => ?_
  obtain ⟨t, h, q⟩ := hbody cdv A outer s H vs Q E hr hsp
  exact ⟨t, h.nox, q⟩
theorem Fun.binds {x qual : Str} {st : Stmt} {f : Addr} {fd : FuncData} {ps : List Str} (F : Fun K x qual st f fd)
    (h : ∀ (kV doc pm : Value) (an : Option Addr) (cdv ct : Value) (us : List Value), us.length = ps.length -> bindArgs (PySem.W.fnOf x qual (z0K st) (z0D st) (z04 st) .none kV doc pm an cdv ct) ⟨us, []⟩ = pure (ps.zip us)) : Binds K fd ps [] := by
  obtain ⟨oc, od, kV, doc, pm, an, cdv, ct, osl, rfl, lk, hcd⟩ := F.ex
  exact .all (h kV doc pm an cdv ct)
theorem z0f {x qual : Str} {st : Stmt} {f : Addr} {oc : Value} {od an : Option Addr} {osl : Array (Option Value)} {kV doc pm cdv ct : Value} (l : K.lookup f = some ⟨oc, od, .func (PySem.W.fnOf x qual (z0K st) (z0D st) (z04 st) .none kV doc pm an cdv ct), osl⟩)
    (c : PySem.W.codeIn K cdv qual = true) (k : PySem.W.keepIn K (.ref f) = true) : Fun K x qual st f (PySem.W.fnOf x qual (z0K st) (z0D st) (z04 st) .none kV doc pm an cdv ct) := ⟨⟨oc, od, kV, doc, pm, an, cdv, ct, osl, rfl, l, c⟩, k⟩
end
theorem z0o {n : Nat} (h : n <= 1000) : n < sizeLine := Nat.lt_of_le_of_lt h (by decide)
section
variable {X : Cx}
theorem pv (i : Nat) {x : Str} {pos : Pos} (hN : X.N[i]? = some x := by rfl) (hv : Vis X.env.scope x := by first | exact Or.inl rfl | exact Or.inr (Or.inl rfl) | exact Or.inr (Or.inr rfl)) (hd : (x == ("__debug__" : Str)) = false := by decide)
    (hcd : (x == ("__classdict__" : Str)) = false := by decide) : PE X (.Name x pos) (z6c i) := z52 hN hv hd hcd
end
theorem z5I {A B : Prop} (h : B) : if false = true then A else B := by
  rw [if_neg Bool.false_ne_true]
  exact h
theorem z4C {A B : Prop} (h : A) : if true = true then A else B := by
  rw [if_pos rfl]
  exact h
theorem z6y {c A B : Prop} [Decidable c] (h1 : c -> A) (h2 : ¬ c -> B) : if c then A else B := by
  by_cases h : c
  . rw [if_pos h]
    exact h1 h
  . rw [if_neg h]
    exact h2 h
def Same (H H' : Hp) : Prop := ∀ b o, H b = some o -> H' b = some o
theorem Same.refl (H : Hp) : Same H H := fun _ _ h => h
theorem Same.trans {H H1 H2 : Hp} (a : Same H H1) (b : Same H1 H2) : Same H H2 := fun c o h => b c o (a c o h)
theorem Same.free {H H' : Hp} (e : Same H H') {l : Addr} (h : H' l = Option.none) : H l = Option.none := by
  cases q : H l with
  | none => rfl
  | some o =>
    rw [e l o q] at h
    cases h
theorem Same.seq {K : PySem.W.Frag} {H H' : Hp} {a : Addr} {xs : List V} (e : Same H H') (h : SqL K H a xs) : SqL K H' a xs := by
  rcases h with (h | ⟨o, h⟩) | h
  . exact .inl (.inl (e _ _ h))
  . exact .inl (.inr ⟨o, e _ _ h⟩)
  . exact .inr h
section
variable {κ : Type} [DecidableEq κ]
end
end L2
set_option maxHeartbeats 4000000
namespace L2
open PySem PySem.Spec PyProof.Rows
structure Df (K : PySem.W.Frag) (mg : Str -> Option Value) (x : Str) (st : Stmt) (ps : List Str) (f : Addr) (fd : FuncData) : Prop where
  F : Fun K x x st f fd
  b : Binds K fd ps []
  m : mg x = some (.ref f)
def z3l (K : PySem.W.Frag) : Sp := fun vs H Q _ => ∃ (a : Addr) (ns : List Int), vs = [.ref a] /\ SqL K H a (ns.map V.int) /\ ns.length <= 63 /\ ∀ H', Q (.bl true) H'
theorem Same.new {H : Hp} {l : Addr} {o : HO} (h : H l = none) : Same H (upd H l o) := fun b u e => by
  rw [z07 (z0M e h)]
  exact e
theorem Same.tup {K : PySem.W.Frag} {H H' : Hp} {a : Addr} {xs : List V} (e : Same H H') (h : SqT K H a xs) : SqT K H' a xs := by
  rcases h with (h | ⟨o, h⟩) | h
  . exact .inl (.inl (e _ _ h))
  . exact .inl (.inr ⟨o, e _ _ h⟩)
  . exact .inr h
theorem z17 {ns : List Int} {x : V} (h : x ∈ ns.map V.int) : ∃ z, x = .int z := by
  obtain ⟨z, _, e⟩ := List.mem_map.mp h
  exact ⟨z, e.symm⟩
theorem z4U {b : Bool} {A B : Prop} (hb : b = false) (h : B) : if b = true then A else B := by
  subst hb
  exact z5I h
theorem z5J {b : Bool} {A B : Prop} (hb : b = true) (h : A) : if b = true then A else B := by
  subst hb
  exact z4C h
section
variable {X : Cx}
def z8i : R2 := fun x y H Q => ∃ b c, x = V.bl b /\ y = V.bl c /\ Q (.bl (b == c)) H
def z68 : R2 := fun x y H Q => ∃ b c, x = V.bl b /\ y = V.bl c /\ Q (.bl (b != c)) H
def tyS (H : Hp) : V -> Option String
  | .non => some "NoneType"
  | .bl _ => some "bool"
  | .int _ => some "int"
  | .str _ => some "str"
  | .ref a => match H a with
    | some (.lst _) => some "list"
    | some (.frz _ (.lst _)) => some "list"
    | some (.tup _) => some "tuple"
    | some (.dK _) => some "dict"
    | some (.dT _) => some "dict"
    | _ => none
  | _ => none
theorem z5K {K : PySem.W.Frag} {H : Hp} {x : V} {T : String} (h : tyS H x = some T) : TyOf K H x (.type T) := by
  cases x with
  | non => cases h; exact .non
  | bl b => cases h; exact .bl b
  | int i => cases h; exact .int i
  | str z => cases h; exact .str z
  | byt b => cases h
  | flt b => cases h
  | ty n => cases h
  | ref a =>
    simp only [tyS] at h
    split at h
    . rename_i e; cases h; exact .lst e
    . rename_i e; cases h; exact .frz e
    . rename_i e; cases h; exact .tup e
    . rename_i e; cases h; exact .dK e
    . rename_i e; cases h; exact .dT e
    . cases h
def z4V (T c : String) : Bool := T == c || (T == "bool" && c == "int")
def z4W : List String := ["NoneType", "bool", "int", "str", "list", "tuple", "dict"]
theorem z31 : ∀ T ∈ z4W, ∀ c ∈ z4W, (if (Value.type T == Value.type c) = true then some true else if PySem.W.kitMeta c = true then (PySem.fastBuiltinMro T).map (·.contains (.type c)) else none) = some (z4V T c) := by decide +kernel
theorem z4X {K : PySem.W.Frag} {T c : String} (hT : T ∈ z4W) (hc : c ∈ z4W) : PySem.W.kitOne K (.type T) (.type c) = some (z4V T c) := z31 T hT c hc
theorem z32 {H : Hp} {x : V} {T : String} (h : tyS H x = some T) : T ∈ z4W := by
  cases x with
  | non => cases h; decide
  | bl b => cases h; decide
  | int i => cases h; decide
  | str z => cases h; decide
  | byt b => cases h
  | flt b => cases h
  | ty n => cases h
  | ref a =>
    simp only [tyS] at h
    split at h <;> first | (cases h; decide) | cases h
theorem z1S : CallR X (.builtin "isinstance") (fun xs H Q => ∃ x c T, xs = [x, .ty c] /\ c ∈ z4W /\ tyS H x = some T /\ Q (.bl (z4V T c)) H) := by
  intro pins s σ H xs us Q I r h
  obtain ⟨x, c, T, rfl, hc, ht, q⟩ := h
  obtain ⟨v, w', rfl, rx, ry⟩ := vals2 r
  cases (show w' = Value.type c from ry)
  exact z2s I rx (z5K ht) (z4X (z32 ht) hc) fun tk => ⟨.bl (z4V T c), H, I.tok tk, rfl, q⟩
end
theorem z1E {cells : List (Str × Addr)} {f : Str × NameKind -> List (Str × Addr) -> Sem (ForInStep (List (Str × Addr)))}
    (hf : ∀ n k r c, k = NameKind.free -> cells.lookup n = some c -> f (n, k) r = pure (.yield ((n, c) :: r))) (hg : ∀ n k r, k ≠ NameKind.free -> f (n, k) r = pure (.yield r)) :
    ∀ (names : List (Str × NameKind)) (acc : List (Str × Addr)), (∀ y ∈ names, y.2 = .free -> ∃ c, cells.lookup y.1 = some c) -> (∀ x c, acc.lookup x = some c -> cells.lookup x = some c) ->
      ∃ cl, forIn names acc f = (pure cl : Sem _) /\ (∀ x c, cl.lookup x = some c -> cells.lookup x = some c) /\ (∀ x c, acc.lookup x = some c -> ∃ d, cl.lookup x = some d) /\ ∀ y ∈ names, y.2 = .free -> ∃ d, cl.lookup y.1 = some d
  | [], acc, _, ha => ⟨acc, by rw [List.forIn_nil], ha, fun x c e => ⟨c, e⟩, fun _ hy => nomatch hy⟩
  | (n, k) :: r, acc, hn, ha => by
    have hr : ∀ y ∈ r, y.2 = .free -> ∃ c, cells.lookup y.1 = some c := fun y hy => hn y (List.mem_cons_of_mem _ hy)
    by_cases hk : k = .free
    . obtain ⟨c, hc⟩ := hn (n, k) List.mem_cons_self hk
      have ha' : ∀ x d, ((n, c) :: acc).lookup x = some d -> cells.lookup x = some d := fun x d e => by
        rw [List.lookup_cons] at e
        cases hx : x == n with
        | true =>
          rw [hx] at e
          cases e
          rw [beq_iff_eq.mp hx]
          exact hc
        | false =>
          rw [hx] at e
          exact ha x d e
      obtain ⟨cl, e, h1, h2, h3⟩ := z1E hf hg r ((n, c) :: acc) hr ha'
      have hh : ∀ x d, acc.lookup x = some d -> ∃ d', cl.lookup x = some d' := fun x d q => by
        cases hx : x == n with
        | true => exact h2 x c (by rw [List.lookup_cons, hx])
        | false => exact h2 x d (by rw [List.lookup_cons, hx]; exact q)
      refine ⟨cl, ?_, h1, hh, fun y hy e' => ?_⟩
      . rw [List.forIn_cons, hf n k acc c hk hc, pure_bind]
        exact e
      . rcases List.mem_cons.mp hy with rfl | hy
        . exact h2 n c (by rw [List.lookup_cons, beq_self_eq_true])
        . exact h3 y hy e'
    . obtain ⟨cl, e, h1, h2, h3⟩ := z1E hf hg r acc hr ha
      refine ⟨cl, ?_, h1, h2, fun y hy e' => ?_⟩
      . rw [List.forIn_cons, hg n k acc hk, pure_bind]
        exact e
      . rcases List.mem_cons.mp hy with rfl | hy
        . exact absurd e' hk
        . exact h3 y hy e'
theorem z4Y {sc : Scope} {env : Env} (hfree : ∀ y ∈ sc.names, y.2 = .free -> ∃ c, env.cells.lookup y.1 = some c) :
    ∃ cl : List (Str × Addr), closureFor sc env = pure cl /\ (∀ x c, cl.lookup x = some c -> env.cells.lookup x = some c) /\ ∀ y ∈ sc.names, y.2 = .free -> ∃ c, cl.lookup y.1 = some c := by
  obtain ⟨cl, e, h1, _, h3⟩ := z1E (cells := env.cells) (f := fun (y : Str × NameKind) r => if (y.2 == NameKind.free) = true then (do let a <- cellOf env y.1; pure (ForInStep.yield ((y.1, a) :: r))) else pure (ForInStep.yield r))
    (fun n k r c hk hc => by
      subst hk
      show (if (NameKind.free == NameKind.free) = true then (cellOf env n >>= fun a => pure (ForInStep.yield ((n, a) :: r))) else pure (ForInStep.yield r)) = _
      rw [if_pos (show (NameKind.free == NameKind.free) = true by decide)]
      have e : cellOf env n = pure c := by unfold cellOf; rw [hc]
      rw [e, pure_bind])
    (fun n k r hk => by
      show (if (k == NameKind.free) = true then (cellOf env n >>= fun a => pure (ForInStep.yield ((n, a) :: r))) else pure (ForInStep.yield r)) = _
      rw [if_neg (by simpa using hk)])
    sc.names [] hfree (fun x c q => nomatch q)
  refine ⟨cl, ?_, h1, h3⟩
  unfold closureFor
  first
    | (rw [e]; rfl)
    | (refine Eq.trans (congrArg (fun t => t >>= fun cs => pure cs) e) ?_; rw [pure_bind])
    | (simp only [bind_pure]; exact e)
theorem z0a {env : Env} : ∀ {names : List (Str × NameKind)} {x : Str}, names.lookup x = some .free ->
    ((names.map fun (n, k) => if (k == NameKind.free && env.scope.kind == .function && env.kindOf n == some .cell) then (n, NameKind.cell) else (n, k)).lookup x = some .cell) \/
    ((names.map fun (n, k) => if (k == NameKind.free && env.scope.kind == .function && env.kindOf n == some .cell) then (n, NameKind.cell) else (n, k)).lookup x = some .free)
  | [], _, h => by cases h
  | (n, k) :: r, x, h => by
    have ih := @z0a env r x
    rw [List.map_cons]
    cases hx : x == n with
    | true =>
      rw [List.lookup_cons, hx] at h
      cases h
      by_cases hc : (NameKind.free == NameKind.free && env.scope.kind == .function && env.kindOf n == some .cell) = true
      . left
        show List.lookup x ((if (NameKind.free == NameKind.free && env.scope.kind == .function && env.kindOf n == some .cell) = true then (n, NameKind.cell) else (n, NameKind.free)) :: _) = _
        rw [if_pos hc, List.lookup_cons, hx]
      . right
        show List.lookup x ((if (NameKind.free == NameKind.free && env.scope.kind == .function && env.kindOf n == some .cell) = true then (n, NameKind.cell) else (n, NameKind.free)) :: _) = _
        rw [if_neg hc, List.lookup_cons, hx]
    | false =>
      rw [List.lookup_cons, hx] at h
      have z : ∀ (y : Str × NameKind) (t : List (Str × NameKind)), y.1 = n -> List.lookup x (y :: t) = List.lookup x t := fun y t e => by
        obtain ⟨y1, y2⟩ := y
        cases (show y1 = n from e)
        rw [List.lookup_cons, hx]
      rw [z _ _ (by
        show (if (k == NameKind.free && env.scope.kind == .function && env.kindOf n == some .cell) = true then (n, NameKind.cell) else (n, k)).1 = n
        split <;> rfl)]
      exact ih h
theorem z0p {env : Env} : ∀ {names : List (Str × NameKind)} {x : Str}, (∀ y ∈ names, y.2 ≠ .cell) ->
    (((names.map fun (n, k) => if (k == NameKind.free && env.scope.kind == .function && env.kindOf n == some .cell) then (n, NameKind.cell) else (n, k)).lookup x = some .cell) \/
    ((names.map fun (n, k) => if (k == NameKind.free && env.scope.kind == .function && env.kindOf n == some .cell) then (n, NameKind.cell) else (n, k)).lookup x = some .free)) -> ∃ y ∈ names, y.1 = x /\ y.2 = .free
  | [], _, _, h => by rcases h with h | h <;> cases h
  | (n, k) :: r, x, hc, h => by
    have ih := @z0p env r x fun y hy => hc y (List.mem_cons_of_mem _ hy)
    rw [List.map_cons] at h
    cases hx : x == n with
    | true =>
      have e : x = n := beq_iff_eq.mp hx
      by_cases hk : k = .free
      . exact ⟨(n, k), List.mem_cons_self, e.symm, hk⟩
      . exfalso
        have q : (if (k == NameKind.free && env.scope.kind == .function && env.kindOf n == some .cell) = true then (n, NameKind.cell) else (n, k)) = (n, k) := by
          rw [if_neg]
          intro z
          rw [Bool.and_eq_true, Bool.and_eq_true] at z
          exact hk (by simpa using z.1.1)
        have h' : List.lookup x ((n, k) :: (r.map fun (n, k) => if (k == NameKind.free && env.scope.kind == .function && env.kindOf n == some .cell) then (n, NameKind.cell) else (n, k))) = some .cell \/
            List.lookup x ((n, k) :: (r.map fun (n, k) => if (k == NameKind.free && env.scope.kind == .function && env.kindOf n == some .cell) then (n, NameKind.cell) else (n, k))) = some .free := by
          rw [<- q]
          exact h
        rw [List.lookup_cons, hx] at h'
        rcases h' with z | z
        . exact hc (n, k) List.mem_cons_self (Option.some.inj z)
        . exact hk (Option.some.inj z)
    | false =>
      have z : ∀ (y : Str × NameKind) (t : List (Str × NameKind)), y.1 = n -> List.lookup x (y :: t) = List.lookup x t := fun y t e => by
        obtain ⟨y1, y2⟩ := y
        cases (show y1 = n from e)
        rw [List.lookup_cons, hx]
      rw [z _ _ (by
        show (if (k == NameKind.free && env.scope.kind == .function && env.kindOf n == some .cell) = true then (n, NameKind.cell) else (n, k)).1 = n
        split <;> rfl)] at h
      obtain ⟨y, hy, e⟩ := ih h
      exact ⟨y, List.mem_cons_of_mem _ hy, e⟩
def z1T (X : Cx) (locs : List Str) (ix : List Nat) : List Str := locs ++ ix.map fun i => X.N.getD i Str.empty
def z4D (k : Nat) (ix : List Nat) (σ : St) : St := List.replicate k none ++ ix.map fun i => (σ[i]?).join
abbrev cxC (X : Cx) (sc : Scope) (cl : List (Str × Addr)) (C : Addr) (N : List Str) (fp : List Addr) (s2 : Shared) (H2 : Hp) (pn : List (Addr × Obj)) : Cx :=
  { X with N := N, s₀ := s2, H₀ := H2, env := compEnvC sc cl C X.env, outer := X.stack, ex := fp, fn := fun _ => false, pn := pn, xe := fun _ _ => False }
structure BlkSc (X : Cx) (sc : Scope) (locs : List Str) (ix : List Nat) : Prop where
  kind : sc.kind = .function
  cell : ∀ y ∈ sc.names, y.2 ≠ .cell
  free : ∀ y ∈ sc.names, y.2 = .free -> X.env.kindOf y.1 = some .cell \/ X.env.kindOf y.1 = some .free
  names : ∀ y ∈ sc.names, y.2 = .local -> sc.names.lookup y.1 = some .local
  fr : ∀ i ∈ ix, ∃ x, X.N[i]? = some x /\ sc.names.lookup x = some .free
section
variable {X : Cx} {pins : List (Addr × Obj)} {σ : St} {H2 : Hp} {s2 : Shared} {sc : Scope} {cl : List (Str × Addr)} {locs : List Str} {ix : List Nat} {fp : List Addr}
theorem z0v {names : List (Str × NameKind)} {x : Str} {k : NameKind} : names.lookup x = some k -> (x, k) ∈ names := by
  induction names with
  | nil => intro h; cases h
  | cons y r ih =>
    obtain ⟨n, j⟩ := y
    intro h
    rw [List.lookup_cons] at h
    cases hx : x == n with
    | true =>
      rw [hx] at h
      cases h
      rw [beq_iff_eq.mp hx]
      exact List.mem_cons_self
    | false =>
      rw [hx] at h
      exact List.mem_cons_of_mem _ (ih h)
theorem z5L (I : Inv X pins σ H2 s2) (B : BlkSc X sc locs ix) (hcl : ∀ x c, cl.lookup x = some c -> X.env.cells.lookup x = some c) (hcl' : ∀ y ∈ sc.names, y.2 = .free -> ∃ c, cl.lookup y.1 = some c)
    (hf : ∀ b ∈ fp, z2Z X pins H2 b) {C : Addr} (hC : s2.heap.objs.size <= C) (hfC : ∀ b ∈ fp, b ≠ C) {N : List Str} {pn : List (Addr × Obj)} : (cxC X sc cl C N fp s2 H2 pn).Ok where
  mod := I.ok.mod
  kind := B.kind
  glob := I.ok.glob
  blt := I.ok.blt
  above := hC
  inj := fun x y c h1 h2 => I.ok.inj x y c (hcl x c h1) (hcl y c h2)
  has := fun x h => by
    obtain ⟨y, hy, e, hk⟩ := z0p (env := X.env) B.cell h
    subst e
    exact hcl' y hy hk
  cab := fun x c h _ => nomatch h
  hd := I.ok.hd
  frames := I.ok.frames
  stk := .inl rfl
  exf := fun b hb => ⟨hfC b hb, fun x c e => (hf b hb).2.2.2.2.1 x c (hcl x c e)⟩
  bs := fun b o e => I.bs b o e
  bsz := Nat.le_trans I.ok.bsz I.sz
  noex := fun b o e hb => by
    obtain ⟨_, _, _, h4, _⟩ := hf b hb
    rcases h4 with h | h
    . exact I.ok.noex b o e h
    . exact absurd (Nat.lt_of_lt_of_le (Nat.lt_of_lt_of_le (Heap.lt_size e) I.ok.bsz) h) (Nat.lt_irrefl _)
  exfs := fun b hb z => by
    obtain ⟨_, h2, h3, _⟩ := hf b hb
    rcases List.mem_cons.mp (I.stkSub b z) with e | e
    . exact h2 e
    . exact h3 e
  funs := I.stack
  frf := I.stkFree
theorem z33 (I : Inv X pins σ H2 s2) (B : BlkSc X sc locs ix) (hcl : ∀ x c, cl.lookup x = some c -> X.env.cells.lookup x = some c) (hcl' : ∀ y ∈ sc.names, y.2 = .free -> ∃ c, cl.lookup y.1 = some c)
    (hf : ∀ b ∈ fp, z2Z X pins H2 b) (hfl : ∀ b ∈ fp, b < s2.heap.objs.size) {h1 : Heap} {tk : Nat} {m0 : Str -> Option Value} {D C : Addr} {oD : Obj} (hD : s2.heap.objs.size <= D) (hC : s2.heap.objs.size <= C) (hDC : D ≠ C)
    (old : ∀ b o, s2.heap.get? b = some o -> h1.get? b = some o) (ns : h1.Ns C m0) (gD : h1.get? D = some oD) (dD : ∀ v, oD.data ≠ .cell v) :
    Inv (cxC X sc cl C (z1T X locs ix) fp s2 H2 (X.pn ++ pins)) [(D, oD)] (z4D locs.length ix σ) H2 { s2 with heap := h1, toks := tk } := by
  have low : ∀ b o, s2.heap.get? b = some o -> b < s2.heap.objs.size := fun b o e => Heap.lt_size e
  have nst : ∀ b, s2.heap.objs.size <= b -> b ∉ frs X.stack := fun b hb z => by
    obtain ⟨_, o, ho, _⟩ := I.stack.mem z
    exact absurd (Nat.lt_of_lt_of_le (low b o ho) hb) (Nat.lt_irrefl _)
  refine ⟨z5L I B hcl hcl' hf hC fun b hb => Nat.ne_of_lt (Nat.lt_of_lt_of_le (hfl b hb) hC), rfl, I.bare, Un.kept old, ⟨m0, ns, fun i x v e1 e2 e3 => ?_⟩, fun x c e => ?_, I.hok.fresh hC, fun x c e => I.freeC x c (hcl x c e), fun p hp => ?_, I.hok.kept old, ?_⟩
  . have e2' : (z4D locs.length ix σ)[i]? = some (some v) := e2
    have e1' : (z1T X locs ix)[i]? = some x := e1
    unfold z4D at e2'
    unfold z1T at e1'
    by_cases hi : i < locs.length
    . rw [List.getElem?_append_left (by rw [List.length_replicate]; exact hi), List.getElem?_replicate, if_pos hi] at e2'
      cases e2'
    . rw [List.getElem?_append_right (by rw [List.length_replicate]; omega), List.length_replicate, List.getElem?_map] at e2'
      rw [List.getElem?_append_right (by omega), List.getElem?_map] at e1'
      cases hj : ix[i - locs.length]? with
      | none =>
        rw [hj] at e2'
        cases e2'
      | some j =>
        rw [hj] at e2' e1'
        have e4 : (σ[j]?).join = some v := Option.some.inj e2'
        have e5 : X.N.getD j Str.empty = x := Option.some.inj e1'
        obtain ⟨x', hx', hfree⟩ := B.fr j (List.mem_of_getElem? hj)
        have e6 : x' = x := by
          rw [<- e5, List.getD_eq_getElem?_getD, hx']
          rfl
        subst e6
        have e7 : σ[j]? = some (some v) := by
          cases hs : σ[j]? with
          | none => rw [hs] at e4; cases e4
          | some o =>
            rw [hs] at e4
            cases o with
            | none => cases e4
            | some w => cases e4; rfl
        have hk := B.free (x', .free) (z0v hfree) rfl
        obtain ⟨m, _, hl⟩ := I.loc
        obtain ⟨u, r, l⟩ := hl j x' v hx' e7 (hk.elim (fun z => .inr (.inl z)) fun z => .inr (.inr z))
        refine ⟨u, r, .inr ⟨z0a (env := X.env) hfree, ?_⟩⟩
        obtain ⟨c, hc⟩ := hcl' (x', .free) (z0v hfree) rfl
        rcases l with ⟨k, _⟩ | ⟨_, c', hc', z⟩
        . rcases hk with hk | hk
          . rw [hk] at k; cases k
          . rw [hk] at k; cases k
        . have q := hcl x' c hc
          rw [hc'] at q
          cases q
          obtain ⟨o, ho, hd⟩ := z
          exact ⟨_, hc, o, old _ _ ho, hd⟩
  . obtain ⟨v, o, ho, hd⟩ := I.cell x c (hcl x c e)
    exact ⟨v, o, old _ _ ho, hd⟩
  . rcases List.mem_append.mp hp with hp | hp
    . obtain ⟨e, n, ne, nf, d⟩ := I.pin p hp
      refine ⟨old _ _ e, n, Nat.ne_of_lt (Nat.lt_of_lt_of_le (low _ _ e) hC), fun z => ?_, d⟩
      rcases List.mem_cons.mp (I.stkSub p.1 z) with q | q
      . exact ne q
      . exact nf q
    . have e : p = (D, oD) := by simpa using hp
      subst e
      exact ⟨gD, I.hok.fresh hD, hDC, nst D hD, dD⟩
  . show (z4D locs.length ix σ).length = (z1T X locs ix).length
    unfold z4D z1T
    rw [List.length_append, List.length_append, List.length_replicate, List.length_map, List.length_map]
theorem z3m {N : List Str} {pn : List (Addr × Obj)} {C D : Addr} {s' : Shared} {σ' : St} {H' : Hp} {ys : List V} {its : List Value} {n : Nat} (I : Inv X pins σ H2 s2) (hf : ∀ b ∈ fp, z2Z X pins H2 b) (hD : s2.heap.objs.size <= D)
    (I' : Inv (cxC X sc cl C N fp s2 H2 pn) [(D, { cls := .type "list", data := .seq its.toArray n })] σ' H' s') (hv : Vals ys its) (hz : ys.length <= sizeLine) : H' D = none /\ Inv X pins σ (upd H' D (.lst ys)) s' := by
  obtain ⟨gD, nD, _⟩ := I'.pin (D, { cls := .type "list", data := .seq its.toArray n }) (List.mem_append_right _ List.mem_cons_self)
  have low : ∀ b o, s2.heap.get? b = some o -> b ≠ D := fun b o e => Nat.ne_of_lt (Nat.lt_of_lt_of_le (Heap.lt_size e) hD)
  have lowH : ∀ b o, H2 b = some o -> b ≠ D := fun b o e => Nat.ne_of_lt (Nat.lt_of_lt_of_le (I.hok.lt e) hD)
  have U : Un (frs X.stack) fp H2 H' s2.heap s'.heap := I'.base
  refine ⟨nD, I.call' (ch := fp) I'.os ⟨U.keep, U.slot, fun b o e hn hx => ?_, U.there, fun b xs e => ?_, fun b o u e => ?_, fun b ps e => ?_⟩ (fun b u e => ?_) I'.bare fun b hb => ?_⟩
  . rw [z07 (low b o e)]
    exact U.free b o e hn hx
  . rw [z07 (lowH b _ e)]
    exact U.tups b xs e
  . rw [z07 (lowH b _ e)]
    exact U.frzs b o u e
  . rw [z07 (lowH b _ e)]
    exact U.tbls b ps e
  . by_cases hb : b = D
    . subst hb
      rw [z05] at e
      cases e
      exact ⟨hz, its, n, hv, gD⟩
    . rw [z07 hb] at e
      exact (I'.hok b u e).stay (fun _ _ _ q => q) (fun c q => by rw [z07 (z0M q nD)]; exact q) fun c xs q => by rw [z07 (z0M q nD)]; exact q
  . obtain ⟨_, f1, _, f3, f4, f5⟩ := hf b hb
    exact ⟨f3, f1, f4, f5⟩
end
section
variable {prog : Program} {w : World} {A : Around} {R : Result -> Shared -> Prop} {s : Shared}
theorem z34 {elt tgt src : Expr} {tests : List Expr} {sc : Scope} {p : Pos} {itv acc : Value} {ev : Env} (J : Nat -> Shared -> Prop)
    (turn : ∀ n s, J n s -> wpAny (model prog w) A (pyNext itv) (fun r s1 => match r with
      | none => R (.ok .next) s1
      | some v => wpAny (model prog w) A (letOwnedTupleGo tgt itv v) (fun _ s2 => wpAny (model prog w) A (assign tgt ev v) (fun _ s3 =>
          wpAny (model prog w) A (forIn tests true fun c r => if r = true then do let ok <- isTrue c ev (eval c ev); pure (ForInStep.yield ok) else pure (ForInStep.yield r)) (fun ok s4 =>
            if ok = true then wpAny (model prog w) A (eval elt ev) (fun x s5 => wpAny (model prog w) A (call (.builtin "list.append") [acc, x]) (fun _ s6 => ∃ m, m < n /\ J m s6) (fun _ _ => False) s5) (fun _ _ => False) s4
            else ∃ m, m < n /\ J m s4) (fun _ _ => False) s3) (fun _ _ => False) s2) (fun _ _ => False) s1) (fun _ _ => False) s)
    (n : Nat) (h : J n s) : codeAny (model prog w) A (.compLoop (.ListComp elt [⟨tgt, src, tests, 0⟩] sc p) 0 itv acc ev) R s := by
  refine codeAny_loop rfl J (fun n s hJ => ?_) n h
  show wpAny _ A ((compTurn (.ListComp elt [⟨tgt, src, tests, 0⟩] sc p) 0 itv acc ev).onRaise (fun x => do noteFrame x ev; theTreesLotGoes x)) _ _ s
  refine wpAny_noted (wpAny_noRaise ?_)
  rw [compTurn_list]
  refine wpAny_bind (wpAny_standAt (wpAny_bind (thn (turn n s hJ) fun r s1 h1 => ?_)))
  cases r with
  | none => exact wpAny_pure h1
  | some v =>
    refine wpAny_bind (thn h1 fun _ s2 h2 => wpAny_bind (thn h2 fun _ s3 h3 => wpAny_bind (thn h3 fun ok s4 h4 => ?_)))
    cases ok with
    | false => exact wpAny_pure ⟨rfl, h4⟩
    | true => exact wpAny_bind (wpAny_bind (thn h4 fun x s5 h5 => wpAny_bind (thn h5 fun _ s6 h6 => wpAny_pure (wpAny_pure ⟨rfl, h6⟩))))
end
def PTs (X : Cx) (tests : List Expr) (t : TT) : Prop :=
  ∀ (pins : List (Addr × Obj)) (s : Shared) (σ : St) (H : Hp) (Q : Bool -> Hp -> Prop), Inv X pins σ H s -> t σ H Q ->
    wpAny (model X.prog X.w) X.A (forIn tests true fun c r => if r = true then do let ok <- isTrue c X.env (eval c X.env); pure (ForInStep.yield ok) else pure (ForInStep.yield r)) (TP X pins σ Q) X.xe s
def z6z : TT := fun _ H Q => Q true H
theorem z35 {X : Cx} : PTs X [] z6z := fun _ _ _ H _ I h => wpAny_tests_nil ⟨H, I, h⟩
def z3n (J : It) (g : TG) (tt : TT) (te : TE) (Fin : List V -> Hp -> Prop) (W : Nat -> Nat -> St -> List V -> Hp -> Prop) : Prop :=
  ∀ i m σ ys H, W i m σ ys H -> (J.stop i H /\ ys.length <= sizeLine /\ Fin ys H) \/
    (J.go i H /\ ys.length < sizeLine /\ ∀ x H', J.yld i H x H' -> g x σ H' fun σ2 H2 => tt σ2 H2 fun b H3 => if b = true then te σ2 H3 fun y H4 => ∃ m', m' < m /\ W (i + 1) m' σ2 (ys ++ [y]) H4 else ∃ m', m' < m /\ W (i + 1) m' σ2 ys H3)
def z69 (wi : TI) (k : Nat) (ix : List Nat) (g : TG) (tt : TT) (te : TE) : TE := fun σ H Q => wi σ H fun J H1 =>
  ∃ W : Nat -> Nat -> St -> List V -> Hp -> Prop, (∃ m, W 0 m (z4D k ix σ) [] H1) /\ z3n J g tt te (fun ys H => ∀ l, H l = none -> Q (.ref l) (upd H l (.lst ys))) W
section
variable {X : Cx} {elt tgt iter : Expr} {tests : List Expr} {sc : Scope} {pos : Pos} {locs : List Str} {ix : List Nat} {wi : TI} {g : TG} {tt : TT} {te : TE}
theorem z2N {pins : List (Addr × Obj)} {σ : St} {H2 : Hp} {s2 : Shared} {cl : List (Str × Addr)} {fp : List Addr} {it : Addr} {tn : Nat -> Heap -> Prop} {J : It} {W : Nat -> Nat -> St -> List V -> Hp -> Prop} {Fin : List V -> Hp -> Prop} {RR : Value -> Addr -> Result -> Shared -> Prop} {m0 : Nat} {E : Value -> Shared -> Prop}
    (hc : X.calm = true) (B : BlkSc X sc locs ix)
    (hg : ∀ cl C fp s2 H2 pn, PG (cxC X sc cl C (z1T X locs ix) fp s2 H2 pn) tgt g) (ht : ∀ cl C fp s2 H2 pn, PTs (cxC X sc cl C (z1T X locs ix) fp s2 H2 pn) tests tt) (he : ∀ cl C fp s2 H2 pn, PE (cxC X sc cl C (z1T X locs ix) fp s2 H2 pn) elt te)
    (I : Inv X pins σ H2 s2) (T : Turn X.prog X.w X.K tgt J fp it tn) (st2 : tn 0 s2.heap) (hf : ∀ b ∈ fp, z2Z X pins H2 b)
    (hcl : ∀ x c, cl.lookup x = some c -> X.env.cells.lookup x = some c) (hcl' : ∀ y ∈ sc.names, y.2 = .free -> ∃ c, cl.lookup y.1 = some c)
    (w0 : W 0 m0 (z4D locs.length ix σ) [] H2) (turn : z3n J g tt te Fin W)
    (hR : ∀ D C s' H' ys m, H' D = none -> s2.heap.objs.size <= C -> H' C = none -> C ≠ D -> Inv X pins σ (upd H' D (.lst ys)) s' -> Fin ys H' -> s'.heap.Ns C m -> RR (.ref D) C (.ok .next) s') :
    wpAny (model X.prog X.w) X.A (newList []) (fun acc s₃ => wpAny (model X.prog X.w) X.A (newFunctionEnv sc X.env.globals cl [] X.env.qual none .none (some X.env)) (fun cenv s₄ =>
      codeAny (model X.prog X.w) X.A (.compStart (.ListComp elt [⟨tgt, iter, tests, 0⟩] sc pos) 0 (.ref it) acc { cenv with scope := relabel sc X.env }) (RR acc cenv.locals) s₄) E s₃) E s2 := by
  refine wpAny_newObj_type (wpAny_newFunctionEnv B.cell (by intro y hy; cases hy) (fun h1 ns1 sb1 => ?_) B.kind)
  dsimp only at ns1 sb1 ⊢
  generalize eH : s2.heap.push { cls := .type "list", dict := none, data := .seq ([] : List Value).toArray } = G at ns1 sb1 ⊢
  have zG : G.objs.size = s2.heap.objs.size + 1 := by rw [<- eH, Heap.size_push]
  have hDC : s2.heap.objs.size ≠ G.objs.size := by omega
  have old : ∀ b o, s2.heap.get? b = some o -> h1.get? b = some o := fun b o e => sb1.extBut b o (Nat.ne_of_lt (Nat.lt_of_lt_of_le (Heap.lt_size e) (by omega))) (Heap.get?_push_of_some _ (eH ▸ Heap.get?_push_of_some _ e))
  have gD : h1.get? s2.heap.objs.size = some { cls := .type "list", data := .seq ([] : List Value).toArray 0 } := sb1.extBut _ _ hDC (Heap.get?_push_of_some _ (eH ▸ Heap.get?_push_size _ rfl))
  have hfl : ∀ b ∈ fp, b < s2.heap.objs.size := fun b hb => by
    obtain ⟨o, e, _⟩ := T.obj 0 s2.heap st2 b hb
    exact Heap.lt_size e
  have Y := fun tk => z33 (tk := tk) (locs := locs) I B hcl hcl' hf hfl (Nat.le_refl _) (by omega : s2.heap.objs.size <= G.objs.size) hDC old ns1 gD (fun v z => by cases z)
  have st1 : tn 0 h1 := T.keep 0 _ _ st2 fun b _ o e => old b o e
  have stat : ∀ {oD : Obj} {H' : Hp}, (∀ b ∈ fp, H' b = none) -> ∀ b ∈ fp, z2Z (cxC X sc cl G.objs.size (z1T X locs ix) fp s2 H2 (X.pn ++ pins)) [(s2.heap.objs.size, oD)] H' b := fun {oD H'} hn b hb => by
    obtain ⟨_, f1, f2, _, f4, f5⟩ := hf b hb
    refine ⟨hn b hb, Nat.ne_of_lt (Nat.lt_of_lt_of_le (hfl b hb) (by show s2.heap.objs.size <= G.objs.size; omega)), fun z => ?_, .inl hb, fun x c e => f4 x c (hcl x c e), fun p hp => ?_⟩
    . rcases List.mem_cons.mp (I.stkSub b z) with q | q
      . exact f1 q
      . exact f2 q
    . rcases List.mem_append.mp hp with hp | hp
      . exact f5 p hp
      . have e : p = (s2.heap.objs.size, oD) := by simpa using hp
        rw [e]
        exact Nat.ne_of_gt (hfl b hb)
  have loop : ∀ tk, codeAny (model X.prog X.w) X.A (.compLoop (.ListComp elt [⟨tgt, iter, tests, 0⟩] sc pos) 0 (.ref it) (.ref s2.heap.objs.size) (compEnvC sc cl G.objs.size X.env)) (RR (.ref s2.heap.objs.size) G.objs.size) { s2 with heap := h1, toks := tk } := by
    intro tk
    refine z34 (fun n s => ∃ i σ' ys its nn H', Inv (cxC X sc cl G.objs.size (z1T X locs ix) fp s2 H2 (X.pn ++ pins)) [(s2.heap.objs.size, { cls := .type "list", data := .seq (List.toArray its) nn })] σ' H' s /\ tn i s.heap /\ (∀ b ∈ fp, H' b = none) /\ Vals ys its /\ W i n σ' ys H') ?_ m0
      ⟨0, _, [], [], 0, H2, Y tk, st1, fun b hb => (hf b hb).1, .nil, w0⟩
    rintro n s ⟨i, σ', ys, its, nn, H', I1, st, fr, hv, hw⟩
    rcases turn i n σ' ys H' hw with ⟨stop, hz, fin⟩ | ⟨go, hz, step⟩
    . refine thn (T.done (cxC X sc cl G.objs.size (z1T X locs ix) fp s2 H2 (X.pn ++ pins)) rfl rfl rfl hc i _ s σ' H' (fun _ _ => False) I1 (stat fr) st stop) fun r s1 ⟨er, I2⟩ => ?_
      subst er
      obtain ⟨nD, I3⟩ := z3m I hf (Nat.le_refl _) I2 hv hz
      obtain ⟨m, ns, _⟩ := I2.loc
      exact hR _ _ s1 H' ys m nD (by omega) I2.free (Ne.symm hDC) I3 fin ns
    . refine thn (T.item (cxC X sc cl G.objs.size (z1T X locs ix) fp s2 H2 (X.pn ++ pins)) rfl rfl rfl hc i _ s σ' H' (fun _ _ => False) I1 (stat fr) st go) fun r s3 ⟨u, er, h3⟩ => ?_
      subst er
      refine thn h3 fun _ s5 ⟨x, H5, I5, r5, y5, st5, fr5⟩ => ?_
      have I5' := I5.pinned (stat fr5) (T.obj _ _ st5)
      refine thn (hg cl G.objs.size fp s2 H2 (X.pn ++ pins) _ s5 σ' H5 x u _ I5' r5 (step x H5 y5)) fun _ s6 ⟨σ6, H6, I6, q6⟩ => ?_
      refine thn (ht cl G.objs.size fp s2 H2 (X.pn ++ pins) _ s6 σ6 H6 _ I6 q6) fun b s7 ⟨H7, I7, q7⟩ => ?_
      have tn7 : ∀ {s' : Shared} {σ'' : St} {H'' : Hp}, Inv (cxC X sc cl G.objs.size (z1T X locs ix) fp s2 H2 (X.pn ++ pins)) ([(s2.heap.objs.size, { cls := .type "list", data := .seq (List.toArray its) nn })] ++ z1Y fp s5.heap) σ'' H'' s' -> tn (i + 1) s'.heap /\ ∀ b ∈ fp, H'' b = none := fun J => by
        refine ⟨T.keep _ _ _ st5 fun b hb o e => (J.pin (b, o) (List.mem_append_right _ (List.mem_append_right _ (z0s hb e)))).1, fun b hb => ?_⟩
        obtain ⟨o, e, d⟩ := T.obj _ _ st5 b hb
        exact (J.pin (b, o) (List.mem_append_right _ (List.mem_append_right _ (z0s hb e)))).2.1
      cases b with
      | false =>
        obtain ⟨m', hm, w'⟩ := q7
        exact ⟨m', hm, i + 1, σ6, ys, its, nn, H7, I7.unpinned, (tn7 I7).1, (tn7 I7).2, hv, w'⟩
      | true =>
        refine thn (he cl G.objs.size fp s2 H2 (X.pn ++ pins) _ s7 σ6 H7 _ I7 q7) fun y s8 ⟨yv, H8, I8, r8, q8⟩ => ?_
        obtain ⟨m', hm, w'⟩ := q8
        obtain ⟨gD8, nD8, _⟩ := I8.pin (s2.heap.objs.size, { cls := .type "list", data := .seq (List.toArray its) nn }) (List.mem_append_right _ (List.mem_append_left _ List.mem_cons_self))
        have hl := hv.length
        refine append_at (hsz := by rw [List.size_toArray]; omega) gD8 fun h9 sb9 gD9 => ?_
        have Iu : Inv (cxC X sc cl G.objs.size (z1T X locs ix) fp s2 H2 (X.pn ++ pins)) [] σ6 H8 s8 := I8.pins_of fun p hp => nomatch hp
        have It : Inv (cxC X sc cl G.objs.size (z1T X locs ix) fp s2 H2 (X.pn ++ pins)) [] σ6 H8 { s8 with heap := h9, toks := s8.toks } := Iu.turned (fun b o hb e => (sb9.2 b hb).trans e) nD8 hDC (.inr (Nat.le_refl _))
          (fun x c e => by
            obtain ⟨v, o, ho, _⟩ := I.cell x c (hcl x c e)
            exact Nat.ne_of_lt (Heap.lt_size ho))
          (fun p hp => by
            rcases List.mem_append.mp hp with hp | hp
            . exact Nat.ne_of_lt (Heap.lt_size (I.pin p hp).1)
            . cases hp)
        have gD9' : h9.get? s2.heap.objs.size = some { cls := .type "list", data := .seq (its ++ [y]).toArray (nn + 1) } := by
          rw [gD9, List.push_toArray]
        have In : Inv (cxC X sc cl G.objs.size (z1T X locs ix) fp s2 H2 (X.pn ++ pins)) [(s2.heap.objs.size, { cls := .type "list", data := .seq (its ++ [y]).toArray (nn + 1) })] σ6 H8 { s8 with heap := h9, toks := s8.toks } := It.pins_of fun p hp => by
          have e : p = (s2.heap.objs.size, { cls := .type "list", data := .seq (its ++ [y]).toArray (nn + 1) }) := by simpa using hp
          subst e
          refine ⟨gD9', nD8, hDC, fun z => ?_, fun v z => by cases z⟩
          obtain ⟨_, o, ho, _⟩ := I.stack.mem z
          exact absurd (Heap.lt_size ho) (Nat.lt_irrefl _)
        refine ⟨m', hm, i + 1, σ6, ys ++ [yv], its ++ [y], nn + 1, H8, In, ?_, (tn7 I8).2, Vals.append hv (.cons r8 .nil), w'⟩
        exact T.keep _ _ _ (tn7 I8).1 fun b hb o e => (sb9.2 b (Nat.ne_of_lt (hfl b hb))).trans e
  exact codeAny_compStart_list (loop _) (T.self X.A 0 _ _ _ st1 (loop _))
theorem z36 (hc : X.calm = true) (B : BlkSc X sc locs ix) (hi : PI X tgt iter wi)
    (hg : ∀ cl C fp s2 H2 pn, PG (cxC X sc cl C (z1T X locs ix) fp s2 H2 pn) tgt g) (ht : ∀ cl C fp s2 H2 pn, PTs (cxC X sc cl C (z1T X locs ix) fp s2 H2 pn) tests tt) (he : ∀ cl C fp s2 H2 pn, PE (cxC X sc cl C (z1T X locs ix) fp s2 H2 pn) elt te)
    (hs : ∀ x, foldedSetIterable iter X.env x = pure x := by intro _; rfl) : PE X (.ListComp elt [⟨tgt, iter, tests, 0⟩] sc pos) (z69 wi locs.length ix g tt te) := by
  intro pins s σ H Q I h
  obtain ⟨cl, ecl, hcl, hcl'⟩ := z4Y (sc := sc) (env := X.env) fun y hy hk => I.ok.has y.1 (B.free y hy hk)
  rw [eval_ListComp]
  refine wpAny_comprehension_free (use := none) rfl hs ecl B.kind B.names ?_
  refine thn (hi pins s σ H _ I h) fun v s1 h1 => thn h1 fun itv s2 h2 => ?_
  obtain ⟨it, fp, tn, J, H2, e, I2, T, st2, f2, W, ⟨m0, w0⟩, turn⟩ := h2
  subst e
  refine z2N (iter := iter) (pos := pos) (RR := fun acc C => compPost (model X.prog X.w) X.A X.xe none (EP X pins σ Q) acc C) hc B hg ht he I2 T st2 f2 hcl hcl' w0 turn ?_
  intro D C s' H' ys m nD hC nC hCD I3 fin ns
  refine ⟨m, ns, fun h' hs' => ⟨.ref D, _, I3.turned (t' := s'.toks) (fun b o hb e => (hs'.2 b hb).trans e) (by rw [z07 hCD]; exact nC) (Nat.ne_of_gt (Nat.lt_of_lt_of_le I2.lt hC)) (.inr (Nat.le_trans I2.sz hC)) (fun x c e => ?_) (fun p hp => Nat.ne_of_lt (Nat.lt_of_lt_of_le (Heap.lt_size (I2.pin p hp).1) hC)), rfl, fin D nD⟩⟩
  obtain ⟨v, o, ho, _⟩ := I2.cell x c e
  exact Nat.ne_of_lt (Nat.lt_of_lt_of_le (Heap.lt_size ho) hC)
def z7w (i : Nat) (wi : TI) (k : Nat) (ix : List Nat) (g : TG) (tt : TT) (te : TE) : TS := fun D σ H => wi σ H fun J H1 =>
  ∃ W : Nat -> Nat -> St -> List V -> Hp -> Prop, (∃ m, W 0 m (z4D k ix σ) [] H1) /\ z3n J g tt te (fun ys H => ∀ l, H l = none -> D.nx (σ.set i (some (.ref l))) (upd H l (.lst ys))) W
end
section
variable {X : Cx}
theorem z37 : ∀ {bs : List Bool} {us : List Value}, Vals (bs.map V.bl) us -> us = bs.map Value.bool
  | [], _, .nil => rfl
  | b :: r, _, .cons q t => by
    cases (show _ = Value.bool b from q)
    rw [z37 t]
    rfl
theorem range_all (bs : List Bool) : (List.range bs.length).all (fun i => bs.getD i true) = bs.all id := by
  rw [Bool.eq_iff_iff, List.all_eq_true, List.all_eq_true]
  constructor
  . intro h b hb
    obtain ⟨i, hi, e⟩ := List.mem_iff_getElem.mp hb
    have q := h i (List.mem_range.mpr hi)
    rw [List.getD_eq_getElem?_getD, List.getElem?_eq_getElem hi, e] at q
    exact q
  . intro h i hi
    have hi' := List.mem_range.mp hi
    rw [List.getD_eq_getElem?_getD, List.getElem?_eq_getElem hi']
    exact h _ (List.getElem_mem hi')
theorem z3o (hc : X.calm = true) : CallR X (.builtin "all") (fun xs H Q => ∃ (a : Addr) (bs : List Bool), xs = [.ref a] /\ SqL X.K H a (bs.map V.bl) /\ Q (.bl (bs.all id)) H) := by
  intro pins s σ H xs us Q I r h
  obtain ⟨a, bs, rfl, hq, q⟩ := h
  obtain ⟨u, rfl, ru⟩ := vals1 r
  cases (show u = Value.ref a from ru)
  obtain ⟨its, rv, p, _⟩ := I.list hq
  have e := z37 rv
  subst e
  have hh : X.A.in1.handled = none := I.ok.hd hc
  have hlt : a < s.heap.objs.size := by obtain ⟨_, e, _⟩ := p.isList; exact Heap.lt_size e
  refine call_all_walk (wpAny_pyIter_list p.isList ?_)
  refine ⟨s.heap.objs.size, _, _, _, _, _, fun i => bs.getD i true, rfl, Walks.list hh s.heap.objs.size a (Nat.ne_of_lt hlt) (bs.map Value.bool).toArray, ⟨⟨_, Heap.get?_push_size _ rfl, rfl, rfl⟩, p.isList.push _⟩, ?_, fun h' tk k => ?_⟩
  . intro i v s' Q' E' hv hQ
    have e : v = Value.bool (bs.getD i true) := by
      rw [List.getElem?_toArray, List.getElem?_map] at hv
      cases hb : bs[i]? with
      | none => rw [hb] at hv; cases hv
      | some b =>
        rw [hb] at hv
        rw [List.getD_eq_getElem?_getD, hb]
        exact (Option.some.inj hv).symm
    subst e
    exact wpAny_truthy_bool hQ
  . have I' : Inv X pins σ H { s with heap := h', toks := tk } := I.kept fun b o e => k b o (by
      intro z
      have e' : b = s.heap.objs.size := by simpa using z
      exact absurd e' (Nat.ne_of_lt (Heap.lt_size e))) (Heap.get?_push_of_some _ e)
    refine ⟨.bl _, H, I', rfl, ?_⟩
    have e : ((bs.map Value.bool).toArray).size = bs.length := by rw [List.size_toArray, List.length_map]
    rw [e, range_all]
    exact q
end
def Ite (K : PySem.W.Frag) (a : Addr) : It :=
  ⟨fun i H => ∃ xs x, SqL K H a xs /\ xs[i]? = some x, fun i H x H' => ∃ T v, H T = none /\ x = .ref T /\ H' = upd H T (.tup [.int i, v]) /\ ∀ xs, SqL K H a xs -> xs[i]? = some v, fun i H => ∃ xs, SqL K H a xs /\ xs.length <= i⟩
section
variable {X : Cx}
def z7x (K : PySem.W.Frag) (ta : TA) : TI := fun σ H R => ta σ H fun vs H1 => ∃ a, vs = [.ref a] /\ (∃ xs, SqL K H1 a xs) /\ R (Ite K a) H1
end
def Itv (K : PySem.W.Frag) (a : Addr) (xs : List V) : It :=
  ⟨fun i H => i < xs.length /\ SqL K H a xs, fun i H x H' => H' = H /\ xs[xs.length - 1 - i]? = some x, fun i _ => i = xs.length⟩
theorem z3p {P : Program} {w : World} {K : PySem.W.Frag} {tg : Expr} (a it : Addr) (xs : List V) :
    Turn P w K tg (Itv K a xs) [it] it (fun i h => h.IsRevIter it a ((xs.length : Int) - 1 - (i : Int))) where
  mem := List.mem_cons_self
  obj := fun i h st b hb => by
    rw [List.mem_singleton.mp hb]
    obtain ⟨o, e, c, d⟩ := st
    exact ⟨o, e, fun v z => by rw [d] at z; cases z⟩
  keep := fun i h h' st k => st.at fun o e => k it List.mem_cons_self o e
  item := by
    intro X hP hw hK hc i pins s σ H E I hf st hg
    subst hP hw hK
    obtain ⟨hi, hq⟩ := hg
    obtain ⟨its, rv, p, hz⟩ := I.list hq
    have hl := rv.length
    have hx : xs[xs.length - 1 - i]? = some (xs[xs.length - 1 - i]'(by omega)) := List.getElem?_eq_getElem (by omega)
    obtain ⟨u, hu, ru⟩ := rv.get hx
    obtain ⟨f0, f1, f2, f3, f4, f5⟩ := hf it List.mem_cons_self
    have e : (xs.length : Int) - 1 - (i : Int) = ((xs.length - 1 - i : Nat) : Int) := by omega
    have st' : s.heap.IsRevIter it a ((xs.length - 1 - i : Nat) : Int) := by rw [<- e]; exact st
    refine wpAny_pyNext_rev_item st' p.isList (x := u) (by simpa using hu) fun h' st1 sb => ?_
    have I1 : Inv X pins σ H { s with heap := h' } := I.turned (t' := s.toks) (fun b o hb q => (sb.2 b hb).trans q) f0 f1 f3 f4 f5
    obtain ⟨o, q, c, d⟩ := id st1
    have e2 : ((xs.length - 1 - i : Nat) : Int) - 1 = (xs.length : Int) - 1 - ((i + 1 : Nat) : Int) := by omega
    refine ⟨u, rfl, z3f (s := { s with heap := h' }) q c d (by decide) ⟨_, H, I1, ru, ⟨rfl, hx⟩, ?_, fun b hb => (hf b hb).1⟩⟩
    rw [<- e2]
    exact st1
  done := by
    intro X hP hw hK hc i pins s σ H E I hf st hg
    subst hP hw hK
    cases (show i = xs.length from hg)
    obtain ⟨f0, f1, f2, f3, f4, f5⟩ := hf it List.mem_cons_self
    have e : (xs.length : Int) - 1 - (xs.length : Int) = -1 := by omega
    have st' : s.heap.IsRevIter it a (-1) := by rw [<- e]; exact st
    exact wpAny_pyNext_rev_end (I.ok.hd hc) st' fun h' eb => ⟨rfl, I.turned (t' := s.toks) (fun b o hb q => eb b o hb q) f0 f1 f3 f4 f5⟩
  self := fun _ _ _ _ _ st h => wpAny_pyIter_revIter st h
section
variable {X : Cx} {tg : Expr}
def z7y (K : PySem.W.Frag) (ta : TA) : TI := fun σ H R => ta σ H fun vs H1 => ∃ a xs, vs = [.ref a] /\ SqL K H1 a xs /\ R (Itv K a xs) H1
theorem z5M {l : Expr} {ta : TA} {p pos : Pos} (hg : Gl X "reversed") (hm : X.mg "reversed" = none) (ha : PA X [l] ta) (hs : starEach [l] X.env = [(false, eval l X.env)] := by rfl) :
    PI X tg (.Call (.Name "reversed" p) [l] [] pos) (z7y X.K ta) := by
  intro pins s σ H R I h
  refine Call_ (z1W I hg hm boot_reversed (PyProof.Rows.callWith_type1 (thn (ha pos pins s σ H _ I h) fun us s1 ⟨vs, H1, I1, r1, q1⟩ => ?_) hs rfl))
  obtain ⟨a, xs, e, hq, q⟩ := q1
  subst e
  obtain ⟨u, rfl, ru⟩ := vals1 r1
  cases (show u = Value.ref a from ru)
  obtain ⟨its, rv, pl, hz⟩ := I1.list hq
  have hl := rv.length
  refine call_reversed_list pl.isList ?_
  have st : Heap.IsRevIter (s1.heap.push (revObj a ((its.toArray.size : Int) - 1))) s1.heap.objs.size a ((xs.length : Int) - 1 - ((0 : Nat) : Int)) := by
    have e : (xs.length : Int) - 1 - ((0 : Nat) : Int) = (its.toArray.size : Int) - 1 := by
      rw [List.size_toArray]
      omega
    rw [e]
    exact ⟨_, Heap.get?_push_size _ rfl, rfl, rfl⟩
  refine wpAny_pyIter_revIter (s := { s1 with heap := s1.heap.push (revObj a ((its.toArray.size : Int) - 1)) }) st ?_
  refine ⟨s1.heap.objs.size, [s1.heap.objs.size], _, _, H1, rfl, I1.kept (t' := s1.toks) fun b o e => Heap.get?_push_of_some _ e, z3p a _ xs, st, fun b hb => ?_, q⟩
  rw [List.mem_singleton.mp hb]
  exact I1.fpOk (Nat.le_refl _) (I1.hok.fresh (Nat.le_refl _))
end
theorem z4Z {K : PySem.W.Frag} {a : Addr} {xs : List V} {g : TG} {tb : TS} {D : Ends} {σ : St} {H : Hp} (Pv : Nat -> St -> Hp -> Prop) (h0 : Pv 0 σ H) (hl : ∀ i σ H, i <= xs.length -> Pv i σ H -> SqL K H a xs)
    (hs : ∀ (i : Nat) x σ H, i < xs.length -> xs[xs.length - 1 - i]? = some x -> Pv i σ H -> g x σ H fun σ2 H2 => tb { D with nx := Pv (i + 1), ct := Pv (i + 1), bk := D.nx } σ2 H2) (hd : ∀ σ H, Pv xs.length σ H -> D.nx σ H) :
    ∃ W : Nat -> Nat -> St -> Hp -> Prop, (∃ m, W 0 m σ H) /\ ∀ i m σ H, W i m σ H ->
      ((Itv K a xs).stop i H /\ D.nx σ H) \/ ((Itv K a xs).go i H /\ ∃ N : St -> Hp -> Prop, (∀ σ' H', N σ' H' -> ∃ m', m' < m /\ W (i + 1) m' σ' H') /\ ∀ x H', (Itv K a xs).yld i H x H' -> g x σ H' fun σ2 H2 => tb { D with nx := N, ct := N, bk := D.nx } σ2 H2) := by
  refine ⟨fun i m σ H => m = xs.length - i /\ i <= xs.length /\ Pv i σ H, ⟨xs.length, by simp, Nat.zero_le _, h0⟩, ?_⟩
  rintro i m σ H ⟨rfl, hi, p⟩
  have q := hl i σ H hi p
  by_cases hlt : i < xs.length
  . refine .inr ⟨⟨hlt, q⟩, Pv (i + 1), fun σ' H' p' => ⟨xs.length - (i + 1), by omega, rfl, hlt, p'⟩, fun x H' y => ?_⟩
    obtain ⟨e, y⟩ := y
    subst e
    exact hs i x σ _ hlt y p
  . have e : i = xs.length := by omega
    subst e
    exact .inl ⟨rfl, hd σ H p⟩
section
variable {prog : Program} {w : World} {A : Around} {E : Value -> Shared -> Prop} {s : Shared}
abbrev zt1 (h : Heap) (l1 : Addr) : Heap := h.push { cls := .type "tuple_iterator", data := .fields #[.ref l1, .int 0 0] }
abbrev zt2 (h : Heap) (l1 l2 : Addr) : Heap := (zt1 h l1).push { cls := .type "tuple_iterator", data := .fields #[.ref l2, .int 0 0] }
abbrev zt3 (h : Heap) (l1 l2 : Addr) : Heap := (zt2 h l1 l2).push { cls := .type "tuple", data := .seq #[.ref h.objs.size, .ref (zt1 h l1).objs.size] }
abbrev zt4 (h : Heap) (l1 l2 : Addr) : Heap := (zt3 h l1 l2).push { cls := .type "tuple", data := .seq #[.none, .none] }
abbrev zt5 (h : Heap) (l1 l2 : Addr) : Heap := (zt4 h l1 l2).push { cls := .type "zip", data := .fields #[.none, .bool false, .bool false, .ref (zt2 h l1 l2).objs.size, .ref (zt3 h l1 l2).objs.size] }
end
def Itz (K : PySem.W.Frag) (a b : Addr) (xs ys : List V) : It :=
  ⟨fun i H => SqT K H a xs /\ SqT K H b ys /\ i < xs.length /\ i < ys.length, fun i H x H' => ∃ T u v, H T = none /\ x = .ref T /\ H' = upd H T (.tup [u, v]) /\ xs[i]? = some u /\ ys[i]? = some v,
    fun i H => SqT K H a xs /\ SqT K H b ys /\ (xs.length <= i \/ ys.length <= i)⟩
section
variable {X : Cx}
def z8j (K : PySem.W.Frag) (ta : TA) : TI := fun σ H R => ta σ H fun vs H1 => ∃ a b xs ys, vs = [.ref a, .ref b] /\ SqT K H1 a xs /\ SqT K H1 b ys /\ R (Itz K a b xs ys) H1
end
def z5N (sc dsc : Scope) (N : List Str) (ix : List Nat) : Bool :=
  sc.kind == .function && sc.names.all (fun y => y.2 != .cell) && sc.names.all (fun y => y.2 != .free || dsc.names.lookup y.1 == some .cell || dsc.names.lookup y.1 == some .free) &&
    sc.names.all (fun y => y.2 != .local || sc.names.lookup y.1 == some .local) && ix.all (fun i => match N[i]? with | some x => sc.names.lookup x == some .free | none => false)
theorem BlkSc.look {X : Cx} {sc dsc : Scope} {locs N : List Str} {ix : List Nat} (hs : X.env.scope = dsc) (hN : X.N = N) (c : z5N sc dsc N ix = true) : BlkSc X sc locs ix := by
  unfold z5N at c
  rw [Bool.and_eq_true, Bool.and_eq_true, Bool.and_eq_true, Bool.and_eq_true] at c
  obtain ⟨⟨⟨⟨c1, c2⟩, c3⟩, c4⟩, c5⟩ := c
  refine ⟨by simpa using c1, fun y hy => ?_, fun y hy hk => ?_, fun y hy hk => ?_, fun i hi => ?_⟩
  . simpa using List.all_eq_true.mp c2 y hy
  . have q := List.all_eq_true.mp c3 y hy
    have z : X.env.kindOf y.1 = dsc.names.lookup y.1 := by rw [<- hs]; rfl
    rw [z]
    rw [hk] at q
    simpa using q
  . have q := List.all_eq_true.mp c4 y hy
    rw [hk] at q
    simpa using q
  . have q := List.all_eq_true.mp c5 i hi
    rw [hN]
    cases hx : N[i]? with
    | none => rw [hx] at q; cases q
    | some x =>
      rw [hx] at q
      exact ⟨x, rfl, by simpa using q⟩
section
variable {X : Cx} {sc : Scope} {cl : List (Str × Addr)} {C : Addr} {N : List Str} {fp : List Addr} {s2 : Shared} {H2 : Hp} {pn : List (Addr × Obj)}
end
theorem z38 {J : It} {n : Nat} {g : TG} {te : TE} {σ0 : St} {H1 : Hp} {Fin : List V -> Hp -> Prop} (Pv : Nat -> St -> List V -> Hp -> Prop) (h0 : Pv 0 σ0 [] H1) (hn : n <= sizeLine) (len : ∀ i σ ys H, Pv i σ ys H -> ys.length = i)
    (stop : ∀ σ ys H, Pv n σ ys H -> J.stop n H) (go : ∀ i σ ys H, i < n -> Pv i σ ys H -> J.go i H)
    (hs : ∀ i σ ys H x H' (Z : St -> List V -> Hp -> Prop), i < n -> Pv i σ ys H -> J.yld i H x H' -> (∀ σ' ys' H', Pv (i + 1) σ' ys' H' -> Z σ' ys' H') -> g x σ H' fun σ2 H2 => te σ2 H2 fun y H3 => Z σ2 (ys ++ [y]) H3) (hd : ∀ σ ys H, Pv n σ ys H -> Fin ys H) :
    ∃ W : Nat -> Nat -> St -> List V -> Hp -> Prop, (∃ m, W 0 m σ0 [] H1) /\ z3n J g z6z te Fin W := by
  refine ⟨fun i m σ ys H => m = n - i /\ i <= n /\ Pv i σ ys H, ⟨n, rfl, Nat.zero_le _, h0⟩, ?_⟩
  rintro i m σ ys H ⟨rfl, hi, p⟩
  by_cases hlt : i < n
  . refine .inr ⟨go i σ ys H hlt p, by rw [len i σ ys H p]; omega, fun x H' y => ?_⟩
    have q := hs i σ ys H x H' (fun σ2 ys2 H3 => ∃ m', m' < n - i /\ m' = n - (i + 1) /\ i + 1 <= n /\ Pv (i + 1) σ2 ys2 H3) hlt p y fun σ' ys' H'' p' => ⟨n - (i + 1), by omega, rfl, hlt, p'⟩
    exact q
  . have e : i = n := by omega
    subst e
    exact .inl ⟨stop σ ys H p, by rw [len i σ ys H p]; exact hn, hd σ ys H p⟩
def Alk : Nat -> Hp -> V -> V -> Prop
  | 0, _, _, _ => False
  | n + 1, H, x, y => (x = y /\ (x = .non \/ (∃ b, x = .bl b) \/ (∃ i, x = .int i) \/ ∃ z, x = .str z)) \/
      ∃ a b xs ys, x = .ref a /\ y = .ref b /\ ((H a = some (.lst xs) /\ H b = some (.lst ys)) \/ (H a = some (.tup xs) /\ H b = some (.tup ys))) /\ xs.length <= 1000000 /\ xs.length = ys.length /\ ∀ (i : Nat) u v, xs[i]? = some u -> ys[i]? = some v -> Alk n H u v
theorem Alk.mono {H H' : Hp} (s : Same H H') : ∀ {n : Nat} {x y : V}, Alk n H x y -> Alk n H' x y
  | 0, _, _, h => h.elim
  | n + 1, _, _, h => by
    rcases h with h | ⟨a, b, xs, ys, e1, e2, e3, e4, e5, e6⟩
    . exact .inl h
    . refine .inr ⟨a, b, xs, ys, e1, e2, ?_, e4, e5, fun i u v h1 h2 => (e6 i u v h1 h2).mono s⟩
      rcases e3 with ⟨p, q⟩ | ⟨p, q⟩
      . exact .inl ⟨s _ _ p, s _ _ q⟩
      . exact .inr ⟨s _ _ p, s _ _ q⟩
theorem Alk.up {H : Hp} : ∀ {n m : Nat} {x y : V}, n <= m -> Alk n H x y -> Alk m H x y
  | 0, _, _, _, _, h => h.elim
  | n + 1, 0, _, _, hm, _ => absurd hm (Nat.not_succ_le_zero _)
  | n + 1, m + 1, _, _, hm, h => by
    rcases h with h | ⟨a, b, xs, ys, e1, e2, e3, e4, e5, e6⟩
    . exact .inl h
    . exact .inr ⟨a, b, xs, ys, e1, e2, e3, e4, e5, fun i u v h1 h2 => (e6 i u v h1 h2).up (Nat.le_of_succ_le_succ hm)⟩
theorem Alk.int {n : Nat} {H : Hp} (i : Int) : Alk (n + 1) H (.int i) (.int i) := .inl ⟨rfl, .inr (.inr (.inl ⟨i, rfl⟩))⟩
theorem Alk.non {n : Nat} {H : Hp} : Alk (n + 1) H .non .non := .inl ⟨rfl, .inl rfl⟩
theorem Alk.bl {n : Nat} {H : Hp} (b : Bool) : Alk (n + 1) H (.bl b) (.bl b) := .inl ⟨rfl, .inr (.inl ⟨b, rfl⟩)⟩
theorem Alk.ints {n : Nat} {H : Hp} {a b : Addr} {zs ws : List Int} (h1 : H a = some (.lst (zs.map V.int))) (h2 : H b = some (.lst (ws.map V.int))) (e : zs = ws) (hl : zs.length <= 1000000) : Alk (n + 2) H (.ref a) (.ref b) := by
  subst e
  refine .inr ⟨a, b, _, _, rfl, rfl, .inl ⟨h1, h2⟩, by rw [List.length_map]; exact hl, rfl, fun i u v hu hv => ?_⟩
  rw [hu] at hv
  cases hv
  obtain ⟨z, rfl⟩ := z17 (List.mem_of_getElem? hu)
  exact Alk.int z
theorem Alk.tints {n : Nat} {H : Hp} {a b : Addr} {zs ws : List Int} (h1 : H a = some (.tup (zs.map V.int))) (h2 : H b = some (.tup (ws.map V.int))) (e : zs = ws) (hl : zs.length <= 1000000) : Alk (n + 2) H (.ref a) (.ref b) := by
  subst e
  refine .inr ⟨a, b, _, _, rfl, rfl, .inr ⟨h1, h2⟩, by rw [List.length_map]; exact hl, rfl, fun i u v hu hv => ?_⟩
  rw [hu] at hv
  cases hv
  obtain ⟨z, rfl⟩ := z17 (List.mem_of_getElem? hu)
  exact Alk.int z
def z6A (n : Nat) : Sp := fun vs H Q _ => ∃ x y, vs = [x, y] /\ Alk n H x y /\ ∀ H', Same H H' -> Q (.bl true) H'
structure BltA (mg : Str -> Option Value) : Prop where
  isi : mg "isinstance" = none
  tup : mg "tuple" = none
  lst : mg "list" = none
  boo : mg "bool" = none
  str : mg "str" = none
  int : mg "int" = none
  len : mg "len" = none
  all : mg "all" = none
  rng : mg "range" = none
end L2
namespace G
open PySem
def z0g : List (Option Int) -> Int
  | [] => 0
  | c :: r => c.getD 0 + 16 * z0g r
def z0q : List (Option Int) -> Int
  | [] => 0
  | c :: r => (if c.isSome = true then 1 else 0) + 2 * z0q r
def Cell (c : Option Int) : Prop := ∀ z, c = some z -> 0 <= z /\ z <= 15
def Cells (r : List (Option Int)) : Prop := ∀ c ∈ r, Cell c
theorem Cells.tail {c : Option Int} {r : List (Option Int)} (h : Cells (c :: r)) : Cells r := fun d hd => h d (List.mem_cons_of_mem _ hd)
theorem Cell.get {c : Option Int} (h : Cell c) : 0 <= c.getD 0 /\ c.getD 0 <= 15 := by
  cases c with
  | none => exact ⟨by decide, by decide⟩
  | some z => exact h z rfl
def pc : Nat -> Nat
  | 0 => 0
  | n + 1 => (n + 1) % 2 + pc ((n + 1) / 2)
decreasing_by omega
def z4a : List (Option Int) -> Nat
  | [] => 0
  | c :: r => (if c.isSome = true then 1 else 0) + z4a r
end G
namespace L2
open PySem PySem.Spec PyProof.Rows G
def z0b : Option Int -> V
  | none => .non
  | some z => .int z
structure RowsAt (H : Hp) (l : Addr) (ps : List Addr) (rows : List (List (Option Int))) : Prop where
  lst : H l = some (.lst (ps.map V.ref))
  len : ps.length = rows.length
  row : ∀ (i : Nat) p r, ps[i]? = some p -> rows[i]? = some r -> H p = some (.lst (r.map z0b))
theorem RowsAt.mono {H H' : Hp} {l : Addr} {ps : List Addr} {rows : List (List (Option Int))} (s : Same H H') (h : RowsAt H l ps rows) : RowsAt H' l ps rows := ⟨s _ _ h.lst, h.len, fun i p r e1 e2 => s _ _ (h.row i p r e1 e2)⟩
structure Rect (w h : Nat) (rows : List (List (Option Int))) : Prop where
  len : rows.length = h
  h1 : 1 <= h
  h2 : h <= 64
  w1 : 1 <= w
  w2 : w <= 64
  row : ∀ r ∈ rows, r.length = w /\ Cells r
def PicAt (H : Hp) (p : Addr) (w : Nat) (rows : List (List (Option Int))) : Prop :=
  ∃ pp pm, H p = some (.tup [.int (w : Int), .int (rows.length : Int), .ref pp, .ref pm]) /\ H pp = some (.tup ((rows.map z0g).map V.int)) /\ H pm = some (.tup ((rows.map z0q).map V.int))
theorem PicAt.mono {H H' : Hp} {p : Addr} {w : Nat} {rows : List (List (Option Int))} (s : Same H H') (h : PicAt H p w rows) : PicAt H' p w rows := by
  obtain ⟨pp, pm, h1, h2, h3⟩ := h
  exact ⟨pp, pm, s _ _ h1, s _ _ h2, s _ _ h3⟩
theorem Alk.cell {n : Nat} {H : Hp} (c : Option Int) : Alk (n + 1) H (z0b c) (z0b c) := by
  cases c with
  | none => exact Alk.non
  | some z => exact Alk.int z
theorem z39 {ns : List Int} (h : 0 < ns.length) (k : Int) : ∃ z, atI (ns.map V.int) (k % ((ns.map V.int).length : Int)) = some (.int z) := by
  have e : ((ns.map V.int).length : Int) = (ns.length : Int) := by rw [List.length_map]
  rw [e]
  have h1 := Int.emod_nonneg k (show (ns.length : Int) ≠ 0 by omega)
  have h2 := Int.emod_lt_of_pos k (show (0 : Int) < ns.length by omega)
  have e2 : k % (ns.length : Int) = (((k % (ns.length : Int)).toNat : Nat) : Int) := by omega
  rw [e2]
  have hj : (k % (ns.length : Int)).toNat < ns.length := by omega
  refine ⟨ns[(k % (ns.length : Int)).toNat], z1C ?_⟩
  rw [List.getElem?_map, List.getElem?_eq_getElem hj]
  rfl
def look (w h : Nat) (rows : List (List (Option Int))) (x y : Int) : Option Int := if 0 <= x /\ x < w /\ 0 <= y /\ y < h then (rows.getD y.toNat []).getD x.toNat none else none
def z26 (K : PySem.W.Frag) : Sp := fun vs H Q _ => ∃ (a : Addr) (ns : List Int) (k m : Int), vs = [.ref a, .int k, .int m] /\ SqL K H a (ns.map V.int) /\ 0 <= k /\ k < 1000000 /\ 0 < m /\ ∀ r, 0 <= r -> r < m -> Q (.int r) H
def z6B (K : PySem.W.Frag) : Sp := fun vs H Q _ => ∃ (a : Addr) (ns : List Int) (k : Int), vs = [.ref a, .int k] /\ SqL K H a (ns.map V.int) /\ 0 <= k /\ k < 10000 /\ ∀ (w h : Int) p, 1 <= w -> w <= 64 -> 1 <= h -> h <= 64 -> H p = none -> Q (.ref p) (upd H p (.tup [.int w, .int h]))
def z70 (K : PySem.W.Frag) : Sp := fun vs H Q _ => ∃ (a : Addr) (ns : List Int) (k w h : Int), vs = [.ref a, .int k, .int w, .int h] /\ SqL K H a (ns.map V.int) /\ 0 <= k /\ k < 10000 /\ 1 <= w /\ w <= 64 /\ 1 <= h /\ h <= 64 /\
  ∀ l ps rows H', Same H H' -> H l = none -> (∀ p ∈ ps, H p = none) -> RowsAt H' l ps rows -> Rect w.toNat h.toNat rows -> Q (.ref l) H'
def z27 : Sp := fun vs H Q _ => ∃ l ps rows w h, vs = [.ref l] /\ RowsAt H l ps rows /\ Rect w h rows /\ ∀ p H', Same H H' -> PicAt H' p w rows -> Q (.ref p) H'
def z71 : Sp := fun vs H Q _ => ∃ p x y w h rows, vs = [.ref p, .int x, .int y] /\ PicAt H p w rows /\ Rect w h rows /\ Q (z0b (look w h rows x y)) H
def z6C : Sp := fun vs H Q _ => ∃ l r, vs = [.ref l] /\ H l = some (.lst (r.map z0b)) /\ Cells r /\ r.length <= 64 /\ ∀ H', Same H H' -> Q (.int (z0g r)) H'
def z72 : Sp := fun vs H Q _ => ∃ l r, vs = [.ref l] /\ H l = some (.lst (r.map z0b)) /\ Cells r /\ r.length <= 64 /\ ∀ H', Same H H' -> Q (.int (z0q r)) H'
structure Ow (P : Program) (w : World) (K : PySem.W.Frag) (mg : Str -> Option Value) (base : Heap) (x : Str) (ps : List Str) (k : Nat) (sp : Sp) : Prop where
  ex : ∃ (f : Addr) (fd : FuncData), mg x = some (.ref f) /\ PySem.W.keepIn K (.ref f) = true /\ Binds K fd ps [] /\ FnOk P w K mg base CX0 k f fd ps sp
theorem Df.ow {P : Program} {w : World} {K : PySem.W.Frag} {mg : Str -> Option Value} {base : Heap} {x : Str} {st : Stmt} {ps : List Str} {f : Addr} {fd : FuncData} {k : Nat} {sp : Sp} (D : Df K mg x st ps f fd) (F : FnOk P w K mg base CX0 k f fd ps sp) :
    Ow P w K mg base x ps k sp := ⟨f, fd, D.m, D.F.kp, D.b, F⟩
theorem Ow.imp {P : Program} {w : World} {K : PySem.W.Frag} {mg : Str -> Option Value} {base : Heap} {x : Str} {ps : List Str} {k : Nat} {sp sp' : Sp} (O : Ow P w K mg base x ps k sp) (h : ∀ vs H Q E, sp' vs H Q E -> sp vs H Q E) : Ow P w K mg base x ps k sp' := by
  obtain ⟨f, fd, a, b, c, F⟩ := O.ex
  exact ⟨f, fd, a, b, c, F.imp h⟩
section
variable {X : Cx} {k j : Nat} {ps : List Str} {sp : Sp} {x : Str} {p pos : Pos} {e : Expr} {es : List Expr} {t : TA}
theorem z0C (O : Ow X.prog X.w X.K X.mg X.base x ps k sp) (hr : Room j X.A) (hg : Gl X x) (ha : PA X (e :: es) t) (hk : k <= j := by decide) (hdb : (x == ("__debug__" : Str)) = false := by decide)
    (he : starEach (e :: es) X.env = (false, eval e X.env) :: starEach es X.env := by rfl) (hpl : (backTo pos (starEach es X.env)).any (·.1) = false := by rfl) :
    PE X (.Call (.Name x p) (e :: es) [] pos) (z4Q sp [] E0 t) := by
  obtain ⟨f, fd, m, kp, b, F⟩ := O.ex
  exact z2u F (hr.mono hk) hg m kp b .nil z67 ha hdb he hpl
end
theorem z1K {c A B : Prop} [Decidable c] (h1 : c -> A) (h2 : ¬ c -> B) : if decide c = true then A else B := by
  by_cases h : c
  . rw [decide_eq_true h, if_pos rfl]; exact h1 h
  . rw [decide_eq_false h, if_neg Bool.false_ne_true]; exact h2 h
theorem z6D {c A B : Prop} [Decidable c] (h1 : ¬ c -> A) (h2 : c -> B) : if (!decide c) = true then A else B := by
  by_cases h : c
  . rw [decide_eq_true h, Bool.not_true, if_neg Bool.false_ne_true]; exact h2 h
  . rw [decide_eq_false h, Bool.not_false, if_pos rfl]; exact h1 h
theorem mulL {i j : Int} (h1 : -18446744073709551616 < i) (h2 : i < 18446744073709551616) : CMul i j := .inl ⟨h1, h2⟩
theorem mulR {i j : Int} (h1 : -18446744073709551616 < j) (h2 : j < 18446744073709551616) : CMul i j := .inr ⟨h1, h2⟩
theorem powS {i j : Int} (h1 : 0 <= j) (h2 : j <= 1000000) (h3 : i.natAbs < 18446744073709551616) : z6j i j := ⟨h1, h2, h3⟩
theorem szV {xs : List V} (h : xs.length <= 100000) : xs.length <= sizeLine := Nat.le_trans h (by decide)
theorem z73 {j : Int} (h1 : 0 <= j) (h2 : j <= 1000000000) : -(2 ^ 62) <= j /\ j < 2 ^ 62 := by
  have : (1000000000 : Int) < 2 ^ 62 := by decide
  omega
def z7z (t u : TS) : TS := fun D σ H => ∃ I : St -> Hp -> Prop, t { D with nx := I } σ H /\ ∀ σ' H', I σ' H' -> u D σ' H'
theorem z1F {X : Cx} {st : Stmt} {rest : List Stmt} {t u : TS} (h1 : PS X st t) (h2 : PSs X rest u) : PSs X (st :: rest) (z7z t u) := by
  intro pins s σ H D I h
  obtain ⟨J, h, hj⟩ := h
  refine wpAny_execs_cons (thn (h1 pins s σ H { D with nx := J } I h) fun f s1 q => ?_)
  cases f with
  | next =>
    obtain ⟨σ', H', I', q⟩ := q
    exact h2 pins s1 σ' H' D I' (hj _ _ q)
  | ret v => exact q
  | brk => exact q
  | cont => exact q
end L2
namespace L2
open PySem PySem.Spec PyProof.Rows G
structure RowsB (H0 H : Hp) (l : Addr) (ps : List Addr) (rows : List (List (Option Int))) : Prop where
  same : Same H0 H
  fl : H0 l = none
  fp : ∀ p ∈ ps, H0 p = none /\ p ≠ l
  rat : RowsAt H l ps rows
theorem Same.put {H0 H : Hp} {p : Addr} {o : HO} (s : Same H0 H) (h : H0 p = none) : Same H0 (upd H p o) := fun b u e => by
  rw [z07 (z0M e h)]
  exact s b u e
theorem RowsB.put {H0 H : Hp} {l p : Addr} {ps : List Addr} {rows : List (List (Option Int))} {o : HO} (B : RowsB H0 H l ps rows) (h0 : H0 p = none) (hl : p ≠ l) (hp : p ∉ ps) : RowsB H0 (upd H p o) l ps rows where
  same := B.same.put h0
  fl := B.fl
  fp := B.fp
  rat := ⟨by rw [z07 (Ne.symm hl)]; exact B.rat.lst, B.rat.len, fun i q r e1 e2 => by
    have hq : q ≠ p := fun e => hp (by rw [<- e]; exact List.mem_of_getElem? e1)
    rw [z07 hq]
    exact B.rat.row i q r e1 e2⟩
theorem RowsB.push {H0 H : Hp} {l p : Addr} {ps : List Addr} {rows : List (List (Option Int))} {r : List (Option Int)} (B : RowsB H0 H l ps rows) (h0 : H0 p = none) (hl : p ≠ l) (hr : H p = some (.lst (r.map z0b))) :
    RowsB H0 (upd H l (.lst (ps.map V.ref ++ [.ref p]))) l (ps ++ [p]) (rows ++ [r]) where
  same := B.same.put B.fl
  fl := B.fl
  fp := fun q hq => by
    rcases List.mem_append.mp hq with h | h
    . exact B.fp q h
    . rw [List.mem_singleton.mp h]
      exact ⟨h0, hl⟩
  rat := ⟨by rw [z05, List.map_append]; rfl, by rw [List.length_append, List.length_append, B.rat.len]; rfl, fun i q s e1 e2 => by
    have hq : q ≠ l := by
      rcases List.mem_append.mp (List.mem_of_getElem? e1) with h | h
      . exact (B.fp q h).2
      . rw [List.mem_singleton.mp h]
        exact hl
    rw [z07 hq]
    have hlen := B.rat.len
    by_cases hi : i < ps.length
    . rw [List.getElem?_append_left hi] at e1
      rw [List.getElem?_append_left (by omega)] at e2
      exact B.rat.row i q s e1 e2
    . rw [List.getElem?_append_right (by omega)] at e1
      rw [List.getElem?_append_right (by omega)] at e2
      rw [hlen] at e1
      cases hj : i - rows.length with
      | zero =>
        rw [hj] at e1 e2
        cases e1
        cases e2
        exact hr
      | succ n =>
        rw [hj] at e1
        cases e1⟩
theorem RowsB.mono {H0 H H' : Hp} {l : Addr} {ps : List Addr} {rows : List (List (Option Int))} (B : RowsB H0 H l ps rows) (s : Same H H') : RowsB H0 H' l ps rows := ⟨B.same.trans s, B.fl, B.fp, B.rat.mono s⟩
theorem Rect.ne {w h : Nat} {rows : List (List (Option Int))} (R : Rect w h rows) : 0 < rows.length := by have := R.len; have := R.h1; omega
theorem RowsAt.at {H : Hp} {l : Addr} {ps : List Addr} {rows : List (List (Option Int))} (a : RowsAt H l ps rows) {i : Nat} (hi : i < rows.length) : ∃ p, ps[i]? = some p /\ H p = some (.lst ((rows[i]'hi).map z0b)) := by
  have hl := a.len
  exact ⟨ps[i]'(by omega), List.getElem?_eq_getElem _, a.row i _ _ (List.getElem?_eq_getElem _) (List.getElem?_eq_getElem _)⟩
theorem RowsAt.atI {H : Hp} {l : Addr} {ps : List Addr} {rows : List (List (Option Int))} (a : RowsAt H l ps rows) {i : Nat} (hi : i < rows.length) : ∃ p, L2.atI (ps.map V.ref) (i : Int) = some (.ref p) /\ H p = some (.lst ((rows[i]'hi).map z0b)) := by
  obtain ⟨p, h1, h2⟩ := a.at hi
  exact ⟨p, z1C (by rw [List.getElem?_map, h1]; rfl), h2⟩
theorem Rect.row0 {w h : Nat} {rows : List (List (Option Int))} (R : Rect w h rows) {i : Nat} (hi : i < rows.length) : (rows[i]'hi).length = w /\ Cells (rows[i]'hi) := R.row _ (List.getElem_mem hi)
theorem PicAt.put {H : Hp} {p q : Addr} {w : Nat} {rows : List (List (Option Int))} {xs : List V} {o : HO} (h : PicAt H p w rows) (hq : H q = some (.lst xs)) : PicAt (upd H q o) p w rows := by
  obtain ⟨a, b, h1, h2, h3⟩ := h
  have ne : ∀ {c : Addr} {ys : List V}, H c = some (.tup ys) -> c ≠ q := fun e z => by
    rw [z, hq] at e
    cases e
  exact ⟨a, b, by rw [z07 (ne h1)]; exact h1, by rw [z07 (ne h2)]; exact h2, by rw [z07 (ne h3)]; exact h3⟩
end L2
namespace L2
open PySem PySem.Spec PyProof.Rows G
def inB (x : V) (a b : Int) : Bool := match x with
  | .int i => decide (a <= i) && decide (i <= b)
  | _ => false
def z6E (x : V) : Bool := match x with
  | .non => true
  | x => inB x 0 15
def z3A : Sp := fun vs H Q _ => ∃ x T, vs = [x] /\ tyS H x = some T /\ Q (.bl (T == "int")) H
theorem z1o : ∀ T ∈ z4W, (if z4V T "int" = true then (!z4V T "bool") else false) = (T == "int") := by decide
def z5g : Sp := fun vs H Q _ => ∃ x a b T, vs = [x, .int a, .int b] /\ tyS H x = some T /\ Q (.bl (inB x a b)) H
def z74 : Sp := fun vs H Q _ => ∃ x T, vs = [x] /\ tyS H x = some T /\ Q (.bl (inB x 1 64)) H
def z5h : Sp := fun vs H Q _ => ∃ x T, vs = [x] /\ tyS H x = some T /\ Q (.bl (z6E x)) H
def z5O : Sp := fun vs H Q _ => ∃ (l m : Addr) (r r' : List (Option Int)), vs = [.ref l, .ref m] /\ H l = some (.lst (r.map z0b)) /\ H m = some (.lst (r'.map z0b)) /\ r.length = r'.length /\ 1 <= r.length /\ r.length <= 64 /\ Cells r /\ ∀ H', Same H H' -> Q (.bl true) H'
def z4t : Sp := fun vs H Q _ => ∃ l ps rows w h, vs = [.ref l] /\ RowsAt H l ps rows /\ Rect w h rows /\ ∀ p H', Same H H' -> H p = none -> PicAt H' p w rows -> Q (.ref p) H'
def z75 : Sp := fun vs H Q _ => ∃ l ps rows w h x y, vs = [.ref l, .int x, .int y] /\ RowsAt H l ps rows /\ Rect w h rows /\ Q (z0b (look w h rows x y)) H
end L2
namespace L2
open PySem PySem.Spec PyProof.Rows G
end L2
namespace L2
open PySem PySem.Spec PyProof.Rows G
def z6F (K : PySem.W.Frag) : Sp := fun vs H Q _ => ∃ (a : Addr) (ns : List Int) (k : Int), vs = [.ref a, .int k] /\ SqL K H a (ns.map V.int) /\ 0 <= k /\ k < 10000 /\ ∀ (z : Int) H', Same H H' -> Q (.int z) H'
def z8k (K : PySem.W.Frag) : Sp := fun vs H Q _ => ∃ (a : Addr) (ns : List Int) (p l : Addr) (ps : List Addr) (rows : List (List (Option Int))) (w h : Nat), vs = [.ref a, .ref p, .ref l] /\ SqL K H a (ns.map V.int) /\ PicAt H p w rows /\ RowsAt H l ps rows /\ Rect w h rows /\ ∀ H', Same H H' -> Q (.bl true) H'
section
variable {X : Cx}
def z80 : R2 := fun x y H Q => ∃ a k v, x = .ref a /\ y = .int k /\ H a = some (.tup [v]) /\ 1 <= k /\ k <= 10000 /\ ∀ p H', Same H H' -> H' p = some (.tup (List.replicate k.toNat v)) -> Q (.ref p) H'
end
structure FunD (K : PySem.W.Frag) (x qual : Str) (st : Stmt) (f : Addr) (fd : FuncData) (T : Addr) : Prop where
  ex : ∃ (oc : Value) (od : Option Addr) (kV doc pm : Value) (an : Option Addr) (cdv ct : Value) (osl : Array (Option Value)),
    fd = PySem.W.fnOf x qual (z0K st) (z0D st) (z04 st) (.ref T) kV doc pm an cdv ct /\ K.lookup f = some ⟨oc, od, .func fd, osl⟩ /\ PySem.W.codeIn K cdv qual = true
  kp : PySem.W.keepIn K (.ref f) = true
theorem FunD.ok {P : Program} {w : World} {K : PySem.W.Frag} {mg : Str -> Option Value} {base : Heap} {x qual : Str} {st : Stmt} {f T : Addr} {fd : FuncData} {N ps : List Str} {k : Nat} {sp : Sp} (F : FunD K x qual st f fd T) (S : FnScope N ps (z04 st)) (len : ∀ vs H Q E, sp vs H Q E -> vs.length = ps.length)
    (hbody : ∀ (cdv : Value) (A : Around) (outer : List Env) (s : Shared) (H : Hp) (vs : List V) (Q : VK) (E : XK), Room k (A.deeper (envOfC qual (z04 st) s.heap.objs.size f cdv)) -> sp vs H Q E ->
      ∃ t, PSs (z3a CX0 P w K mg base N qual (z04 st) f cdv A outer s H E).nox (z0D st) t /\ t { nx := fun _ H' => Q .non H', rt := Q } (start N vs) H) : FnOk P w K mg base CX0 (k + 1) f fd ps sp := by
  obtain ⟨oc, od, kV, doc, pm, an, cdv, ct, osl, rfl, lk, hcd⟩ := F.ex
  refine z3i lk hcd S len fun A outer s H vs Q E hr hsp => ?_
  obtain ⟨t, h, q⟩ := hbody cdv A outer s H vs Q E hr hsp
  exact ⟨t, h.nox, q⟩
structure Owd (P : Program) (w : World) (K : PySem.W.Frag) (mg : Str -> Option Value) (base : Heap) (x : Str) (ps : List Str) (dvs : List V) (k : Nat) (sp : Sp) : Prop where
  ex : ∃ (f : Addr) (fd : FuncData) (ds : List Value), mg x = some (.ref f) /\ PySem.W.keepIn K (.ref f) = true /\ Binds K fd ps ds /\ Vals dvs ds /\ FnOk P w K mg base CX0 k f fd ps sp
def z76 (sc : Scope) : Bool := sc.kind == .function && sc.names.all (fun y => y.2 != .cell && y.2 != .free && (y.2 != .local || sc.names.lookup y.1 == some .local))
section
variable {X : Cx} {sc : Scope} {cl : List (Str × Addr)} {C : Addr} {N : List Str} {fp : List Addr} {s2 : Shared} {H2 : Hp} {pn : List (Addr × Obj)} {tg l : Expr} {tl : TE}
end
structure DfD (K : PySem.W.Frag) (mg : Str -> Option Value) (x : Str) (st : Stmt) (ps : List Str) (f : Addr) (fd : FuncData) (T : Addr) : Prop where
  F : FunD K x x st f fd T
  b : Binds K fd ps []
  b1 : Binds K fd ps [.none]
  m : mg x = some (.ref f)
theorem DfD.ow {P : Program} {w : World} {K : PySem.W.Frag} {mg : Str -> Option Value} {base : Heap} {x : Str} {st : Stmt} {ps : List Str} {f T : Addr} {fd : FuncData} {k : Nat} {sp : Sp} (D : DfD K mg x st ps f fd T) (F : FnOk P w K mg base CX0 k f fd ps sp) :
    Ow P w K mg base x ps k sp := ⟨f, fd, D.m, D.F.kp, D.b, F⟩
end L2
namespace L2
open PySem PySem.Spec PyProof.Rows G
def z6G : Sp := fun vs H Q _ => ∃ p y w h rows, vs = [.ref p, .int y] /\ PicAt H p w rows /\ Rect w h rows /\ 0 <= y /\ y < h /\ ∀ l H', Same H H' -> H l = none -> H' l = some (.lst ((rows.getD y.toNat []).map z0b)) -> Q (.ref l) H'
def z5i : Sp := fun vs H Q _ => ∃ p w h rows, vs = [.ref p] /\ PicAt H p w rows /\ Rect w h rows /\ ∀ l ps H', RowsB H H' l ps rows -> Q (.ref l) H'
def z77 : Sp := fun vs H Q _ => ∃ m : Int, vs = [.int m] /\ 0 <= m /\ Q (.int (pc m.toNat : Int)) H
def z6H : Sp := fun vs H Q _ => ∃ p w h rows, vs = [.ref p] /\ PicAt H p w rows /\ Rect w h rows /\ ∀ H', Same H H' -> Q (.int ((rows.map fun r => (z4a r : Int)).sum)) H'
def z6I : Sp := fun vs H Q _ => ∃ l ps w h rows, vs = [.ref l] /\ RowsAt H l ps rows /\ Rect w h rows /\ ∀ H', Same H H' -> Q (.int ((rows.map fun r => (z4a r : Int)).sum)) H'
end L2
namespace L2
open PySem PySem.Spec PyProof.Rows G
def z5j : Sp := fun vs H Q _ => ∃ (w h : Int) (c : Option Int), vs = [.int w, .int h, z0b c] /\ 1 <= w /\ w <= 64 /\ 1 <= h /\ h <= 64 /\ Cell c /\ ∀ p H', Same H H' -> PicAt H' p w.toNat (List.replicate h.toNat (List.replicate w.toNat c)) -> Q (.ref p) H'
theorem z28 {α : Type} (x : α) : ∀ k : Nat, (List.replicate k [x]).flatten = List.replicate k x
  | 0 => rfl
  | k + 1 => by rw [List.replicate_succ, List.flatten_cons, z28 x k, List.replicate_succ]; rfl
theorem z3B {c : Option Int} (h : Cell c) (k : Nat) : Cells (List.replicate k c) := fun d hd => by
  rw [List.eq_of_mem_replicate hd]
  exact h
end L2
namespace G
open PySem
def z4b : Nat -> Int -> Int -> List (Option Int)
  | 0, _, _ => []
  | n + 1, P, M => (if M % 2 = 1 then some (P % 16) else none) :: z4b n (P / 16) (M / 2)
def z6J : Nat -> Int -> Int -> Bool
  | 0, P, M => decide (P = 0) && decide (M = 0)
  | n + 1, P, M => (decide (M % 2 = 1) || decide (P % 16 = 0)) && z6J n (P / 16) (M / 2)
def roomI : Nat -> Int -> Int
  | 0, _ => 0
  | n + 1, M => (if M % 2 = 1 then 15 else 0) + 16 * roomI n (M / 2)
end G
namespace L2
open PySem PySem.Spec PyProof.Rows
def z81 (K : PySem.W.Frag) : R2 := fun x y H Q => ∃ a b xs ys, x = .ref a /\ y = .ref b /\ SqT K H a xs /\ SqT K H b ys /\ xs.length + ys.length <= sizeLine /\
  (xs = [] -> Q (.ref b) H) /\ (xs ≠ [] -> ys = [] -> Q (.ref a) H) /\ (xs ≠ [] -> ys ≠ [] -> ∀ p, H p = none -> Q (.ref p) (upd H p (.tup (xs ++ ys))))
section
variable {X : Cx}
def z8l (K : PySem.W.Frag) : R2 := fun x y H Q => ∃ (a b pa pb qa qb : Addr) (w h w' h' : Int) (ns ms ns' ms' : List Int), x = .ref a /\ y = .ref b /\ SqT K H a [.int w, .int h, .ref pa, .ref pb] /\ SqT K H b [.int w', .int h', .ref qa, .ref qb] /\
  SqT K H pa (ns.map V.int) /\ SqT K H pb (ms.map V.int) /\ SqT K H qa (ns'.map V.int) /\ SqT K H qb (ms'.map V.int) /\ Q (.bl ((w == w') && ((h == h') && (decide (ns = ns') && decide (ms = ms'))))) H
def z6K (i j : Int) : Prop := i.natAbs < 2 ^ 1000 /\ j.natAbs < 2 ^ 1000
theorem z3C {x : Int} {n : Nat} (h : x.natAbs < 2 ^ n) : Builtin.Int.intBits x <= n := by
  unfold Builtin.Int.intBits
  split
  . exact Nat.zero_le _
  . rename_i h0
    have hx : x.natAbs ≠ 0 := fun e => h0 (by rw [Int.natAbs_eq_zero.mp e]; rfl)
    exact (Nat.log2_lt hx).mpr h
theorem z4c : OpR X (binaryOp .Mult) (rI z6K fun i j => .int (i * j)) := opI fun _ _ _ _ _ _ _ hc q => mul_int q (IntMulOk.of_bits (Nat.le_trans (z3C hc.1) (by decide)) (Nat.le_trans (z3C hc.2) (by decide)))
end
def z78 : Sp := fun vs H Q _ => ∃ w m : Int, vs = [.int w, .int m] /\ 0 <= w /\ w <= 64 /\ 0 <= m /\ Q (.int (G.roomI w.toNat m)) H
end L2
namespace G
def tk : Nat -> List (Option Int) -> List (Option Int)
  | 0, _ => []
  | w + 1, [] => none :: tk w []
  | w + 1, c :: r => c :: tk w r
def z79 (x : Int) (r : List (Option Int)) : List (Option Int) := if 0 <= x then r.drop x.toNat else List.replicate (-x).toNat none ++ r
def z82 (b at' many : Int) : Int := (if 0 <= at' then b / 2 ^ at'.toNat else b * 2 ^ (-at').toNat) % 2 ^ many.toNat
def atR (r : List (Option Int)) (x : Int) : Option Int := if 0 <= x then (r[x.toNat]?).join else none
end G
namespace G
open PySem
def layR : List (Option Int) -> List (Option Int) -> List (Option Int)
  | u :: us, c :: cs => c.or u :: layR us cs
  | _, _ => []
def loI : List (Option Int) -> Nat
  | [] => 0
  | c :: r => if c.isSome = true then 0 else loI r + 1
def hiI : List (Option Int) -> Nat
  | [] => 0
  | c :: r => if hiI r = 0 then (if c.isSome = true then 1 else 0) else hiI r + 1
def isP (r : List (Option Int)) (i : Nat) : Prop := ((r[i]?).join).isSome = true
end G
namespace G
theorem z5P {r : List (Option Int)} {i : Nat} (h : isP r i) : i < r.length := by
  unfold isP at h
  cases hi : r[i]? with
  | none => rw [hi] at h; cases h
  | some c => exact (List.getElem?_eq_some_iff.mp hi).1
def z3D (w : Nat) (rows : List (List (Option Int))) : List (Option Int) := rows.foldl layR (List.replicate w none)
def anyR (rows : List (List (Option Int))) : List (Option Int) := rows.map fun r => if z0q r = 0 then none else some 0
def z8m (rows : List (List (Option Int))) (n : Nat) : List Nat := (List.range n).filter fun y => decide (zR rows y ≠ 0) where
  zR (rows : List (List (Option Int))) (y : Nat) : Int := z0q ((rows[y]?).getD [])
end G
namespace L2
open G
abbrev Rws := List (List (Option Int))
def z12 (rows : Rws) (x y : Nat) : Option Int := (((rows[y]?).getD [])[x]?).join
def z1h (w h : Nat) (f : Nat -> Nat -> Option Int) : Rws := (List.range h).map fun y => (List.range w).map fun x => f x y
theorem z3q (w h : Nat) (f : Nat -> Nat -> Option Int) : (z1h w h f).length = h := by unfold z1h; rw [List.length_map, List.length_range]
theorem Rect.cell {w h : Nat} {rows : Rws} (R : Rect w h rows) (x y : Nat) : Cell (z12 rows x y) := by
  unfold z12
  cases hy : rows[y]? with
  | none => exact fun z e => nomatch e
  | some r =>
    show Cell ((r[x]?).join)
    cases hx : r[x]? with
    | none => exact fun z e => nomatch e
    | some c => exact (R.row r (List.mem_of_getElem? hy)).2 c (List.mem_of_getElem? hx)
theorem z1i {w h : Nat} {f : Nat -> Nat -> Option Int} (h1 : 1 <= h) (h2 : h <= 64) (w1 : 1 <= w) (w2 : w <= 64) (hc : ∀ x y, Cell (f x y)) : Rect w h (z1h w h f) :=
  ⟨z3q w h f, h1, h2, w1, w2, fun r hr => by
    unfold z1h at hr
    obtain ⟨y, _, rfl⟩ := List.mem_map.mp hr
    refine ⟨by rw [List.length_map, List.length_range], fun c hc' => ?_⟩
    obtain ⟨x, _, rfl⟩ := List.mem_map.mp hc'
    exact hc x y⟩
def z5Q (w h : Nat) (rows : Rws) : Rws := z1h h w fun x y => z12 rows y (h - 1 - x)
def z83 (w h : Nat) (rows : Rws) : Rws := z1h w h fun x y => z12 rows (w - 1 - x) y
def z7A (w h : Nat) (rows : Rws) : Rws := z1h w h fun x y => z12 rows x (h - 1 - y)
theorem Rect.turn {w h : Nat} {rows : Rws} (R : Rect w h rows) : Rect h w (z5Q w h rows) := z1i R.w1 R.w2 R.h1 R.h2 fun _ _ => R.cell _ _
theorem Rect.upd {w h : Nat} {rows : Rws} (R : Rect w h rows) : Rect w h (z7A w h rows) := z1i R.h1 R.h2 R.w1 R.w2 fun _ _ => R.cell _ _
end L2
namespace L2
open PySem PySem.Spec PyProof.Rows G
def z84 (i j : Int) : Prop := 0 <= j /\ j <= 1000000 /\ i.natAbs < 2 ^ 1000
def rowAt (rows : List (List (Option Int))) (y : Int) : List (Option Int) := if 0 <= y then (rows[y.toNat]?).getD [] else []
def zAt (zs : List Int) (y : Int) : Int := if 0 <= y then (zs[y.toNat]?).getD 0 else 0
def z85 (rows : List (List (Option Int))) (x y : Int) (w : Nat) : List (Option Int) := (List.range w).map fun (i : Nat) => atR (rowAt rows y) (x + (i : Int))
def cutRows (rows : List (List (Option Int))) (x y : Int) (w h : Nat) : List (List (Option Int)) := (List.range h).map fun (j : Nat) => z85 rows x (y + (j : Int)) w
def z5R : Sp := fun vs H Q _ => ∃ (t : Addr) (zs : List Int) (y : Int), vs = [.ref t, .int y] /\ H t = some (.tup (zs.map V.int)) /\ Q (.int (zAt zs y)) H
def z5S : Sp := fun vs H Q _ => ∃ b a m : Int, vs = [.int b, .int a, .int m] /\ 0 <= b /\ b < 2 ^ 256 /\ -1000 <= a /\ a <= 1000 /\ 0 <= m /\ m <= 1000 /\ Q (.int (z82 b a m)) H
def z86 : Sp := fun vs H Q _ => ∃ p x y w h rows w' h', vs = [.ref p, .int x, .int y, .int w', .int h'] /\ PicAt H p w rows /\ Rect w h rows /\ 1 <= w' /\ w' <= 64 /\ 1 <= h' /\ h' <= 64 /\
  ∀ q H', Same H H' -> PicAt H' q w'.toNat (cutRows rows x y w'.toNat h'.toNat) -> Q (.ref q) H'
end L2
namespace L2
open PySem PySem.Spec PyProof.Rows G
structure Made (H H2 : Hp) (f : Nat -> List (Option Int)) (i : Nat) (qs : List Addr) : Prop where
  same : Same H H2
  len : qs.length = i
  fr : ∀ q ∈ qs, H q = none
  at' : ∀ (j : Nat) q, qs[j]? = some q -> H2 q = some (.lst ((f j).map z0b))
  nd : qs.Nodup
theorem Made.nil {H : Hp} {f : Nat -> List (Option Int)} : Made H H f 0 [] := ⟨Same.refl _, rfl, (fun _ h => nomatch h), (fun _ _ h => nomatch h), List.nodup_nil⟩
theorem Made.push {H H2 H3 : Hp} {f : Nat -> List (Option Int)} {i : Nat} {qs : List Addr} {l : Addr} (M : Made H H2 f i qs) (s : Same H2 H3) (n : H2 l = none) (g : H3 l = some (.lst ((f i).map z0b))) : Made H H3 f (i + 1) (qs ++ [l]) where
  same := M.same.trans s
  len := by rw [List.length_append, M.len]; rfl
  fr := fun q hq => by
    rcases List.mem_append.mp hq with h | h
    . exact M.fr q h
    . rw [List.mem_singleton.mp h]
      exact M.same.free n
  at' := fun j q e => by
    have hl := M.len
    by_cases hj : j < qs.length
    . rw [List.getElem?_append_left hj] at e
      exact s _ _ (M.at' j q e)
    . rw [List.getElem?_append_right (by omega)] at e
      cases hk : j - qs.length with
      | zero =>
        rw [hk] at e
        cases e
        have ej : j = i := by omega
        rw [ej]
        exact g
      | succ n =>
        rw [hk] at e
        cases e
  nd := by
    refine List.nodup_append.mpr ⟨M.nd, by simp, fun q hq r hr e => ?_⟩
    rw [List.mem_singleton.mp hr] at e
    obtain ⟨j, hj, ej⟩ := List.mem_iff_getElem.mp hq
    have := M.at' j q (by rw [List.getElem?_eq_getElem hj, ej])
    rw [e, n] at this
    cases this
theorem Made.rows {H H2 : Hp} {f : Nat -> List (Option Int)} {n : Nat} {qs : List Addr} {l : Addr} (M : Made H H2 f n qs) (nl : H2 l = none) : RowsB H (upd H2 l (.lst (qs.map V.ref))) l qs ((List.range n).map f) where
  same := M.same.trans (Same.new nl)
  fl := M.same.free nl
  fp := fun p hp => ⟨M.fr p hp, fun e => by
    obtain ⟨j, hj, ej⟩ := List.mem_iff_getElem.mp hp
    have := M.at' j p (by rw [List.getElem?_eq_getElem hj, ej])
    rw [e, nl] at this
    cases this⟩
  rat := ⟨z05, by rw [M.len, List.length_map, List.length_range], fun i p r e1 e2 => by
    have hi : i < n := by
      have := (List.getElem?_eq_some_iff.mp e1).1
      have := M.len
      omega
    rw [List.getElem?_map, List.getElem?_range hi] at e2
    cases e2
    exact (Same.new nl) _ _ (M.at' i p e1)⟩
theorem PicAt.of {H : Hp} {p : Addr} {w : Nat} {rows rows' : List (List (Option Int))} (h : PicAt H p w rows) (e : rows = rows') : PicAt H p w rows' := e ▸ h
def z8n : Sp := fun vs H Q _ => ∃ (l : Addr) (ps : List Addr) (rows : List (List (Option Int))) (w h : Nat), vs = [.int (w : Int), .ref l] /\ RowsAt H l ps rows /\ Rect w h rows /\ ∀ p H', Same H H' -> H p = none -> PicAt H' p w rows -> Q (.ref p) H'
def z6L : Sp := fun vs H Q _ => ∃ (l : Addr) (x : Nat) (ps : List Addr) (rows : List (List (Option Int))) (w h : Nat), vs = [.ref l, .int (x : Int)] /\ RowsAt H l ps rows /\ Rect w h rows /\ x < w /\ ∀ l' H', Same H H' -> H l' = none -> H' l' = some (.lst (((List.range h).map fun i => z12 rows x (h - 1 - i)).map z0b)) -> Q (.ref l') H'
def z5k : Sp := fun vs H Q _ => ∃ p w h rows, vs = [.ref p] /\ PicAt H p w rows /\ Rect w h rows /\ ∀ q H', Same H H' -> PicAt H' q h (z5Q w h rows) -> Q (.ref q) H'
def z4u : Sp := fun vs H Q _ => ∃ p w h rows, vs = [.ref p] /\ PicAt H p w rows /\ Rect w h rows /\ ∀ q H', Same H H' -> PicAt H' q w (z83 w h rows) -> Q (.ref q) H'
def z5T : Sp := fun vs H Q _ => ∃ p w h rows, vs = [.ref p] /\ PicAt H p w rows /\ Rect w h rows /\ ∀ q H', Same H H' -> PicAt H' q w (z7A w h rows) -> Q (.ref q) H'
theorem RowsAt.cell {H : Hp} {l : Addr} {ps : List Addr} {rows : List (List (Option Int))} {w h : Nat} (a : RowsAt H l ps rows) (R : Rect w h rows) {x y : Nat} (hx : x < w) (hy : y < h) :
    ∃ p xs, ps[y]? = some p /\ L2.atI (ps.map V.ref) (y : Int) = some (.ref p) /\ H p = some (.lst xs) /\ L2.atI xs (x : Int) = some (z0b (z12 rows x y)) := by
  have hR := R.len
  have hl : y < rows.length := by omega
  obtain ⟨p, e0, g⟩ := a.at hl
  have e1 : L2.atI (ps.map V.ref) (y : Int) = some (.ref p) := z1C (by rw [List.getElem?_map, e0]; rfl)
  have hw := (R.row0 hl).1
  refine ⟨p, _, e0, e1, g, z1C ?_⟩
  have e : z12 rows x y = (rows[y]'hl)[x]'(by omega) := by
    unfold z12
    rw [List.getElem?_eq_getElem hl]
    show ((rows[y]'hl)[x]?).join = _
    rw [List.getElem?_eq_getElem (by omega)]
    rfl
  rw [List.getElem?_map, List.getElem?_eq_getElem (by omega), e]
  rfl
abbrev z87 (h : Heap) (T : Addr) (x y v : Value) : Prop := h.get? T = some { cls := .type "tuple", data := .seq #[x, y, v] }
structure Ap3 (z TI TO i1 i2 i3 l1 l2 l3 : Addr) : Prop where
  TIz : TI ≠ z
  TOz : TO ≠ z
  i1z : i1 ≠ z
  i2z : i2 ≠ z
  i3z : i3 ≠ z
  TITO : TI ≠ TO
  TIi1 : TI ≠ i1
  TIi2 : TI ≠ i2
  TIi3 : TI ≠ i3
  TOi1 : TO ≠ i1
  TOi2 : TO ≠ i2
  TOi3 : TO ≠ i3
  i12 : i1 ≠ i2
  i13 : i1 ≠ i3
  i23 : i2 ≠ i3
  l1z : l1 ≠ z
  l2z : l2 ≠ z
  l3z : l3 ≠ z
  l2i1 : l2 ≠ i1
  l2TO : l2 ≠ TO
  l3i1 : l3 ≠ i1
  l3i2 : l3 ≠ i2
  l3TO : l3 ≠ TO
section
variable {prog : Program} {w : World} {A : Around} {E : Value -> Shared -> Prop} {s : Shared}
abbrev zw1 (h : Heap) (l1 : Addr) : Heap := h.push { cls := .type "tuple_iterator", data := .fields #[.ref l1, .int 0 0] }
abbrev zw2 (h : Heap) (l1 l2 : Addr) : Heap := (zw1 h l1).push { cls := .type "tuple_iterator", data := .fields #[.ref l2, .int 0 0] }
abbrev zw3 (h : Heap) (l1 l2 l3 : Addr) : Heap := (zw2 h l1 l2).push { cls := .type "tuple_iterator", data := .fields #[.ref l3, .int 0 0] }
abbrev zw4 (h : Heap) (l1 l2 l3 : Addr) : Heap := (zw3 h l1 l2 l3).push { cls := .type "tuple", data := .seq #[.ref h.objs.size, .ref (zw1 h l1).objs.size, .ref (zw2 h l1 l2).objs.size] }
abbrev zw5 (h : Heap) (l1 l2 l3 : Addr) : Heap := (zw4 h l1 l2 l3).push { cls := .type "tuple", data := .seq #[.none, .none, .none] }
abbrev zw6 (h : Heap) (l1 l2 l3 : Addr) : Heap := (zw5 h l1 l2 l3).push { cls := .type "zip", data := .fields #[.none, .bool false, .bool false, .ref (zw3 h l1 l2 l3).objs.size, .ref (zw4 h l1 l2 l3).objs.size] }
end
def Itw (K : PySem.W.Frag) (a b c : Addr) (xs ys zs : List V) : It :=
  ⟨fun i H => SqT K H a xs /\ SqT K H b ys /\ SqT K H c zs /\ i < xs.length /\ i < ys.length /\ i < zs.length, fun i H x H' => ∃ T u v r, H T = none /\ x = .ref T /\ H' = upd H T (.tup [u, v, r]) /\ xs[i]? = some u /\ ys[i]? = some v /\ zs[i]? = some r,
    fun i H => SqT K H a xs /\ xs.length <= i⟩
section
variable {X : Cx}
def z88 (K : PySem.W.Frag) (ta : TA) : TI := fun σ H R => ta σ H fun vs H1 => ∃ a b c xs ys zs, vs = [.ref a, .ref b, .ref c] /\ SqT K H1 a xs /\ SqT K H1 b ys /\ SqT K H1 c zs /\ R (Itw K a b c xs ys zs) H1
end
section
variable {X : Cx}
def z8o (K : PySem.W.Frag) : R2 := fun x y H Q => ∃ (a b : Addr) (xs : List V), x = .ref a /\ y = .ref b /\ SqL K H a xs /\ SqL K H b [] /\ Q (.bl (decide (xs.length = 0))) H
end
structure Df2 (K : PySem.W.Frag) (mg : Str -> Option Value) (x : Str) (st : Stmt) (ps : List Str) (f : Addr) (fd : FuncData) (T : Addr) (d e : Int) : Prop where
  F : FunD K x x st f fd T
  b : Binds K fd ps []
  b1 : ∃ t, Binds K fd ps [.int e t]
  b2 : ∃ t u, Binds K fd ps [.int d t, .int e u]
  m : mg x = some (.ref f)
section
variable {P : Program} {w : World} {K : PySem.W.Frag} {mg : Str -> Option Value} {base : Heap} {x : Str} {st : Stmt} {ps : List Str} {f T : Addr} {fd : FuncData} {k : Nat} {sp : Sp} {d e : Int}
theorem Df2.ow (D : Df2 K mg x st ps f fd T d e) (F : FnOk P w K mg base CX0 k f fd ps sp) : Ow P w K mg base x ps k sp := ⟨f, fd, D.m, D.F.kp, D.b, F⟩
end
end L2
namespace L2
open PySem PySem.Spec PyProof.Rows G
def z4d : Sp := fun vs H Q _ => ∃ w lo up m : Int, vs = [.int w, .int lo, .int up, .int m] /\ 0 <= w /\ w <= 64 /\ 0 <= m /\ Q (.int (Builtin.bitOr (Builtin.bitAnd lo (Builtin.bitNot (roomI w.toNat m))) up)) H
def z3E (us cs : Rws) : Rws := List.zipWith layR us cs
def llR (w w2 h2 : Nat) (rows rows2 : Rws) (x y : Int) (j : Nat) : List (Option Int) := (List.range w).map fun (i : Nat) => (look w2 h2 rows2 ((i : Int) - x) ((j : Int) - y)).or (z12 rows i j)
def z7B : Sp := fun vs H Q _ => ∃ (p o : Addr) (x y : Int) (w h w2 h2 : Nat) (rows rows2 : Rws), vs = [.ref p, .ref o, .int x, .int y] /\ PicAt H p w rows /\ Rect w h rows /\ PicAt H o w2 rows2 /\ Rect w2 h2 rows2 /\
  ∀ q H', Same H H' -> PicAt H' q w (z3E rows (cutRows rows2 (-x) (-y) w h)) -> Q (.ref q) H'
def z6M : Sp := fun vs H Q _ => ∃ (l m : Addr) (x y : Int) (w h w2 h2 : Nat) (ps ps2 : List Addr) (rows rows2 : Rws), vs = [.ref l, .ref m, .int x, .int y] /\ RowsAt H l ps rows /\ Rect w h rows /\ RowsAt H m ps2 rows2 /\ Rect w2 h2 rows2 /\
  ∀ l' ps' H', Same H H' -> RowsAt H' l' ps' (z3E rows (cutRows rows2 (-x) (-y) w h)) -> Q (.ref l') H'
def z7C : Sp := fun vs H Q _ => ∃ (p : Addr) (w h : Nat) (rows : Rws), vs = [.ref p] /\ PicAt H p w rows /\ Rect w h rows /\ Q (.int (z0q (z3D w rows))) H
def z7D (w : Nat) (rows : Rws) : Option (List Int) := if z0q (z3D w rows) = 0 then none else some [(loI (z3D w rows) : Int), (loI (anyR rows) : Int), (hiI (z3D w rows) : Int) - (loI (z3D w rows) : Int), (hiI (anyR rows) : Int) - 1 - (loI (anyR rows) : Int) + 1]
def BoxV (H : Hp) (v : V) : Option (List Int) -> Prop
  | none => v = .non
  | some zs => ∃ t, v = .ref t /\ H t = some (.tup (zs.map V.int))
theorem BoxV.mono {H H' : Hp} {v : V} {b : Option (List Int)} (s : Same H H') (h : BoxV H v b) : BoxV H' v b := by
  cases b with
  | none => exact h
  | some zs => obtain ⟨t, e, g⟩ := h; exact ⟨t, e, s _ _ g⟩
def z89 : Sp := fun vs H Q _ => ∃ (p : Addr) (w h : Nat) (rows : Rws), vs = [.ref p] /\ PicAt H p w rows /\ Rect w h rows /\ ∀ v H', Same H H' -> BoxV H' v (z7D w rows) -> Q v H'
def z7E : Sp := fun vs H Q _ => ∃ (l : Addr) (ps : List Addr) (w h : Nat) (rows : Rws), vs = [.ref l] /\ RowsAt H l ps rows /\ Rect w h rows /\ ∀ v H', Same H H' -> BoxV H' v (z7D w rows) -> Q v H'
def pt (rows : Rws) (x y : Nat) : Prop := (z12 rows x y).isSome = true
theorem z6N {w h : Nat} {rows : Rws} (R : Rect w h rows) {x y : Nat} (p : pt rows x y) : x < w /\ y < h := by
  have hR := R.len
  unfold pt z12 at p
  cases hr : rows[y]? with
  | none =>
    rw [hr] at p
    have p' : ((([] : List (Option Int))[x]?).join).isSome = true := p
    cases x <;> cases p'
  | some r =>
    rw [hr] at p
    have hw := (R.row r (List.mem_of_getElem? hr)).1
    have hy := (List.getElem?_eq_some_iff.mp hr).1
    have hx := z5P (r := r) (i := x) p
    omega
structure Gone (w : Nat) (rows : Rws) (y x : Nat) (A D : List Int) : Prop where
  len : A.length = D.length
  small : A.length <= y * w + x
  a : ∀ z, z ∈ A ↔ ∃ x' y' : Nat, (y' < y \/ (y' = y /\ x' < x)) /\ pt rows x' y' /\ z = (x' : Int)
  d : ∀ z, z ∈ D ↔ ∃ x' y' : Nat, (y' < y \/ (y' = y /\ x' < x)) /\ pt rows x' y' /\ z = (y' : Int)
theorem Gone.nil {w : Nat} {rows : Rws} : Gone w rows 0 0 [] [] :=
  ⟨rfl, Nat.zero_le _, fun z => ⟨(fun h => nomatch h), fun ⟨x', y', h, _⟩ => by omega⟩, fun z => ⟨(fun h => nomatch h), fun ⟨x', y', h, _⟩ => by omega⟩⟩
theorem Gone.hole {w : Nat} {rows : Rws} {y x : Nat} {A D : List Int} (g : Gone w rows y x A D) (n : z12 rows x y = none) : Gone w rows y (x + 1) A D := by
  have np : ¬ pt rows x y := fun p => by unfold pt at p; rw [n] at p; cases p
  have key : ∀ x' y' : Nat, pt rows x' y' -> ((y' < y \/ (y' = y /\ x' < x)) ↔ (y' < y \/ (y' = y /\ x' < x + 1))) := fun x' y' p => by
    constructor
    . rintro (h | ⟨h1, h2⟩)
      . exact .inl h
      . exact .inr ⟨h1, by omega⟩
    . rintro (h | ⟨h1, h2⟩)
      . exact .inl h
      . by_cases e : x' = x
        . rw [e, h1] at p
          exact absurd p np
        . exact .inr ⟨h1, by omega⟩
  refine ⟨g.len, by have := g.small; omega, fun z => (g.a z).trans ⟨?_, ?_⟩, fun z => (g.d z).trans ⟨?_, ?_⟩⟩
  all_goals
    rintro ⟨x', y', h, p, e⟩
    exact ⟨x', y', by first | exact (key x' y' p).mp h | exact (key x' y' p).mpr h, p, e⟩
theorem Gone.put {w : Nat} {rows : Rws} {y x : Nat} {A D : List Int} (g : Gone w rows y x A D) {c : Int} (n : z12 rows x y = some c) : Gone w rows y (x + 1) (A ++ [(x : Int)]) (D ++ [(y : Int)]) := by
  have p0 : pt rows x y := by unfold pt; rw [n]; rfl
  have l := g.len
  refine ⟨by rw [List.length_append, List.length_append, l]; rfl, by rw [List.length_append]; have := g.small; show _ + 1 <= _; omega, fun z => ?_, fun z => ?_⟩
  . rw [List.mem_append, g.a z, List.mem_singleton]
    constructor
    . rintro (⟨x', y', h, p, e⟩ | e)
      . exact ⟨x', y', by omega, p, e⟩
      . exact ⟨x, y, by omega, p0, e⟩
    . rintro ⟨x', y', h, p, e⟩
      by_cases q : y' < y \/ (y' = y /\ x' < x)
      . exact .inl ⟨x', y', q, p, e⟩
      . have : x' = x := by omega
        rw [this] at e
        exact .inr e
  . rw [List.mem_append, g.d z, List.mem_singleton]
    constructor
    . rintro (⟨x', y', h, p, e⟩ | e)
      . exact ⟨x', y', by omega, p, e⟩
      . exact ⟨x, y, by omega, p0, e⟩
    . rintro ⟨x', y', h, p, e⟩
      by_cases q : y' < y \/ (y' = y /\ x' < x)
      . exact .inl ⟨x', y', q, p, e⟩
      . have : y' = y := by omega
        rw [this] at e
        exact .inr e
theorem Gone.row {w h : Nat} {rows : Rws} (R : Rect w h rows) {y : Nat} {A D : List Int} (g : Gone w rows y w A D) : Gone w rows (y + 1) 0 A D := by
  have key : ∀ x' y' : Nat, pt rows x' y' -> ((y' < y \/ (y' = y /\ x' < w)) ↔ (y' < y + 1 \/ (y' = y + 1 /\ x' < 0))) := fun x' y' p => by
    have := (z6N R p).1
    omega
  refine ⟨g.len, by have := g.small; rw [Nat.add_mul]; omega, fun z => (g.a z).trans ⟨?_, ?_⟩, fun z => (g.d z).trans ⟨?_, ?_⟩⟩
  all_goals
    rintro ⟨x', y', h, p, e⟩
    exact ⟨x', y', by first | exact (key x' y' p).mp h | exact (key x' y' p).mpr h, p, e⟩
end L2
namespace L2
open PySem PySem.Spec PyProof.Rows G
def z1G (K : PySem.W.Frag) : Sp := fun vs H Q _ => ∃ (a : Addr) (ns : List Int) (k p m : Int), vs = [.ref a, .int k, .int p, .int m] /\ SqL K H a (ns.map V.int) /\ 0 <= k /\ k < 1000000 /\ 0 < p /\ 0 < m /\ ∀ r, 0 <= r -> r < m -> Q (.int r) H
def z6O (K : PySem.W.Frag) : Sp := fun vs H Q _ => ∃ (a : Addr) (ns : List Int) (k : Int), vs = [.ref a, .int k] /\ SqL K H a (ns.map V.int) /\ 0 <= k /\ k < 100000 /\ ∀ c, Cell c -> Q (z0b c) H
def z6P : Sp := fun vs H Q _ => ∃ (p d : Addr) (w h : Nat) (rows : Rws), vs = [.ref p, .ref d] /\ PicAt H p w rows /\ PicAt H d w rows /\ Rect w h rows /\ ∀ H', Same H H' -> Q (.bl true) H'
def z5U (w h : Nat) (rows : Rws) (dx dy : Int) : Rws := z1h w h fun i j => look w h rows ((i : Int) + dx) ((j : Int) + dy)
def z7F : Sp := fun vs H Q _ => ∃ (p : Addr) (w h : Nat) (rows : Rws) (dx dy : Int), vs = [.ref p, .int dx, .int dy] /\ PicAt H p w rows /\ Rect w h rows /\ ∀ q H', Same H H' -> PicAt H' q w (z5U w h rows dx dy) -> Q (.ref q) H'
def z7G : Sp := fun vs H Q _ => ∃ (l : Addr) (ps : List Addr) (w h : Nat) (rows : Rws) (dx dy : Int), vs = [.ref l, .int dx, .int dy] /\ RowsAt H l ps rows /\ Rect w h rows /\ ∀ q H', Same H H' -> PicAt H' q w (z5U w h rows dx dy) -> Q (.ref q) H'
abbrev Bx := Int × Int × Int × Int
def bxV (b : Bx) : List V := [.int b.1, .int b.2.1, .int b.2.2.1, .int b.2.2.2]
def z8A (b : Bx) (i j : Int) : Bool := (decide (b.1 <= i) && decide (i < b.1 + b.2.2.1)) && (decide (b.2.1 <= j) && decide (j < b.2.1 + b.2.2.2))
def z8B (w h : Nat) (dx dy : Int) (i j : Int) : Bool := !(decide (0 <= i + dx) && decide (i + dx < w)) || !(decide (0 <= j + dy) && decide (j + dy < h))
def z7H (w h : Nat) (b : Bx) : Prop := 1 <= b.2.2.1 /\ 1 <= b.2.2.2 /\ 0 <= b.1 /\ 0 <= b.2.1 /\ b.1 + b.2.2.1 <= w /\ b.2.1 + b.2.2.2 <= h
structure FreshOk (w h : Nat) (dx dy : Int) (bs : List Bx) : Prop where
  len : bs.length <= 2
  box : ∀ b ∈ bs, z7H w h b
  cnt : ∀ i j : Nat, i < w -> j < h -> bs.countP (fun b => z8A b i j) = if z8B w h dx dy i j = true then 1 else 0
structure BxsAt (H : Hp) (l : Addr) (ts : List Addr) (bs : List Bx) : Prop where
  lst : H l = some (.lst (ts.map V.ref))
  len : ts.length = bs.length
  at' : ∀ (i : Nat) t b, ts[i]? = some t -> bs[i]? = some b -> H t = some (.tup (bxV b))
theorem BxsAt.mono {H H' : Hp} {l : Addr} {ts : List Addr} {bs : List Bx} (s : Same H H') (h : BxsAt H l ts bs) : BxsAt H' l ts bs := ⟨s _ _ h.lst, h.len, fun i t b e1 e2 => s _ _ (h.at' i t b e1 e2)⟩
def z6Q : Sp := fun vs H Q _ => ∃ (w h : Nat) (dx dy : Int), vs = [.int w, .int h, .int dx, .int dy] /\ 1 <= w /\ w <= 64 /\ 1 <= h /\ h <= 64 /\ ∀ l ts bs H', Same H H' -> H l = none -> BxsAt H' l ts bs -> FreshOk w h dx dy bs -> Q (.ref l) H'
def z5l : Sp := fun vs H Q _ => ∃ (t : Addr) (b : Bx) (w h : Nat), vs = [.ref t, .int w, .int h] /\ H t = some (.tup (bxV b)) /\ z7H w h b /\ ∀ H', Same H H' -> Q (.bl true) H'
def z5m : Sp := fun vs H Q _ => ∃ (l : Addr) (ts : List Addr) (bs : List Bx) (w h : Nat) (dx dy : Int), vs = [.ref l, .int w, .int h, .int dx, .int dy] /\ w <= 64 /\ h <= 64 /\ BxsAt H l ts bs /\ FreshOk w h dx dy bs /\ ∀ H', Same H H' -> Q (.bl true) H'
def z7I (K : PySem.W.Frag) : Sp := fun vs H Q _ => ∃ (a : Addr) (ns : List Int) (k s : Int), vs = [.ref a, .int k, .int s] /\ SqL K H a (ns.map V.int) /\ 0 <= k /\ k < 1000 /\ 0 <= s /\ s <= 64 /\ ∀ z, Q (.int z) H
end L2
namespace L2
open PySem PySem.Spec PyProof.Rows G
def z4v (z : Int) : Int := if z < 0 then -z else z
def bxA (w h : Nat) (dx : Int) : List Bx := if 0 < z4v dx then [(if 0 < dx then (w : Int) - dx else 0, 0, z4v dx, (h : Int))] else []
def bxB (w h : Nat) (dx dy : Int) : List Bx := if 0 < z4v dy then [(if 0 < dx then 0 else z4v dx, if 0 < dy then (h : Int) - dy else 0, (w : Int) - z4v dx, z4v dy)] else []
def Sc (x : V) : Prop := x = .non \/ (∃ b, x = .bl b) \/ (∃ i, x = .int i) \/ (∃ z, x = .str z) \/ ∃ a, x = .ref a
theorem Sc.int (i : Int) : Sc (.int i) := .inr (.inr (.inl ⟨i, rfl⟩))
theorem Sc.non : Sc .non := .inl rfl
theorem Sc.str (z : Str) : Sc (.str z) := .inr (.inr (.inr (.inl ⟨z, rfl⟩)))
theorem Sc.ref (a : Addr) : Sc (.ref a) := .inr (.inr (.inr (.inr ⟨a, rfl⟩)))
def Eqv : Nat -> Hp -> V -> V -> Prop
  | 0, _, x, y => x = y /\ Sc x
  | n + 1, H, x, y => (x = y /\ Sc x) \/ ∃ a b xs ys, x = .ref a /\ y = .ref b /\ ((H a = some (.lst xs) /\ H b = some (.lst ys)) \/ (H a = some (.tup xs) /\ H b = some (.tup ys))) /\ xs.length = ys.length /\ ∀ (i : Nat) u v, xs[i]? = some u -> ys[i]? = some v -> Eqv n H u v
theorem Eqv.same {n : Nat} {H : Hp} {x : V} (h : Sc x) : Eqv n H x x := by
  cases n with
  | zero => exact ⟨rfl, h⟩
  | succ n => exact .inl ⟨rfl, h⟩
theorem Eqv.mono {H H' : Hp} (s : Same H H') : ∀ {n : Nat} {x y : V}, Eqv n H x y -> Eqv n H' x y
  | 0, _, _, h => h
  | n + 1, _, _, h => by
    rcases h with h | ⟨a, b, xs, ys, e1, e2, e3, e5, e6⟩
    . exact .inl h
    . refine .inr ⟨a, b, xs, ys, e1, e2, ?_, e5, fun i u v h1 h2 => (e6 i u v h1 h2).mono s⟩
      rcases e3 with ⟨p, q⟩ | ⟨p, q⟩
      . exact .inl ⟨s _ _ p, s _ _ q⟩
      . exact .inr ⟨s _ _ p, s _ _ q⟩
theorem z1j : ∀ {xs : List V} {its : List Value} {j : Nat} {v : Value}, Vals xs its -> its[j]? = some v -> ∃ x, xs[j]? = some x /\ RelV x v
  | _, _, _, _, .nil, e => by simp at e
  | _, _, 0, _, .cons r _, e => by
    simp at e
    exact ⟨_, rfl, e ▸ r⟩
  | _, _, j + 1, _, .cons _ rs, e => z1j (j := j) rs (by simpa using e)
theorem z5V {A : Around} {k : Nat} (hr : Room k A) : A.units + 9 < cLine := by
  have := hr.un
  omega
section
variable {X : Cx} {pins : List (Addr × Obj)} {σ : St} {H : Hp} {s : Shared} {A : Around}
theorem z29 {a b : Addr} {xs ys : List V} (hu : A.units < cLine) (I : Inv X pins σ H s) (ha : H a = some (.lst xs)) (hb : H b = some (.lst ys)) (hl : xs.length = ys.length)
    (he : ∀ (j : Nat) x y vx vy, xs[j]? = some x -> ys[j]? = some y -> RelV x vx -> RelV y vy -> SeqAt.EqAt A.in1 s vx vy true) : SeqAt.RcAt A s (.ref a) (.ref b) true /\ SeqAt.RcNeAt A s (.ref a) (.ref b) false := by
  obtain ⟨its, r1, p1, _⟩ := I.list (SqL.of ha)
  obtain ⟨its2, r2, p2, _⟩ := I.list (SqL.of hb)
  have l1 := r1.length
  have l2 := r2.length
  have hsz : its.toArray.size = its2.toArray.size := by rw [List.size_toArray, List.size_toArray]; omega
  have hx : ∀ (j : Nat) (h1 : j < its.toArray.size) (h2 : j < its2.toArray.size), SeqAt.EqAt A.in1 s its.toArray[j] its2.toArray[j] ((fun _ => true) j) := fun j h1 h2 => by
    have i1 : j < its.length := by simpa using h1
    have i2 : j < its2.length := by simpa using h2
    obtain ⟨x, ex, rx⟩ := z1j r1 (List.getElem?_eq_getElem i1)
    obtain ⟨y, ey, ry⟩ := z1j r2 (List.getElem?_eq_getElem i2)
    have := he j x y _ _ ex ey rx ry
    simpa using this
  have e : ((List.range its.toArray.size).all fun _ => true) = true := by simp
  have q1 := SeqAt.RcAt.lists (A := A) (s := s) (e := fun _ => true) p1.isList p2.isList hsz hu hx
  have q2 := SeqAt.RcNeAt.lists (A := A) (s := s) (e := fun _ => true) p1.isList p2.isList hsz hu hx
  rw [e] at q1 q2
  exact ⟨q1, q2⟩
theorem z3F {a b : Addr} {xs ys : List V} (hu : A.units < cLine) (I : Inv X pins σ H s) (ha : H a = some (.tup xs)) (hb : H b = some (.tup ys)) (hl : xs.length = ys.length)
    (he : ∀ (j : Nat) x y vx vy, xs[j]? = some x -> ys[j]? = some y -> RelV x vx -> RelV y vy -> SeqAt.EqAt A.in1 s vx vy true) : SeqAt.RcAt A s (.ref a) (.ref b) true /\ SeqAt.RcNeAt A s (.ref a) (.ref b) false := by
  obtain ⟨its, r1, p1, _⟩ := I.tuple (SqT.of ha)
  obtain ⟨its2, r2, p2, _⟩ := I.tuple (SqT.of hb)
  have l1 := r1.length
  have l2 := r2.length
  have hx : ∀ (j : Nat) (h1 : j < its.toArray.size) (h2 : j < its2.toArray.size), SeqAt.EqAt A.in1 s its.toArray[j] its2.toArray[j] ((fun _ => true) j) := fun j h1 h2 => by
    have i1 : j < its.length := by simpa using h1
    have i2 : j < its2.length := by simpa using h2
    obtain ⟨x, ex, rx⟩ := z1j r1 (List.getElem?_eq_getElem i1)
    obtain ⟨y, ey, ry⟩ := z1j r2 (List.getElem?_eq_getElem i2)
    have := he j x y _ _ ex ey rx ry
    simpa using this
  have e1 : ((List.range (min its.toArray.size its2.toArray.size)).all (fun _ => true) && its.toArray.size == its2.toArray.size) = true := by
    rw [List.size_toArray, List.size_toArray, <- l1, <- l2, hl]
    simp
  have q1 := SeqAt.RcAt.tuples (A := A) (s := s) (e := fun _ => true) p1 p2 hu hx
  have q2 := SeqAt.RcNeAt.tuples (A := A) (s := s) (e := fun _ => true) p1 p2 hu hx
  rw [e1] at q1 q2
  exact ⟨q1, q2⟩
theorem z5W {n : Nat} : ∀ {A : Around} {x y : V} {vx vy : Value}, A.units + n < cLine -> Inv X pins σ H s -> Eqv n H x y -> RelV x vx -> RelV y vy -> SeqAt.EqAt A s vx vy true := by
  have z58 : ∀ {A : Around} {x : V} {vx vy : Value}, Sc x -> RelV x vx -> RelV x vy -> SeqAt.EqAt A s vx vy true := fun {A x vx vy} h rx ry => by
    rcases h with rfl | ⟨b, rfl⟩ | ⟨i, rfl⟩ | ⟨z, rfl⟩ | ⟨a, rfl⟩
    . cases (show vx = Value.none from rx)
      cases (show vy = Value.none from ry)
      exact SeqAt.EqAt.same _
    . cases (show vx = Value.bool b from rx)
      cases (show vy = Value.bool b from ry)
      exact SeqAt.EqAt.same _
    . obtain ⟨t1, rfl⟩ := rx
      obtain ⟨t2, rfl⟩ := ry
      have := SeqAt.EqAt.int_int (A := A) (s := s) i t1 i t2
      rw [beq_self_eq_true] at this
      exact this
    . obtain ⟨t1, rfl⟩ := rx
      obtain ⟨t2, rfl⟩ := ry
      have := SeqAt.EqAt.str_str (A := A) (s := s) z t1 z t2
      rw [beq_self_eq_true] at this
      exact this
    . cases (show vx = Value.ref a from rx)
      cases (show vy = Value.ref a from ry)
      exact SeqAt.EqAt.same _
  induction n with
  | zero =>
    intro A x y vx vy hu I h rx ry
    obtain ⟨rfl, hs⟩ := h
    exact z58 hs rx ry
  | succ n ih =>
    intro A x y vx vy hu I h rx ry
    rcases h with ⟨rfl, hs⟩ | ⟨a, b, xs, ys, rfl, rfl, e3, e5, e6⟩
    . exact z58 hs rx ry
    . cases (show vx = Value.ref a from rx)
      cases (show vy = Value.ref b from ry)
      by_cases e : a = b
      . subst e
        exact SeqAt.EqAt.same _
      . refine SeqAt.EqAt.of_refs e ?_
        have hx : ∀ (j : Nat) x y vx vy, xs[j]? = some x -> ys[j]? = some y -> RelV x vx -> RelV y vy -> SeqAt.EqAt A.in1 s vx vy true := fun j x y vx vy h1 h2 r1 r2 => ih (A := A.in1) (show A.units + 1 + n < cLine by omega) I (e6 j x y h1 h2) r1 r2
        rcases e3 with ⟨p, q⟩ | ⟨p, q⟩
        . exact (z29 (by omega) I p q e5 hx).1
        . exact (z3F (by omega) I p q e5 hx).1
end
def EqT (n : Nat) (H : Hp) (x y : V) : Prop := ∃ a b xs ys, x = .ref a /\ y = .ref b /\ ((H a = some (.lst xs) /\ H b = some (.lst ys)) \/ (H a = some (.tup xs) /\ H b = some (.tup ys))) /\ xs.length = ys.length /\ ∀ (i : Nat) u v, xs[i]? = some u -> ys[i]? = some v -> Eqv n H u v
theorem EqT.mono {n : Nat} {H H' : Hp} {x y : V} (s : Same H H') (h : EqT n H x y) : EqT n H' x y := by
  obtain ⟨a, b, xs, ys, e1, e2, e3, e5, e6⟩ := h
  refine ⟨a, b, xs, ys, e1, e2, ?_, e5, fun i u v h1 h2 => (e6 i u v h1 h2).mono s⟩
  rcases e3 with ⟨p, q⟩ | ⟨p, q⟩
  . exact .inl ⟨s _ _ p, s _ _ q⟩
  . exact .inr ⟨s _ _ p, s _ _ q⟩
theorem EqT.tints {n : Nat} {H : Hp} {a b : Addr} {zs : List Int} (ha : H a = some (.tup (zs.map V.int))) (hb : H b = some (.tup (zs.map V.int))) : EqT n H (.ref a) (.ref b) := ⟨a, b, _, _, rfl, rfl, .inr ⟨ha, hb⟩, rfl, fun i u v h1 h2 => by
  rw [h1] at h2
  cases h2
  obtain ⟨z, rfl⟩ := z17 (List.mem_of_getElem? h1)
  exact Eqv.same (Sc.int z)⟩
theorem EqT.copy {n : Nat} {H : Hp} {a b : Addr} {xs : List V} (ha : H a = some (.lst xs)) (hb : H b = some (.lst xs)) (h : ∀ x ∈ xs, Sc x) : EqT n H (.ref a) (.ref b) := ⟨a, b, _, _, rfl, rfl, .inl ⟨ha, hb⟩, rfl, fun i u v h1 h2 => by
  rw [h1] at h2
  cases h2
  exact Eqv.same (h u (List.mem_of_getElem? h1))⟩
def z8C (n : Nat) : R2 := fun x y H Q => EqT n H x y /\ Q (.bl true) H
def z8p (n : Nat) : R2 := fun x y H Q => EqT n H x y /\ Q (.bl false) H
section
variable {X : Cx} {n : Nat}
theorem z5X (hu : X.A.units + 9 < cLine) (hn : n <= 8 := by decide) : OpR X (compareOp .Eq) (z8C n) := by
  intro pins s σ H x y v u Q I rx ry h0
  obtain ⟨⟨a, b, xs, ys, rfl, rfl, e3, e5, e6⟩, q⟩ := h0
  cases rx
  cases ry
  have hx : ∀ (j : Nat) x y vx vy, xs[j]? = some x -> ys[j]? = some y -> RelV x vx -> RelV y vy -> SeqAt.EqAt X.A.in1 s vx vy true := fun j x y vx vy h1 h2 r1 r2 => z5W (A := X.A.in1) (show X.A.units + 1 + n < cLine by omega) I (e6 j x y h1 h2) r1 r2
  rcases e3 with ⟨p, p2⟩ | ⟨p, p2⟩
  . exact (z29 (by omega) I p p2 e5 hx).1 X.prog X.w X.xe _ ⟨.bl _, H, I, rfl, q⟩
  . exact (z3F (by omega) I p p2 e5 hx).1 X.prog X.w X.xe _ ⟨.bl _, H, I, rfl, q⟩
end
def z1p (R f : Int) : Int := if f % (2 * R) <= R then f % (2 * R) else 2 * R - f % (2 * R)
def z5Y (st sp R bt : Int) : Int := if R = 0 then 0 else z1p R (st + bt * sp)
theorem z3G {R f a q : Int} (hR : 0 < R) (a0 : 0 <= a) (a1 : a <= R) (h : f = a + 2 * R * q \/ f = -a + 2 * R * q) : z1p R f = a := by
  unfold z1p
  rcases h with e | e
  . rw [e, Int.add_mul_emod_self_left, Int.emod_eq_of_lt a0 (by omega), if_pos a1]
  . by_cases z : a = 0
    . rw [e, Int.add_mul_emod_self_left, z]
      rw [if_pos (by simp; omega)]
      simp
    . have e2 : f = (2 * R - a) + 2 * R * (q - 1) := by
        rw [e, Int.mul_sub]
        omega
      rw [e2, Int.add_mul_emod_self_left, Int.emod_eq_of_lt (by omega) (by omega)]
      split
      . omega
      . omega
theorem z3r {R f : Int} (hR : 0 < R) (h : f / R % 2 = 0) : z1p R f = f % R := by
  have h1 := Int.emod_nonneg f (show R ≠ 0 by omega)
  have h2 := Int.emod_lt_of_pos f hR
  refine z3G (q := f / R / 2) hR h1 (by omega) (.inl ?_)
  have e := Int.mul_ediv_add_emod f R
  have e2 : f / R = 2 * (f / R / 2) := by omega
  have e3 : 2 * R * (f / R / 2) = R * (f / R) := by
    conv => rhs; rw [e2]
    rw [<- Int.mul_assoc, Int.mul_comm R 2]
  omega
theorem z4e {R f : Int} (hR : 0 < R) (h : ¬ f / R % 2 = 0) : z1p R f = R - f % R := by
  have h1 := Int.emod_nonneg f (show R ≠ 0 by omega)
  have h2 := Int.emod_lt_of_pos f hR
  refine z3G (q := f / R / 2 + 1) hR (by omega) (by omega) (.inr ?_)
  have e := Int.mul_ediv_add_emod f R
  have e2 : f / R = 2 * (f / R / 2) + 1 := by omega
  have e3 : 2 * R * (f / R / 2 + 1) = R * (f / R) + R := by
    conv => rhs; rw [e2]
    rw [Int.mul_add, Int.mul_add, <- Int.mul_assoc, Int.mul_comm R 2]
    omega
  omega
structure WInv (R s f a d : Int) : Prop where
  a0 : 0 <= a
  a1 : a <= R
  at' : ∃ q, (f = a + 2 * R * q /\ d = s) \/ (f = -a + 2 * R * q /\ d = -s)
theorem WInv.start {R s a : Int} (a0 : 0 <= a) (a1 : a <= R) : WInv R s a a s := ⟨a0, a1, 0, .inl ⟨by rw [Int.mul_zero, Int.add_zero], rfl⟩⟩
theorem WInv.on {R s f a d : Int} (hs : s = 1 \/ s = -1) (h : WInv R s f a d) (c0 : ¬ a + d < 0) (c1 : ¬ a + d > R) : WInv R s (f + s) (a + d) d := by
  obtain ⟨a0, a1, q, h⟩ := h
  refine ⟨by omega, by omega, q, ?_⟩
  rcases h with ⟨e1, e2⟩ | ⟨e1, e2⟩
  . exact .inl ⟨by omega, e2⟩
  . exact .inr ⟨by omega, e2⟩
theorem WInv.back {R s f a d : Int} (hR : 1 <= R) (hs : s = 1 \/ s = -1) (h : WInv R s f a d) (c : a + d < 0 \/ a + d > R) : WInv R s (f + s) (a + -d) (-d) := by
  obtain ⟨a0, a1, q, h⟩ := h
  have m1 : 2 * R * (q + 1) = 2 * R * q + 2 * R := by rw [Int.mul_add, Int.mul_one]
  have m2 : 2 * R * (q - 1) = 2 * R * q - 2 * R := by rw [Int.mul_sub, Int.mul_one]
  rcases h with ⟨e1, e2⟩ | ⟨e1, e2⟩
  . rcases c with c | c
    . exact ⟨by omega, by omega, q, .inr ⟨by omega, by omega⟩⟩
    . exact ⟨by omega, by omega, q + 1, .inr ⟨by omega, by omega⟩⟩
  . rcases c with c | c
    . exact ⟨by omega, by omega, q, .inl ⟨by omega, by omega⟩⟩
    . exact ⟨by omega, by omega, q - 1, .inl ⟨by omega, by omega⟩⟩
def z8q (K : PySem.W.Frag) : R2 := fun x y H Q => ∃ (a b pa pb qa qb : Addr) (w h w' h' : Int) (ns ms ns' ms' : List Int), x = .ref a /\ y = .ref b /\ SqT K H a [.int w, .int h, .ref pa, .ref pb] /\ SqT K H b [.int w', .int h', .ref qa, .ref qb] /\
  SqT K H pa (ns.map V.int) /\ SqT K H pb (ms.map V.int) /\ SqT K H qa (ns'.map V.int) /\ SqT K H qb (ms'.map V.int) /\ Q (.bl (!((w == w') && ((h == h') && (decide (ns = ns') && decide (ms = ms')))))) H
section
variable {X : Cx}
end
section
variable {X : Cx} {pins : List (Addr × Obj)} {σ : St} {H : Hp} {s : Shared}
theorem Inv.adopt {a : Addr} {o : HO} {h' : Heap} {tk : Nat} (I : Inv X pins σ H s) (F : z2Z X pins H a) (k : ∀ b u, b ≠ a -> s.heap.get? b = some u -> h'.get? b = some u) (ha : ∃ u, h'.get? a = some u) (new : ObjOk X.prog X.w (upd H a o) h' a o) :
    Inv X pins σ (upd H a o) { s with heap := h', toks := tk } := by
  obtain ⟨f0, f1, f2, f3, f4, f5⟩ := F
  have nH : ∀ {b : Addr} {u : HO}, H b = some u -> b ≠ a := fun e => z0M e f0
  have nch : ∀ {b : Addr}, b ∉ [a] -> b ≠ a := fun h z => h (by simp [z])
  refine I.step (g' := s.gens) (d' := s.drawn) (t' := tk) (ch := [a]) (fun b hb => ?_) (fun b u _ _ c e _ => k b u (nch c) e) (fun b u _ _ c e _ => ⟨u.slots, k b u (nch c) e⟩) (fun b u c _ n => by rw [z07 (nch c)]; exact n) (fun b u c e => ⟨u, k b u (nch c) e⟩)
    (fun b xs e => by rw [z07 (nH e)]; exact e) (fun b u xs e => by rw [z07 (nH e)]; exact e) (fun b ps e => ⟨#[], by rw [z07 (nH e), e]; simp⟩) (fun m hm => ?_) (fun b u e => ?_) I.bare
  . have e : b = a := by simpa using hb
    subst e
    exact ⟨f3, f1, f4, f5⟩
  . obtain ⟨u, es, ep, ho, r⟩ := hm
    exact ⟨u, es, ep, k _ u (Ne.symm f1) ho, r⟩
  . by_cases z : b = a
    . subst z
      rw [z05] at e
      cases e
      exact new
    . rw [z07 z] at e
      refine (I.hok b u e).stay (fun c v hc q => k c v ?_ q) (fun c q => by rw [z07 (nH q)]; exact q) fun c xs q => by rw [z07 (nH q)]; exact q
      rcases hc with rfl | hc
      . exact z
      . exact nH hc
end
structure Fly (P : Program) (w : World) (st : List Env) (H H' : Hp) (B : Heap) (a C t : Addr) (h h' : Heap) : Prop where
  un : Un (frs st) [] H H' h h'
  keep : ∀ b o, h.get? b = some o -> H b = none -> b ∉ frs st -> B.get? b = some o
  thr : ∀ b o, h.get? b = some o -> b ∉ frs st -> ∃ o', B.get? b = some o'
  hok : HOk P w H' B
  fl : Heap.FlyingW B st a (.ref C) (.ref t) h'
def CX1 (P : Program) (w : World) : CXT := fun st H s E e s' => ∃ (a t C : Addr) (B : Heap) (H' : Hp), e = .ref a /\ s'.os = s.os /\ AllBare s'.gens /\ Fly P w st H H' B a C t s.heap s'.heap /\ E (.ref C) none H'
section
variable {X : Cx} {pins : List (Addr × Obj)} {σ : St} {H H' : Hp} {s : Shared}
theorem nin {b : Addr} : b ∉ ([] : List Addr) := fun h => nomatch h
theorem z13 {env : Env} {outer : List Env} {L : Addr} (hf : env.frame = some L) : frs (env :: outer) = L :: frs outer := by
  unfold frs
  rw [List.filterMap_cons, hf]
theorem Fly.leave {B : Heap} {a C t : Addr} {h1 h' : Heap} (I : Inv X pins σ H s) (hst : X.stack = X.env :: X.outer) (hf : X.env.frame = some X.env.locals) (hex : X.ex = []) (F : Fly X.prog X.w X.stack H H' B a C t s.heap h1)
    (fl : Heap.FlyingW B X.outer a (.ref C) (.ref t) h') (sm : h1.UpToSlots h') : Fly X.prog X.w X.outer X.H₀ H' B a C t X.s₀.heap h' := by
  have hS : frs X.stack = X.env.locals :: frs X.outer := by rw [hst]; exact z13 hf
  have hx : ∀ b, b ∉ X.ex := fun b => by rw [hex]; exact nin
  have ne : ∀ b o, X.s₀.heap.get? b = some o -> b ≠ X.env.locals := fun b o e => Nat.ne_of_lt (Nat.lt_of_lt_of_le (Heap.lt_size e) I.ok.above)
  have out : ∀ b o, X.s₀.heap.get? b = some o -> b ∉ frs X.outer -> b ∉ frs X.stack := fun b o e n hb => by
    rw [hS] at hb
    rcases List.mem_cons.mp hb with z | z
    . exact ne b o e z
    . exact n z
  have inn : ∀ b, b ∈ frs X.outer -> b ∈ frs X.stack := fun b hb => by rw [hS]; exact List.mem_cons_of_mem _ hb
  have kB : ∀ b o, X.s₀.heap.get? b = some o -> X.H₀ b = none -> b ∉ frs X.outer -> B.get? b = some o := fun b o e n nb =>
    F.keep b o (I.base.keep b o e n nb (hx b)) (I.base.free b o e n (hx b)) (out b o e nb)
  have tB : ∀ b o, X.s₀.heap.get? b = some o -> b ∉ frs X.outer -> ∃ o', B.get? b = some o' := fun b o e nb => by
    obtain ⟨o', e'⟩ := I.base.there b o e (hx b)
    exact F.thr b o' e' (out b o e nb)
  have sl : ∀ b o, X.s₀.heap.get? b = some o -> X.H₀ b = none -> b ∈ frs X.outer -> ∃ sl, h'.get? b = some { o with slots := sl } := fun b o e n hb => by
    obtain ⟨s1, e1⟩ := I.base.slot b o e n hb (hx b)
    obtain ⟨s2, e2⟩ := F.un.slot b _ e1 (I.base.free b o e n (hx b)) (inn b hb) nin
    obtain ⟨_, o', ho', hd⟩ := I.ok.funs.mem hb
    rw [e] at ho'
    cases ho'
    obtain ⟨s3, e3⟩ := sm b _ e2 hd
    exact ⟨s3, e3⟩
  refine ⟨⟨fun b o e n nb _ => fl.1 b o (kB b o e n nb), fun b o e n hb _ => sl b o e n hb, fun b o e n _ => ?_, fun b o e _ => ?_, fun b xs e => F.un.tups b xs (I.base.tups b xs e), fun b o u e => F.un.frzs b o u (I.base.frzs b o u e), fun b ps e => ?_⟩, kB, tB, F.hok, fl⟩
  . obtain ⟨s1, e1⟩ := I.base.any e n (hx b)
    exact F.un.free b _ e1 (I.base.free b o e n (hx b)) nin
  . by_cases hb : b ∈ frs X.outer
    . obtain ⟨s1, e1⟩ := sl b o e (I.ok.frf b hb) hb
      exact ⟨_, e1⟩
    . obtain ⟨o', e'⟩ := tB b o e hb
      exact ⟨o', fl.1 b o' e'⟩
  . obtain ⟨m1, e1⟩ := I.base.tbls b ps e
    obtain ⟨m2, e2⟩ := F.un.tbls b _ e1
    exact ⟨m1 ++ m2, by rw [e2, Array.append_assoc]⟩
theorem Fly.first {e C t : Addr} {vs : List Value} {h1 h' : Heap} (I : Inv X pins σ H s) (hst : X.stack = X.env :: X.outer) (hf : X.env.frame = some X.env.locals) (hex : X.ex = []) (hx : Heap.MadeExcOf s.heap h1 e (.ref C) vs)
    (fl : Heap.FlyingW (PySem.W.hideAll s.heap (frs X.stack)) X.outer e (.ref C) (.ref t) h') (sm : h1.UpToSlots h') : Fly X.prog X.w X.outer X.H₀ H (PySem.W.hideAll s.heap (frs X.stack)) e C t X.s₀.heap h' := by
  have hS : frs X.stack = X.env.locals :: frs X.outer := by rw [hst]; exact z13 hf
  have hxx : ∀ b, b ∉ X.ex := fun b => by rw [hex]; exact nin
  have ne : ∀ b o, X.s₀.heap.get? b = some o -> b ≠ X.env.locals := fun b o e => Nat.ne_of_lt (Nat.lt_of_lt_of_le (Heap.lt_size e) I.ok.above)
  have out : ∀ b o, X.s₀.heap.get? b = some o -> b ∉ frs X.outer -> b ∉ frs X.stack := fun b o e n hb => by
    rw [hS] at hb
    rcases List.mem_cons.mp hb with z | z
    . exact ne b o e z
    . exact n z
  have kB : ∀ b o, X.s₀.heap.get? b = some o -> X.H₀ b = none -> b ∉ frs X.outer -> (PySem.W.hideAll s.heap (frs X.stack)).get? b = some o := fun b o e n nb => PySem.W.hideAll_get _ (I.base.keep b o e n nb (hxx b)) (out b o e nb)
  have tB : ∀ b o, X.s₀.heap.get? b = some o -> b ∉ frs X.outer -> ∃ o', (PySem.W.hideAll s.heap (frs X.stack)).get? b = some o' := fun b o e nb => by
    obtain ⟨o', e'⟩ := I.base.there b o e (hxx b)
    exact ⟨o', PySem.W.hideAll_get _ e' (out b o e nb)⟩
  have sl : ∀ b o, X.s₀.heap.get? b = some o -> X.H₀ b = none -> b ∈ frs X.outer -> ∃ sl, h'.get? b = some { o with slots := sl } := fun b o e n hb => by
    obtain ⟨s1, e1⟩ := I.base.slot b o e n hb (hxx b)
    obtain ⟨_, o', ho', hd⟩ := I.ok.funs.mem hb
    rw [e] at ho'
    cases ho'
    obtain ⟨s3, e3⟩ := sm b _ (hx.keeps b _ e1) hd
    exact ⟨s3, e3⟩
  refine ⟨⟨fun b o e n nb _ => fl.1 b o (kB b o e n nb), fun b o e n hb _ => sl b o e n hb, fun b o e n _ => I.base.free b o e n (hxx b), fun b o e _ => ?_, fun b xs e => I.base.tups b xs e, fun b o u e => I.base.frzs b o u e, fun b ps e => I.base.tbls b ps e⟩, kB, tB, fun b u q => ?_, fl⟩
  . by_cases hb : b ∈ frs X.outer
    . obtain ⟨s1, e1⟩ := sl b o e (I.ok.frf b hb) hb
      exact ⟨_, e1⟩
    . obtain ⟨o', e'⟩ := tB b o e hb
      exact ⟨o', fl.1 b o' e'⟩
  . refine (I.hok b u q).stay (fun c v hc e => PySem.W.hideAll_get _ e fun hm => ?_) (fun _ z => z) fun _ _ z => z
    have n := I.stkFree c hm
    rcases hc with z | z
    . rw [z, q] at n
      cases n
    . rw [z] at n
      cases n
end
section
variable {P : Program} {w : World} {K : PySem.W.Frag} {mg : Str -> Option Value} {base : Heap} {N : List Str} {qual : Str} {scope : Scope} {f : Addr} {cd : Value} {A : Around} {outer : List Env} {s : Shared} {H : Hp} {E : XK}
end
def z7J (X : Cx) (E : XK) : Prop := ∀ (pins : List (Addr × Obj)) (σ : St) (H : Hp) (s : Shared) (h' : Heap) (e C : Addr) (vs : List Value), Inv X pins σ H s -> Heap.MadeExcOf s.heap h' e (.ref C) vs -> E (.ref C) none H -> X.xe (.ref e) { s with heap := h' }
abbrev z2O : List Value := [.type "ValueError", .type "Exception", .type "BaseException", .type "object"]
def XCls (K : PySem.W.Frag) (C : Addr) : Prop := PySem.W.excIn K C z2O "ValueError.__new__" = true
theorem XCls.obj {K : PySem.W.Frag} {C : Addr} {h : Heap} (X : K.In h) (q : XCls K C) : ∃ bm N nm qn bs hdct sn sub ab col dd k0 k1 k2 k3 k5 mN, h.get? C = some (excClassObj nm qn C N bs bm hdct sn sub ab col dd k0 k1 k2 k3 k5 "ValueError.__new__") /\ h.Ns N mN /\ mN "__init__" = none /\ OwnTail h z2O bm /\
    ∃ c0 d0 cd0 sl0, K.lookup C = some ⟨c0, d0, .cls cd0, sl0⟩ /\ cd0.mro = .ref C :: bm := by
  unfold XCls PySem.W.excIn at q
  split at q
  . rename_i dd cd sl ho
    split at q
    . rename_i C' bm k0 k1 k2 k3 n k5 hm hs
      simp only [Bool.and_eq_true, beq_iff_eq, Bool.not_eq_true'] at q
      obtain ⟨⟨⟨⟨⟨rfl, rfl⟩, hdel⟩, ht⟩, hok⟩, hni⟩ := q
      obtain ⟨nm, bs, mro, ns, qn, hd, sn, sub, ab, col, del⟩ := cd
      dsimp only at hm hdel hok hni
      subst hm hdel
      have hsl : sl = #[k0, k1, k2, k3, some (.builtin "ValueError.__new__"), k5] := by
        obtain ⟨l⟩ := sl
        simp only at hs
        rw [hs]
      subst hsl
      exact ⟨bm, ns, nm, qn, bs, hd, sn, sub, ab, col, dd, k0, k1, k2, k3, k5, _, X _ _ ho, .of_isNs (PySem.W.isNs_of_in X hok), PySem.W.nsMap_none_of_in X hok hni, PySem.W.tail_of_in X ht, _, _, _, _, ho, rfl⟩
    . cases q
  . cases q
section
variable {X : Cx} {E : XK} {x : Str} {np cpos pos : Pos} {e : Expr} {es : List Expr} {t : TA} {C : Addr}
def z7K (C : Addr) (E : XK) (t : TA) : TS := fun _ σ H => t σ H fun vs H1 => vs.length <= 1000 /\ E (.ref C) none H1
end
structure XC (K : PySem.W.Frag) (C : Addr) : Prop where
  cls : XCls K C
  ga : PySem.W.findIn K (.ref C) "__getattribute__" = some (some (.builtin "BaseException.__getattribute__"))
  gn : PySem.W.findIn K (.ref C) "__getattr__" = some none
  kc : PySem.W.findIn K (.ref C) "__class__" = some (some (.builtin "object.__class__"))
  kg : PySem.W.specialIn K (.builtin "object.__class__") "__get__" = some (some (.builtin "getset_descriptor.__get__"))
  kt : PySem.W.takesIn K (.builtin "object.__class__") = some true
  km : PySem.W.mroIn K C (.type "object") = some true
section
variable {prog : Program} {w : World} {A : Around} {E : Value -> Shared -> Prop} {s : Shared} {K : PySem.W.Frag} {x C : Addr} {ox : Obj}
theorem gaSlot : Slot "ValueError" "__getattribute__" "BaseException.__getattribute__" := F.attrBase_ValueError.ga
def ExcAt (x C : Addr) (h : Heap) : Prop := ∃ o, h.get? x = some o /\ o.cls = .ref C
theorem ExcAt.ty {M : Model} {h : Heap} (I : ExcAt x C h) : PySem.W.Looks M h (typeOf (.ref x)) (.ref C) := by
  obtain ⟨o, h1, h2⟩ := I
  have L : PySem.W.Looks M h (typeOf (.ref x)) o.cls := (PySem.W.Looks.ld h1).andThen .now
  rw [h2] at L
  exact L
end
section
variable {M : Model} {A : Around} {E : Value -> Shared -> Prop}
variable {nm q : Str} {C N : Addr} {bs bm : List Value} {hdct : Bool} {sn : List Str} {sub : List Value} {ab : Bool} {col : Option Bool} {dd : Option Addr} {k0 k1 k2 k3 k5 : Option Value} {newId : String}
variable {nm' q' : Str} {G N' : Addr} {bs' bm' : List Value} {hdct' : Bool} {sn' : List Str} {sub' : List Value} {ab' : Bool} {col' : Option Bool} {dd' : Option Addr} {k0' k1' k2' k3' k5' : Option Value} {newId' : String}
theorem z0w {h : Heap} {g : Array GenState} {d : Drawn} {t : Nat} {os : OsState} {e : Addr} {oe : Obj} {Q : Bool -> Shared -> Prop}
    (hC : h.get? C = some (excClassObj nm q C N bs bm hdct sn sub ab col dd k0 k1 k2 k3 k5 newId)) (hG : h.get? G = some (excClassObj nm' q' G N' bs' bm' hdct' sn' sub' ab' col' dd' k0' k1' k2' k3' k5' newId'))
    (he : h.get? e = some oe) (hcls : oe.cls = .ref C) (hbase : bm'.contains (.type "BaseException") = true) (hsub : (Value.ref C :: bm).contains (.ref G) = true)
    (hq : Q true ⟨h, g, d, t, os⟩) : wpAny M A (excMatches (.ref e) (.ref G)) Q E ⟨h, g, d, t, os⟩ := by
  have hcB : (Value.ref G :: bm').contains (.type "BaseException") = true := by rw [List.contains_cons, hbase, Bool.or_true]
  have f := tc_notTuple
  unfold excMatches
  repeat (first | (with_reducible refine wpAny_loadPart_at he ?_; rw [hcls]) | with_reducible refine wpAny_loadPart_at hG ?_ | (with_reducible refine wpAny_isSubtype_exc hG ?_; rw [hcB]) | (with_reducible refine wpAny_isSubtype_exc hC ?_; rw [hsub]) | wp_step)
  exact hq
end
section
variable {X : Cx} {pins : List (Addr × Obj)} {σ : St} {H : Hp} {s : Shared}
theorem z0Y {M : Model} {A : Around} {E : Value -> Shared -> Prop} {i : Nat} {n : Str} {pos : Pos} {Q : Unit -> Shared -> Prop} (I : Inv X pins σ H s) (hN : X.N.Nodup) (hi : X.N[i]? = some n) (hk : X.env.scope.names.lookup n = some .local)
    (h : ∀ s', Inv X pins (σ.set i none) H s' -> Q () s') : wpAny M A (do bindName X.env n .none; unbindBehindTheSuite X.env n pos) Q E s := by
  obtain ⟨m, hn, hl⟩ := id I.loc
  have hcls : (X.env.scope.kind == .class || (X.env.scope.kind == .module && X.env.locals != X.env.globals)) = false := by rw [I.ok.kind]; rfl
  refine wpAny_nameGoes_keeps hk hn hcls fun h' v hn' hs => ?_
  obtain ⟨oL, _, _, hoL, _⟩ := id hn
  refine h _ ⟨I.ok, I.os, I.bare, ⟨fun b o e n' hb hx => ?_, fun b o e n' hb hx => ?_, I.base.free, fun b o e hx => ?_, I.base.tups, I.base.frzs, I.base.tbls⟩, ⟨_, hn', fun j y v' e1 e2 e3 => ?_⟩, fun y c e => ?_, I.free, I.freeC, fun p hp => ?_, fun b ob e => ?_, by simpa using I.len⟩
  . exact (hs.2 b (Nat.ne_of_lt (Nat.lt_of_lt_of_le (Heap.lt_size e) I.ok.above))).trans (I.base.keep b o e n' hb hx)
  . obtain ⟨sl, e1⟩ := I.base.slot b o e n' hb hx
    exact ⟨sl, (hs.2 b (Nat.ne_of_lt (Nat.lt_of_lt_of_le (Heap.lt_size e) I.ok.above))).trans e1⟩
  . obtain ⟨o', e1⟩ := I.base.there b o e hx
    exact ⟨o', (hs.2 b (Nat.ne_of_lt (Nat.lt_of_lt_of_le (Heap.lt_size e) I.ok.above))).trans e1⟩
  . have hj : j ≠ i := fun z => by
      rw [z] at e2
      have hiσ : i < σ.length := by rw [I.len]; exact (List.getElem?_eq_some_iff.mp hi).1
      rw [List.getElem?_set_self hiσ] at e2
      cases e2
    rw [List.getElem?_set_ne (Ne.symm hj)] at e2
    obtain ⟨u', r', q⟩ := hl j y v' e1 e2 e3
    refine ⟨u', r', ?_⟩
    rcases q with ⟨k, e⟩ | ⟨k, c, e, o, ho, hd⟩
    . refine .inl ⟨k, ?_⟩
      have : y ≠ n := fun e => hj (z1O hN e1 (e ▸ hi))
      simp [this, e]
    . exact .inr ⟨k, c, e, o, (hs.2 c (I.cne y c e)).trans ho, hd⟩
  . obtain ⟨v', o, ho, hd⟩ := I.cell y c e
    exact ⟨v', o, (hs.2 c (I.cne y c e)).trans ho, hd⟩
  . obtain ⟨e1, n1, ne, nf, d⟩ := I.pin p hp
    exact ⟨(hs.2 p.1 ne).trans e1, n1, ne, nf, d⟩
  . refine (I.hok b ob e).stay (fun c w' hc q => (hs.2 c ?_).trans q) (fun _ q => q) fun _ _ q => q
    rintro rfl
    have hfree := I.free
    rcases hc with z | z
    . rw [<- z, hfree] at e; cases e
    . rw [hfree] at z; cases z
end
theorem Fly.on {P : Program} {w : World} {st : List Env} {H H' : Hp} {B : Heap} {a C t : Addr} {h h1 h2 : Heap} (F : Fly P w st H H' B a C t h h1) (fl : Heap.FlyingW B st a (.ref C) (.ref t) h2) (sm : h1.UpToSlots h2) : Fly P w st H H' B a C t h h2 := by
  have sl : ∀ b o, h.get? b = some o -> H b = none -> b ∈ frs st -> ∃ sl, h2.get? b = some { o with slots := sl } := fun b o e n hb => by
    obtain ⟨s1, e1⟩ := F.un.slot b o e n hb nin
    obtain ⟨_, o', ho', hd⟩ := F.fl.2.2.1.mem hb
    rw [e1] at ho'
    cases ho'
    obtain ⟨s2, e2⟩ := sm b _ e1 hd
    exact ⟨s2, e2⟩
  refine ⟨⟨fun b o e n nb _ => fl.1 b o (F.keep b o e n nb), fun b o e n hb _ => sl b o e n hb, F.un.free, fun b o e _ => ?_, F.un.tups, F.un.frzs, F.un.tbls⟩, F.keep, F.thr, F.hok, fl⟩
  by_cases hb : b ∈ frs st
  . obtain ⟨o', e'⟩ := F.un.there b o e nin
    obtain ⟨_, o2, ho2, hd⟩ := F.fl.2.2.1.mem hb
    obtain ⟨s2, e2⟩ := sm b _ ho2 hd
    exact ⟨_, e2⟩
  . obtain ⟨o', e'⟩ := F.thr b o e hb
    exact ⟨o', fl.1 b o' e'⟩
theorem Fly.free {P : Program} {w : World} {st : List Env} {H H' : Hp} {B : Heap} {a C t : Addr} {h h1 : Heap} (F : Fly P w st H H' B a C t h h1) : H' a = none := by
  cases q : H' a with
  | none => rfl
  | some u =>
    have x := F.hok a u q
    have n : B.get? a = none := F.fl.2.1
    exfalso
    have some_of : ∃ o, B.get? a = some o := by
      clear q
      induction u with
      | lst xs => obtain ⟨_, _, _, _, e⟩ := x; exact ⟨_, e⟩
      | tup xs => obtain ⟨_, _, _, o, e, _⟩ := x; exact ⟨_, e⟩
      | dK kvs => obtain ⟨_, _, _, _, o, _, _, e, _⟩ := x; exact ⟨_, e⟩
      | dT kvs => obtain ⟨_, _, _, _, o, _, _, e, _⟩ := x; exact ⟨_, e⟩
      | set S n => obtain ⟨o, _, _, _, e, _⟩ := x; exact ⟨_, e⟩
      | ins C dx fs => obtain ⟨_, _, _, e, _⟩ := x; exact ⟨_, e⟩
      | own y => exact x
      | xd fs => obtain ⟨_, ⟨_, _, _, e, _⟩, _⟩ := x; exact ⟨_, e⟩
      | rng lo hi => obtain ⟨_, _, _, e⟩ := x; exact ⟨_, e⟩
      | frz ob u ih => obtain ⟨e, _⟩ := x; exact ⟨_, e⟩
      | tbl ps => exact ⟨_, (show B.get? a = some _ from x)⟩
      | met f y => exact ⟨_, (show B.get? a = some _ from x)⟩
      | ext φ => obtain ⟨_, ⟨_, e⟩, _⟩ := x; exact ⟨_, e⟩
    obtain ⟨o, e⟩ := some_of
    rw [n] at e
    cases e
abbrev Xh (X : Cx) (a : Addr) (oe : Obj) : Cx := { X with A := X.A.mark (some (.ref a)), calm := false, pn := X.pn ++ [(a, oe)], xe := fun _ _ => False }
section
variable {X : Cx} {pins : List (Addr × Obj)} {σ : St} {H : Hp} {s : Shared} {a : Addr} {oe : Obj}
theorem Cx.Ok.hand (ok : X.Ok) : (Xh X a oe).Ok :=
  ⟨ok.mod, ok.kind, ok.glob, ok.blt, ok.above, ok.inj, ok.has, ok.cab, (fun z => nomatch z), ok.frames, ok.stk, ok.exf, ok.bs, ok.bsz, ok.noex, ok.exfs, ok.funs, ok.frf⟩
theorem Inv.hand (I : Inv X pins σ H s) (e : s.heap.get? a = some oe) (n : H a = none) (ne : a ≠ X.env.locals) (nf : a ∉ X.fs) (d : ∀ v, oe.data ≠ .cell v) : Inv (Xh X a oe) pins σ H s :=
  ⟨I.ok.hand, I.os, I.bare, I.base, I.loc, I.cell, I.free, I.freeC, fun p hp => by
    rcases List.mem_append.mp hp with hp | hp
    . rcases List.mem_append.mp hp with hp | hp
      . exact I.pin p (List.mem_append_left _ hp)
      . rw [List.mem_singleton.mp hp]
        exact ⟨e, n, ne, nf, d⟩
    . exact I.pin p (List.mem_append_right _ hp), I.hok, I.len⟩
theorem Inv.unhand (ok : X.Ok) (I : Inv (Xh X a oe) pins σ H s) : Inv X pins σ H s :=
  ⟨ok, I.os, I.bare, I.base, I.loc, I.cell, I.free, I.freeC, fun p hp => by
    rcases List.mem_append.mp hp with hp | hp
    . exact I.pin p (List.mem_append_left _ (List.mem_append_left _ hp))
    . exact I.pin p (List.mem_append_right _ hp), I.hok, I.len⟩
def z6R : V -> Option Value
  | .ref a => some (.ref a)
  | .ty n => some (.type n)
  | _ => none
theorem z4f {y : V} {u v : Value} (h : z6R y = some u) (r : RelV y v) : v = u := by
  cases y with
  | ref a => cases h; exact r
  | ty n => cases h; exact r
  | _ => cases h
end
def z8r (K : PySem.W.Frag) (G : Addr) (sp : Sp) (dvs : List V) (t : TA) (i : Nat) (th : Addr -> Addr -> TS) : TS := fun D σ H => t σ H fun vs H1 => ∃ E : XK, sp (vs ++ dvs) H1 (fun _ H2 => D.nx σ H2) E /\
  ∀ Cv d H2, E Cv d H2 -> ∃ c, Cv = .ref c /\ XC K c /\ PySem.W.mroIn K c (.ref G) = some true /\ ∀ a, th a c { nx := fun σ' H' => D.nx (σ'.set i none) H', rt := D.rt, bk := fun σ' H' => D.bk (σ'.set i none) H', ct := fun σ' H' => D.ct (σ'.set i none) H' } (σ.set i (some (.ref a))) H2
section
variable {X : Cx} {k : Nat} {fa G : Addr} {fd : FuncData} {ps : List Str} {sp : Sp} {dvs : List V} {ds : List Value} {x gn n : Str} {p cp ep gp hp tp : Pos} {e : Expr} {es : List Expr} {t : TA} {b₀ : Stmt} {suite : List Stmt} {i : Nat} {th : Addr -> Addr -> TS}
theorem z3H {pins : List (Addr × Obj)} {D : Ends} {a : Addr} {oe : Obj} {f : Flow} {s : Shared} {E : Value -> Shared -> Prop} (ok : X.Ok) (hN : X.N.Nodup) (hi : X.N[i]? = some n) (hloc : X.env.scope.names.lookup n = some .local)
    (h : SP (Xh X a oe) pins { nx := fun σ' H' => D.nx (σ'.set i none) H', rt := D.rt, bk := fun σ' H' => D.bk (σ'.set i none) H', ct := fun σ' H' => D.ct (σ'.set i none) H' } f s) :
    wpAny (model X.prog X.w) X.A (do bindName X.env n .none; unbindBehindTheSuite X.env n hp) (fun _ s' => SP X pins D f s') E s := by
  cases f with
  | next => obtain ⟨σ', H', I, q⟩ := h; exact z0Y (I.unhand ok) hN hi hloc fun s' I' => ⟨_, H', I', q⟩
  | brk => obtain ⟨σ', H', I, q⟩ := h; exact z0Y (I.unhand ok) hN hi hloc fun s' I' => ⟨_, H', I', q⟩
  | cont => obtain ⟨σ', H', I, q⟩ := h; exact z0Y (I.unhand ok) hN hi hloc fun s' I' => ⟨_, H', I', q⟩
  | ret u => obtain ⟨v, σ', H', I, r, q⟩ := h; exact z0Y (I.unhand ok) hN hi hloc fun s' I' => ⟨v, _, H', I', r, q⟩
theorem z7L {pins : List (Addr × Obj)} {σ : St} {H1 H' : Hp} {s1 s' : Shared} {B : Heap} {a c t' : Addr} {D : Ends} {E : Value -> Shared -> Prop} (I : Inv X pins σ H1 s1) (hst : X.stack = X.env :: X.outer) (hf : X.env.frame = some X.env.locals)
    (hgG : Gl X gn) (hmG : X.mg gn = some (.ref G)) (hG : XC X.K G) (hN : X.N.Nodup) (hi : X.N[i]? = some n) (hloc : X.env.scope.names.lookup n = some .local)
    (hs : ∀ a oe c, oe.cls = .ref c -> XC X.K c -> PSs (Xh X a oe) (b₀ :: suite) (th a c)) (os : s'.os = s1.os) (bare : AllBare s'.gens) (F : Fly X.prog X.w X.stack H1 H' B a c t' s1.heap s'.heap) (Zc : XC X.K c) (ab : PySem.W.mroIn X.K c (.ref G) = some true)
    (q : th a c { nx := fun σ' H' => D.nx (σ'.set i none) H', rt := D.rt, bk := fun σ' H' => D.bk (σ'.set i none) H', ct := fun σ' H' => D.ct (σ'.set i none) H' } (σ.set i (some (.ref a))) H') (hdG : (gn == ("__debug__" : Str)) = false) :
    wpAny (model X.prog X.w) X.A (noteFrame (.ref a) X.env) (fun _ s₂ => wpAny (model X.prog X.w) X.A (setFlight (.ref a) none) (fun _ s₃ =>
      wpAny (model X.prog X.w) X.A (handleBy (.ref a) X.env [.ExceptHandler (some (.Name gn gp)) (some n) (b₀ :: suite) hp]) (SP X pins D) E s₃) E s₂) E s' := by
  have hfr : X.A.frames = some (X.env :: X.outer) := by rw [<- hst]; exact I.ok.frames
  have hfl : Heap.FlyingW B (X.env :: X.outer) a (.ref c) (.ref t') s'.heap := by rw [<- hst]; exact F.fl
  refine wpAny_looks_onW hfr hf hfl fun h₄ held₄ sm₄ => ?_
  refine wpAny_landsW held₄ fun h₅ fl₅ sm₅ => ?_
  have F₅ := F.on (by rw [hst]; exact fl₅) (sm₄.trans sm₅)
  have at5 : ∀ {h : Heap}, Fly X.prog X.w X.stack H1 H' B a c t' s1.heap h -> Inv X pins σ H' { s' with heap := h } := fun {h} Fh => I.call' (s' := { s' with heap := h }) os Fh.un (Fh.hok.kept Fh.fl.1) bare (fun b z => absurd z nin)
  have pinok : ∀ {h : Heap}, Fly X.prog X.w X.stack H1 H' B a c t' s1.heap h -> ∃ oe, h.get? a = some oe /\ oe.cls = .ref c /\ (∀ v, oe.data ≠ .cell v) /\ a ≠ X.env.locals /\ a ∉ X.fs := fun {h} Fh => by
    obtain ⟨_, _, ff, oe, vs, T, oT, ts, he, hcl, hdat, _⟩ := Fh.fl
    have nofr : ∀ b ∈ frs X.stack, b ≠ a := fun b hb z => by
      obtain ⟨_, o, ho, hd⟩ := ff.mem hb
      rw [z, he] at ho
      cases ho
      exact hd vs hdat
    refine ⟨oe, he, hcl.1, (fun v z => by rw [hdat] at z; cases z), fun z => nofr X.env.locals (by rw [hst, z13 hf]; exact List.mem_cons_self) z.symm, fun z => nofr a (by rw [hst, z13 hf]; exact List.mem_cons_of_mem _ z) rfl⟩
  have I₅ := at5 F₅
  obtain ⟨oe₅, e₅, c₅, d₅, l₅, f₅⟩ := pinok F₅
  have J₅ : Inv (Xh X a oe₅) pins σ H' { s' with heap := h₅ } := I₅.hand e₅ F₅.free l₅ f₅ d₅
  refine wpAny_handleBy_cons (codeAny_handlers_test (z0x (X := Xh X a oe₅) J₅ hgG hmG ?_ hdG)) (by intro z; cases z)
  obtain ⟨bm, N, nm, qn, bs, hdct, sn, sub, ab', col, dd, k0, k1, k2, k3, k5, mN, hC, hN', hni, T, c0, d0, cd0, sl0, ho, hmro⟩ := XCls.obj I₅.kIn Zc.cls
  obtain ⟨bm2, N2, nm2, qn2, bs2, hdct2, sn2, sub2, ab2, col2, dd2, j0, j1, j2, j3, j5, mN2, hC2, hN2, hni2, T2, _⟩ := XCls.obj I₅.kIn hG.cls
  have hsub : (Value.ref c :: bm).contains (.ref G) = true := by
    unfold PySem.W.mroIn PySem.W.clsIn at ab
    rw [ho] at ab
    dsimp only [Option.bind] at ab
    rw [hmro, if_neg (by simp)] at ab
    exact Option.some.inj ab
  obtain ⟨sh, sg, sd, stk, sos⟩ := s'
  refine z0w hC hC2 e₅ c₅ (T2.hasType (X := "BaseException") (b := true) (by decide +kernel)) hsub (codeAny_handlers_suite_as ?_)
  refine lands_againW (by rw [hst] at F₅; exact F₅.fl) fun h₆ fl₆ sm₆ => ?_
  have F₆ := F₅.on (by rw [hst]; exact fl₆) sm₆
  have I₆ := at5 F₆
  obtain ⟨oe, e₆, c₆, d₆, l₆, f₆⟩ := pinok F₆
  have J₆ : Inv (Xh X a oe) pins σ H' _ := I₆.hand e₆ F₆.free l₆ f₆ d₆
  refine z16 (X := Xh X a oe) (v := .ref a) J₆ hN hi (.inl hloc) rfl (fun s₇ J₇ => ?_) (.inr hloc)
  refine wpAny_mono (hs a oe c c₆ Zc pins s₇ _ H' _ J₇ q) (fun f s₈ h₈ => ?_) fun _ _ z => z.elim
  exact z3H I.ok hN hi hloc h₈
end
structure Owx (P : Program) (w : World) (K : PySem.W.Frag) (mg : Str -> Option Value) (base : Heap) (x : Str) (ps : List Str) (k : Nat) (sp : Sp) : Prop where
  ex : ∃ (f : Addr) (fd : FuncData), mg x = some (.ref f) /\ PySem.W.keepIn K (.ref f) = true /\ Binds K fd ps [] /\ FnOk P w K mg base (CX1 P w) k f fd ps sp
structure Ec (K : PySem.W.Frag) (mg : Str -> Option Value) (x : Str) (C : Addr) : Prop where
  m : mg x = some (.ref C)
  c : XC K C
section
variable {X : Cx} {k j : Nat} {ps : List Str} {sp : Sp} {x gn n : Str} {G : Addr} {p pos cp ep gp hp tp : Pos} {e : Expr} {es : List Expr} {t : TA} {E : XK} {b₀ : Stmt} {suite : List Stmt} {i : Nat} {th : Addr -> Addr -> TS}
end
section
variable {prog : Program} {w : World} {A : Around} {E : Value -> Shared -> Prop} {h : Heap} {g : Array GenState} {d : Drawn} {t : Nat} {os : OsState}
variable {nm q : Str} {C N : Addr} {bs bm bmB : List Value} {hdct : Bool} {sn : List Str} {sub : List Value} {ab : Bool} {col : Option Bool} {dd : Option Addr} {k0 k1 k2 k3 k5 : Option Value} {B newId initId : String}
abbrev z3I (C t : Addr) : Obj := { cls := .ref C, data := .fields #[.ref t, .none, .none, .none, .bool false, .none] }
end
inductive VeTail : List Value -> Prop
  | base : VeTail z2O
  | step {c : Addr} {r : List Value} : VeTail r -> VeTail (.ref c :: r)
theorem VeTail.passes (self : Value) {l : List Value} (t : VeTail l) : refuseLoop self "__setattr__" l = pure () := by
  induction t with
  | base => exact PySem.F.store_ValueError.passes self
  | step _ ih => rw [refuseLoop_ref]; exact ih
structure XE (K : PySem.W.Frag) (C : Addr) : Prop where
  ex : ∃ (dd : Option Addr) (cd : ClassData) (k0 k1 k2 k3 k5 : Option Value) (bm : List Value), K.lookup C = some ⟨.type "type", dd, .cls cd, #[k0, k1, k2, k3, some (.builtin "ValueError.__new__"), k5]⟩ /\ cd.mro = .ref C :: bm /\ cd.hasDel = false /\ cd.hasDict = true /\
    VeTail bm /\ PySem.W.tailIn K z2O bm = true /\ PySem.W.nsOkIn K cd.ns = true
  ga : PySem.W.findIn K (.ref C) "__getattribute__" = some (some (.builtin "BaseException.__getattribute__"))
  gn : PySem.W.findIn K (.ref C) "__getattr__" = some none
  sa : PySem.W.findIn K (.ref C) "__setattr__" = some (some (.builtin "object.__setattr__"))
  kc : PySem.W.findIn K (.ref C) "__class__" = some (some (.builtin "object.__class__"))
  kg : PySem.W.specialIn K (.builtin "object.__class__") "__get__" = some (some (.builtin "getset_descriptor.__get__"))
  kt : PySem.W.takesIn K (.builtin "object.__class__") = some true
  km : PySem.W.mroIn K C (.type "object") = some true
section
variable {K : PySem.W.Frag} {C : Addr}
theorem XE.obj {h : Heap} (X : K.In h) (Z : XE K C) : ∃ bm N nm qn bs sn sub ab col dd k0 k1 k2 k3 k5 mN, h.get? C = some (excClassObj nm qn C N bs bm true sn sub ab col dd k0 k1 k2 k3 k5 "ValueError.__new__") /\ h.Ns N mN /\ OwnTail h z2O bm /\ VeTail bm /\
    ∃ cd, PySem.W.clsIn K C = some cd /\ cd.mro = .ref C :: bm /\ cd.hasDict = true /\ cd.ns = N /\ ∃ d0 sl0, K.lookup C = some ⟨.type "type", d0, .cls cd, sl0⟩ := by
  obtain ⟨dd, cd, k0, k1, k2, k3, k5, bm, lk, hm, hdel, hdct, vt, ht, hok⟩ := Z.ex
  have hcls : PySem.W.clsIn K C = some cd := by unfold PySem.W.clsIn; rw [lk]
  have lk' := lk
  obtain ⟨nm, bs, mro, ns, qn, hd, sn, sub, ab, col, del⟩ := cd
  dsimp only at hm hdel hok hdct
  subst hm hdel hdct
  exact ⟨bm, ns, nm, qn, bs, sn, sub, ab, col, dd, k0, k1, k2, k3, k5, _, X _ _ lk, (.of_isNs (PySem.W.isNs_of_in X hok)), PySem.W.tail_of_in X ht, vt, _, hcls, rfl, rfl, rfl, _, _, lk'⟩
end
section
variable {prog : Program} {w : World} {A : Around} {E : Value -> Shared -> Prop} {s : Shared} {K : PySem.W.Frag} {x C : Addr}
theorem z2P {R : Result -> Shared -> Prop} (X : K.In s.heap) (Z : XE K C) (I : ExcAt x C s.heap) (h : R (.ok (.ret (.ref C))) s) :
    codeAny (model prog w) A (.call (.builtin "getset_descriptor.__get__") ⟨[.builtin "object.__class__", .ref x, .ref C], []⟩) R s := by
  obtain ⟨hh, g, d, t, os⟩ := s
  obtain ⟨bm, N, nm, qn, bs, sn, sub, ab, col, dd, k0, k1, k2, k3, k5, mN, hC, hN, T, _⟩ := XE.obj X Z
  obtain ⟨ox, hx, hc⟩ := I
  have ow : ".".intercalate ("object.__class__".cutAt '.').dropLast = "object" := by decide +kernel
  have hcO : (Value.ref C :: bm).contains (.type (".".intercalate ("object.__class__".cutAt '.').dropLast)) = true := by
    rw [ow, List.contains_cons, T.hasType (X := "object") (b := true) (by decide +kernel)]
    rfl
  have hT5 : (⟨hh, g, d, t, os⟩ : Shared).TypeIs (.builtin "object.__class__") "getset_descriptor" := F.typeOf_object_class
  refine codeAny_call_builtin F.slot_gs_get.plain F.entry_gs_get
    (F.slot_gs_get.check _ _ _ _ _ _ _ _ hT5 (F.args_gs_get _ _ _) ?_)
  repeat (any_goals (first
    | assumption
    | (with_reducible refine wpAny_loadPart_at hx ?_; rw [hc])
    | (with_reducible refine wpAny_isSubtype_exc hC ?_; rw [hcO])
    | wp_step))
  refine ⟨Code.quiet_builtin _ (by decide +kernel), codeAny_builtin F.entry_object_class ?_⟩
  repeat (any_goals (first
    | assumption
    | (with_reducible refine wpAny_loadPart_at hx ?_; rw [hc])
    | wp_step))
theorem z2Q {Q : Option Value -> Shared -> Prop} (X : K.In s.heap) (Z : XE K C) (I : ExcAt x C s.heap) (h : Q (some (.ref C)) { s with toks := s.toks + 1 }) : wpAny (model prog w) A (getAttr? (.ref x) "__class__") Q E s := by
  obtain ⟨hh, g, d, t, os⟩ := s
  obtain ⟨bm, N, nm, qn, bs, sn, sub, ab, col, dd, k0, k1, k2, k3, k5, mN, hC, hN, T, _⟩ := XE.obj X Z
  have L0 := I.ty (M := model prog w)
  have L1 := PySem.W.looks_findIn (M := model prog w) X Z.ga
  have L2' := PySem.W.looks_findIn (M := model prog w) X Z.gn
  have L4 := PySem.W.looks_findIn (M := model prog w) X Z.kc
  have hk : builtinKind "BaseException.__getattribute__" = some .slot := by decide +kernel
  have hsplit : splitId "BaseException.__getattribute__" = some ("BaseException", "__getattribute__") := by decide +kernel
  have hcB : (Value.ref C :: bm).contains (.type "BaseException") = true := by
    rw [List.contains_cons, T.hasType (X := "BaseException") (b := true) (by decide +kernel)]
    rfl
  obtain ⟨ox, hx, hc⟩ := id I
  have ha := F.args_bexc_ga (.ref x) (.str "__class__" t)
  have hT5 : (⟨hh, g, d, t + 1, os⟩ : Shared).TypeIs (.builtin "object.__class__") "getset_descriptor" := F.typeOf_object_class
  have f5 := F.typeOf_object_class
  have f6 := F.slot_gs_get.lookup
  have f7 := F.slot_gs_set.lookup
  unfold getAttr? getAttrBy? getAttrBy
  refine wpAny_bind (wpAny_mkText (wpAny_bind ?_))
  refine wpAny_attempt (wpAny_holding (wpAny_bind ?_))
  refine L0.at (wpAny_bind (L1.at ?_))
  show wpAny _ _ (getAttrByItsOwn _ _ _ _ _ _) _ _ _
  unfold getAttrByItsOwn
  show wpAny _ _ (typeLookup (.ref C) "__getattr__" >>= _) _ _ _
  refine wpAny_bind (L2'.at ?_)
  refine wpAny_bind (wpAny_attempt (wpAny_holding ?_))
  show wpAny _ _ (boundAndCalled (.builtin "BaseException.__getattribute__") (.ref x) _) _ _ _
  unfold boundAndCalled
  refine wpAny_bind (wpAny_of_eq (gaSlot.bind _) ?_)
  refine wpAny_call (codeAny_call_builtin gaSlot.plain F.entry_bexc_ga ?_)
  simp only [checkBuiltinCall, hk, hsplit]
  refine wpAny_bind ?_
  unfold isInstance
  repeat (first
    | (with_reducible refine wpAny_loadPart_at hx ?_; rw [hc])
    | (with_reducible refine wpAny_isSubtype_exc hC ?_; rw [hcB])
    | wp_step)
  refine L4.at ?_
  repeat (any_goals (first | assumption | wp_step))
  refine z2P (s := ⟨hh, g, d, t + 1, os⟩) X Z I ?_
  repeat (any_goals (first | assumption | wp_step))
theorem z3s (Z : XE K C) : PySem.W.KitX K (.ref x) (.ref C) (ExcAt x C) where
  ty := fun _ _ _ I => I.ty
  it := fun M h X _ => by
    obtain ⟨_, _, _, _, _, _, _, _, _, _, _, _, _, _, _, _, _, _, _, _, cd0, _, _, _, _, d0, sl0, ho⟩ := XE.obj X Z
    intro A' Q' E' s' k q
    unfold isType loadHead
    exact wpAny_bind (wpAny_loadPart (k _ _ (X _ _ ho)) (wpAny_pure q))
  ne := fun h tp dd its n sl X htp => by
    obtain ⟨_, _, _, _, _, _, _, _, _, _, _, _, _, _, _, _, _, _, _, _, cd0, _, _, _, _, d0, sl0, ho⟩ := XE.obj X Z
    refine Bool.eq_false_iff.mpr fun q => ?_
    have e : C = tp := Value.ref.inj (beq_iff_eq.mp q)
    subst e
    have z := (X _ _ ho).symm.trans htp
    simp at z
  ca := fun X I k => z2Q X Z I k
end
section
variable {prog : Program} {w : World} {A : Around} {E : Value -> Shared -> Prop} {s : Shared} {K : PySem.W.Frag} {x C : Addr}
theorem z1k {name : Str} {v : Value} {Q : Unit -> Shared -> Prop} {mA : Str -> Option Value} {ns : List Str} (X : K.In s.heap) (Z : XE K C) (hn : PySem.W.findIn K (.ref C) name = some none) (I : s.heap.Inst x C mA)
    (hq : ∀ h' tk', h'.Inst x C (fun y => if y = name then some v else mA y) ->
      (∀ b o, b ≠ x -> (∀ o₀ dx, s.heap.get? x = some o₀ -> o₀.dict = some dx -> b ≠ dx) -> s.heap.get? b = some o -> h'.get? b = some o) ->
      (∀ o₀, s.heap.get? x = some o₀ -> ∃ o₁, h'.get? x = some o₁ /\ o₁.cls = o₀.cls /\ o₁.data = o₀.data /\ o₁.slots = o₀.slots /\ (∀ dx, o₀.dict = some dx -> o₁.dict = some dx) /\ (o₀.dict = none -> o₁.dict = some s.heap.objs.size)) -> Q () { s with heap := h', toks := tk' }) (hw : Within mA ns) (hsz : ns.length <= 1000) :
    wpAny (model prog w) A (setAttr (.ref x) name v) Q E s := by
  obtain ⟨h, g, d, t, os⟩ := s
  obtain ⟨bm, N, nm, qn, bs, sn, sub, ab, col, dd, k0, k1, k2, k3, k5, mN, hC, hN, T, vt, cd, hcd, hmro, hdct, _⟩ := XE.obj X Z
  obtain ⟨o, hx, hc, hnc, hd⟩ := I
  have SF := PySem.F.store_ValueError
  have L0 := ExcAt.ty (M := model prog w) (x := x) (C := C) (h := h) ⟨o, hx, hc⟩
  have Ls := PySem.W.looks_findIn (M := model prog w) X Z.sa
  have Ln := PySem.W.looks_findIn (M := model prog w) X hn
  have f3 := SF.slot.bind (.ref x)
  unfold setAttr
  refine wpAny_bind (wpAny_mkText (wpAny_bind ?_))
  unfold callSpecial? specialOf
  refine wpAny_bind (wpAny_bind (L0.at (Ls.at ?_)))
  refine wpAny_holding ?_
  rw [f3]
  refine wpAny_bind (wpAny_pure ?_)
  refine wpAny_bind (wpAny_call ?_)
  have sub : PySem.W.Looks (model prog w) h (isInstance (.ref x) (.type "object")) true := L0.andThen (PySem.W.looks_mroIn X Z.km)
  refine codeAny_call_builtin SF.slot.plain SF.entry (@PySem.W.check_slot (model prog w) _ _ ⟨h, g, d, t + 1, os⟩ "object.__setattr__" "object" "__setattr__" (.ref x) [.str name t, v] [] _ SF.kind SF.split sub (SF.args (.ref x) (.str name t) v) ?_)
  show wpAny _ _ (Builtin.«object.__setattr__» ⟨[.ref x, .str name t, v], []⟩) _ _ _
  rw [PySem.W.osa_eq, refuse_eq]
  have hm : PySem.W.Looks (model prog w) h (mroOf (.ref C)) cd.mro := (PySem.W.looks_clsIn X hcd).andThen .now
  refine wpAny_bind (wpAny_bind (L0.at (wpAny_bind (hm.at ?_))))
  rw [hmro, (VeTail.step vt).passes]
  refine wpAny_pure (wpAny_bind (L0.at (wpAny_bind (Ln.at (wpAny_bind (wpAny_pure ?_))))))
  show wpAny _ _ (Builtin.ObjectAttr.storeInOwnDict (.ref x) (.ref C) (.str name t) name v _) _ _ _
  unfold Builtin.ObjectAttr.storeInOwnDict
  refine wpAny_bind (wpAny_pure ?_)
  show wpAny _ _ (instanceDict x true >>= _) _ _ _
  unfold instanceDict
  rcases hd with ⟨hdn, hmA⟩ | ⟨dx, hdx, hne, hns⟩
  . repeat (first | (with_reducible refine wpAny_loadPart_at hx ?_; rw [hc]) | with_reducible refine wpAny_loadPart_at hC ?_ | wp_step)
    rw [hdn, if_neg (by simp [typeHasDict])]
    have mk : ∀ {Q' : Option Addr -> Shared -> Prop} {E' : Value -> Shared -> Prop}, wpAny (model prog w) A.in1 (do
        let d <- alloc { cls := Value.type "dict", data := Data.dict #[] }
        update x fun o => { cls := o.cls, dict := some d, data := o.data, slots := o.slots }
        dictMade (Value.ref C) x d) Q' E' ⟨h, g, d, t + 1, os⟩ -> wpAny (model prog w) A.in1 (match o.data with
      | .cls c => pure none
      | _ => do
        let d <- alloc { cls := Value.type "dict", data := Data.dict #[] }
        update x fun o => { cls := o.cls, dict := some d, data := o.data, slots := o.slots }
        dictMade (Value.ref C) x d) Q' E' ⟨h, g, d, t + 1, os⟩ := fun {Q' E'} q => by
      split
      . rename_i c hcd'
        exact absurd hcd' (hnc c)
      . exact q
    refine mk ?_
    have hx₁ : (h.push { cls := .type "dict", data := .dict #[] }).get? x = some o := Heap.get?_push_of_some _ hx
    have hxs : x ≠ h.objs.size := Nat.ne_of_lt (Heap.lt_size hx)
    refine wpAny_bind (wpAny_alloc' ?_)
    refine wpAny_bind (wpAny_update' hx₁ ?_)
    refine wpAny_pure ?_
    have gd : ((h.push { cls := .type "dict", data := .dict #[] }).update x fun o => { cls := o.cls, dict := some h.objs.size, data := o.data, slots := o.slots }).get? h.objs.size = some { cls := .type "dict", data := .dict #[] } :=
      (Heap.get?_update_ne _ _ _ _ hxs.symm).trans (Heap.get?_push_at rfl rfl)
    have nd : ((h.push { cls := .type "dict", data := .dict #[] }).update x fun o => { cls := o.cls, dict := some h.objs.size, data := o.data, slots := o.slots }).Ns h.objs.size (fun _ => none) := ⟨_, #[], _, gd, rfl, fun e he => absurd he (by simp), fun _ => rfl⟩
    show wpAny _ _ (Builtin.ObjectAttr.storeInDict h.objs.size (.str name t) name v) _ _ _
    unfold Builtin.ObjectAttr.storeInDict Builtin.ObjectAttr.newKeyGuard
    refine wpAny_bind (wpAny_pure (wpAny_bind (wpAny_nsSet1 (Heap.Ns1.of_empty nd) fun h' hn' hs => ?_)))
    obtain ⟨oD, esD, epD, hoD, hdD, hcD⟩ := hn'.count (Within.cons name v Within.nil)
    refine wpAny_bind (wpAny_lookBehind hoD (by rw [hdD]; exact pastItsLine_dict (Nat.le_trans hcD (by rw [List.length_cons, List.length_nil, sizeLine_eq]; omega))) ?_)
    refine wpAny_pure (wpAny_pure (wpAny_pure ?_))
    have hx' : h'.get? x = some { cls := o.cls, dict := some h.objs.size, data := o.data, slots := o.slots } := by
      refine (hs.2 x hxs).trans (Heap.get?_update_self _ hx₁ ?_)
      have hfr := (Heap.get?_some_iff.mp hx).2
      obtain ⟨oc, od, odt, osl⟩ := o
      cases odt <;> first | rfl | exact hfr
    refine hq h' _ ⟨_, hx', hc, hnc, .inr ⟨h.objs.size, rfl, hxs.symm, ?_⟩⟩ (fun b ob hbx _ hb => (hs.2 b (Nat.ne_of_lt (Heap.lt_size hb))).trans ((Heap.get?_update_ne _ _ _ _ hbx).trans (Heap.get?_push_of_some _ hb))) fun o₀ h₀ => ?_
    . obtain ⟨o', es, ep, e1, e2, e3, eu, e4⟩ := hn'
      exact ⟨o', es, ep, e1, e2, e3, eu, fun y => by rw [e4 y]; by_cases hy : y = name <;> simp [hy, hmA]⟩
    . obtain rfl : o = o₀ := Option.some.inj (hx.symm.trans h₀)
      exact ⟨_, hx', rfl, rfl, rfl, (fun dx e => by rw [hdn] at e; cases e), fun _ => rfl⟩
  . repeat (first | (with_reducible refine wpAny_loadPart_at hx ?_; rw [hc]) | with_reducible refine wpAny_loadPart_at hC ?_ | wp_step)
    rw [hdx]
    refine wpAny_pure ?_
    show wpAny _ _ (Builtin.ObjectAttr.storeInDict dx (.str name t) name v) _ _ _
    unfold Builtin.ObjectAttr.storeInDict Builtin.ObjectAttr.newKeyGuard
    refine wpAny_bind (wpAny_pure (wpAny_bind (wpAny_nsSet1 hns fun h' hn' hs => ?_)))
    obtain ⟨oD, esD, epD, hoD, hdD, hcD⟩ := hn'.count (Within.cons name v hw)
    refine wpAny_bind (wpAny_lookBehind hoD (by rw [hdD]; exact pastItsLine_dict (Nat.le_trans hcD (by rw [List.length_cons, sizeLine_eq]; omega))) ?_)
    refine wpAny_pure (wpAny_pure (wpAny_pure ?_))
    refine hq h' _ ⟨o, (hs.2 x hne.symm).trans hx, hc, hnc, .inr ⟨dx, hdx, hne, hn'⟩⟩ (fun b ob _ hbd hb => (hs.2 b (hbd o dx hx hdx)).trans hb) fun o₀ h₀ => ?_
    obtain rfl : o = o₀ := Option.some.inj (hx.symm.trans h₀)
    exact ⟨o, (hs.2 x hne.symm).trans h₀, rfl, rfl, rfl, fun _ e => e, fun e => by rw [hdx] at e; cases e⟩
end
def Vs0 (vs : Array Value) : Prop := (∃ t, vs[0]? = some (.ref t)) /\ vs[1]? = some .none
def ErrO (x C : Addr) (d : Option Addr) (h : Heap) : Prop := ∃ o vs, h.get? x = some o /\ o.cls = .ref C /\ o.data = .fields vs /\ Vs0 vs /\ o.dict = d
def z2R (x C : Addr) (d : Option Addr) (h : Heap) : Prop := ∃ o vs, h.get? x = some o /\ o.cls = .ref C /\ o.data = .fields vs /\ o.dict = d
theorem ErrO.t {x C : Addr} {d : Option Addr} {h : Heap} (I : ErrO x C d h) : z2R x C d h := let ⟨o, vs, a, b, c, _, e⟩ := I; ⟨o, vs, a, b, c, e⟩
theorem Vs0.pos {vs : Array Value} (h : Vs0 vs) : 0 < vs.size := let ⟨⟨_, e⟩, _⟩ := h; (Array.getElem?_eq_some_iff.mp e).1
theorem Vs0.put {vs : Array Value} (h : Vs0 vs) (t : Addr) : Vs0 (vs.setIfInBounds 0 (.ref t)) := ⟨⟨t, by simp [h.pos]⟩, by rw [Array.getElem?_setIfInBounds_ne (by decide)]; exact h.2⟩
section
variable {prog : Program} {w : World} {A : Around} {E : Value -> Shared -> Prop} {s : Shared} {K : PySem.W.Frag} {x C : Addr}
theorem z3J {rest : List Value} {d : Option Addr} {Q : Value -> Shared -> Prop} (X : K.In s.heap) (Z : XE K C) (I : ErrO x C d s.heap) (hz : rest.length <= sizeLine)
    (h : ∀ h' : Heap, (∀ b o, b ≠ x -> s.heap.get? b = some o -> h'.get? b = some o) -> ErrO x C d h' -> Q .none { s with heap := h' }) : wpAny (model prog w) A (call (.builtin "ValueError.__init__") (.ref x :: rest)) Q E s := by
  obtain ⟨hh, g, dr, t, os⟩ := s
  obtain ⟨bm, N, nm, qn, bs, sn, sub, ab, col, dd, k0, k1, k2, k3, k5, mN, hC, hN, T, _⟩ := XE.obj X Z
  obtain ⟨o, vs, hx, hc, hd, hv0', hdi⟩ := I
  have hvs := hv0'.pos
  have FB := F.excBase_ValueError
  refine wpAny_call (codeAny_call_builtin FB.init.plain FB.initEntry (wpAny_check_init_subU FB T hC hx hc ?_))
  show wpAny _ _ (newTuple rest >>= fun tp => Builtin.BaseException.bexcPut (.ref x) 0 tp >>= fun _ => ret .none) _ _ _
  refine wpAny_bind (wpAny_newTuple ?_ hz)
  have hx1 : (hh.push { cls := .type "tuple", data := .seq rest.toArray }).get? x = some o := Heap.get?_push_of_some _ hx
  refine wpAny_bind ?_
  unfold Builtin.BaseException.bexcPut
  obtain ⟨v0, hv0⟩ : ∃ v0, vs[0]? = some v0 := ⟨_, getElem?_pos vs 0 hvs⟩
  refine wpAny_bind (wpAny_field hx1 hd hv0 ?_)
  refine wpAny_bind (wpAny_setField hx1 hd hvs ?_)
  have hfr : (Obj.mapFields (·.setIfInBounds 0 (.ref hh.objs.size)) o).isFreed = false := by
    obtain ⟨oc, od, odt, osl⟩ := o
    cases (show odt = .fields vs from hd)
    rfl
  have hx2 : ((hh.push { cls := .type "tuple", data := .seq rest.toArray }).update x (Obj.mapFields (·.setIfInBounds 0 (.ref hh.objs.size)))).get? x = some (Obj.mapFields (·.setIfInBounds 0 (.ref hh.objs.size)) o) := Heap.get?_update_self _ hx1 hfr
  have fin : Q .none ⟨(hh.push { cls := .type "tuple", data := .seq rest.toArray }).update x (Obj.mapFields (·.setIfInBounds 0 (.ref hh.objs.size))), g, dr, t, os⟩ := by
    refine h _ (fun b ob hb e => (Heap.get?_update_ne _ _ _ _ hb).trans (Heap.get?_push_of_some _ e)) ⟨_, vs.setIfInBounds 0 (.ref hh.objs.size), hx2, ?_⟩
    obtain ⟨oc, od, odt, osl⟩ := o
    cases (show odt = .fields vs from hd)
    exact ⟨hc, rfl, hv0'.put _, hdi⟩
  cases v0 with
  | ref a => exact wpAny_letGo (wpAny_pure fin)
  | _ => exact wpAny_pure (wpAny_pure fin)
end
section
variable {prog : Program} {w : World} {A : Around} {E : Value -> Shared -> Prop} {s : Shared} {K : PySem.W.Frag} {C : Addr}
abbrev z3t (h : Heap) (C : Addr) (rest : List Value) : Heap := (h.push { cls := .type "tuple", data := .seq rest.toArray }).push (z3I C h.objs.size)
theorem z1H {h : Heap} {rest : List Value} {b : Addr} {o : Obj} (e : h.get? b = some o) : (z3t h C rest).get? b = some o := Heap.get?_push_of_some _ (Heap.get?_push_of_some _ e)
theorem z3K {h : Heap} {rest : List Value} : ErrO (h.objs.size + 1) C none (z3t h C rest) := ⟨z3I C h.objs.size, _, by heap_get, rfl, rfl, ⟨⟨_, rfl⟩, rfl⟩, rfl⟩
theorem z3u {rest : List Value} {fI : Value} {Q : Value -> Shared -> Prop} (X : K.In s.heap) (Z : XE K C) (hi : PySem.W.findIn K (.ref C) "__init__" = some (some fI)) (hb : ∀ x : Addr, PySem.W.Looks (model prog w) (z3t s.heap C rest) (bindSpecial fI (.ref x)) (fI, [.ref x])) (hz : rest.length <= sizeLine)
    (h : wpAny (model prog w) (A.under (.builtin "type.__call__" ⟨.ref C :: rest, []⟩)) (call fI (.ref (s.heap.objs.size + 1) :: rest)) (fun r s' => r = .none /\ Q (.ref (s.heap.objs.size + 1)) s') E { s with heap := z3t s.heap C rest }) :
    wpAny (model prog w) A (call (.ref C) rest) Q E s := by
  obtain ⟨hh, g, dr, t, os⟩ := s
  obtain ⟨bm, N, nm, qn, bs, sn, sub, ab, col, dd, k0, k1, k2, k3, k5, mN, hC, hN, T, _⟩ := XE.obj X Z
  have FB := F.excBase_ValueError
  have f1 := tc_lookup
  have f2 := tc_bind (.ref C)
  have hT : (⟨hh, g, dr, t, os⟩ : Shared).TypeIs (.ref C) "type" := ⟨_, hC, rfl⟩
  have body : ∀ {Q' : PySem.Fin -> Shared -> Prop} {A' : Around}, wpAny (model prog w) A' (call fI (.ref (hh.objs.size + 1) :: rest)) (fun r s' => r = .none /\ Q' (.done (.ret (.ref (hh.objs.size + 1)))) s') E ⟨z3t hh C rest, g, dr, t, os⟩ ->
      wpAny (model prog w) A' (Builtin.«type.__call__» ⟨.ref C :: rest, []⟩) Q' E ⟨hh, g, dr, t, os⟩ := by
    intro Q' A' hq
    repeat (first
      | with_reducible refine wpAny_loadPart_at hC ?_
      | with_reducible refine wpAny_madeBy_exc hC ?_
      | wp_step)
    refine codeAny_call_builtin_code (Code.quiet_builtin _ FB.quiet) (wpAny_check_new_subU FB FB.hasB T hC ?_)
    refine codeAny_exc_new_subU FB FB.hasB FB T hC ?_ hz
    show wpAny _ _ _ _ _ _
    have hC1 := z1H (C := C) (rest := rest) hC
    have X1 : K.In (z3t hh C rest) := X.keeps fun b o e => z1H e
    have hX : (z3t hh C rest).get? (hh.objs.size + 1) = some (z3I C hh.objs.size) := by heap_get
    have hcC : (Value.ref C :: bm).contains (.ref C) = true := by simp
    unfold isInstance
    repeat (first
      | with_reducible refine wpAny_loadPart_at hX ?_
      | (with_reducible refine wpAny_isSubtype_exc hC1 ?_; rw [hcC])
      | wp_step)
    show wpAny _ _ (typeLookup (.ref C) _) _ _ _
    refine (PySem.W.looks_findIn X1 hi).at ?_
    refine wpAny_holding (wpAny_bind ((hb (hh.objs.size + 1)).at ?_))
    refine wpAny_bind (wpAny_mono hq (fun r s' hr => ?_) fun _ _ z => z)
    obtain ⟨rfl, hQ⟩ := hr
    wp_walk
    exact hQ
  refine wpAny_call (codeAny_of_tree ?_)
  show wpAny _ _ (callAny (.ref C) _) _ _ _
  repeat (any_goals (first
    | assumption
    | with_reducible refine wpAny_loadPart_at hC ?_
    | wp_step))
  refine ⟨rfl, ?_⟩
  exact codeAny_call_builtin_at (Code.quiet_builtin _ (by decide +kernel)) entry_typeCall (wpAny_check_type_call_sub hC (body h))
end
def z2A (a : Addr) (fs : List (Str × V)) (h : Heap) : Prop := ∃ mA, h.Ns1 a mA /\ (∀ f, RelO (fs.lookup f) (mA f)) /\ PySem.Within mA (fs.map (·.1))
theorem z18 {prog : Program} {w : World} {H : Hp} {h : Heap} {x C : Addr} {d : Option Addr} (I : ErrO x C d h) : ObjOk prog w H h x (.ext (ErrO x C d)) :=
  ⟨I, (let ⟨o, _, e, _⟩ := I; ⟨o, e⟩), fun _ _ y k => let ⟨o, vs, e, r⟩ := y; ⟨o, vs, k o e, r⟩⟩
theorem z2B {prog : Program} {w : World} {H : Hp} {h : Heap} {a : Addr} {fs : List (Str × V)} (I : z2A a fs h) : ObjOk prog w H h a (.ext (z2A a fs)) :=
  ⟨I, (let ⟨_, ⟨o, _, _, e, _⟩, _⟩ := I; ⟨o, e⟩), fun _ _ y k => let ⟨mA, ⟨o, es, ep, e, r⟩, q⟩ := y; ⟨mA, ⟨o, es, ep, k o e, r⟩, q⟩⟩
theorem z3v {prog : Program} {w : World} {H : Hp} {h : Heap} {x C : Addr} {d : Option Addr} (I : z2R x C d h) : ObjOk prog w H h x (.ext (z2R x C d)) :=
  ⟨I, (let ⟨o, _, e, _⟩ := I; ⟨o, e⟩), fun _ _ y k => let ⟨o, vs, e, r⟩ := y; ⟨o, vs, k o e, r⟩⟩
def HasE (H : Hp) (x C : Addr) (d : Option Addr) : Prop := H x = some (.ext (ErrO x C d)) \/ H x = some (.ext (z2R x C d))
def ErrAt (H : Hp) (x C : Addr) (fs : List (Str × V)) : Prop :=
  (fs = [] /\ HasE H x C none) \/ ∃ dx, dx ≠ x /\ HasE H x C (some dx) /\ H dx = some (.ext (z2A dx fs))
theorem HasE.mono {H H' : Hp} {x C : Addr} {d : Option Addr} (s : Same H H') (h : HasE H x C d) : HasE H' x C d := h.imp (s _ _) (s _ _)
theorem ErrAt.mono {H H' : Hp} {x C : Addr} {fs : List (Str × V)} (s : Same H H') (h : ErrAt H x C fs) : ErrAt H' x C fs := by
  rcases h with ⟨e, h⟩ | ⟨dx, n, h1, h2⟩
  . exact .inl ⟨e, h.mono s⟩
  . exact .inr ⟨dx, n, h1.mono s, s _ _ h2⟩
section
variable {X : Cx} {pins : List (Addr × Obj)} {σ : St} {H : Hp} {s : Shared}
theorem Inv.errO {x C : Addr} {d : Option Addr} (I : Inv X pins σ H s) (e : H x = some (.ext (ErrO x C d))) : ErrO x C d s.heap := (show ObjOk X.prog X.w H s.heap x (.ext (ErrO x C d)) from I.hok x _ e).1
theorem Inv.errT {x C : Addr} {d : Option Addr} (I : Inv X pins σ H s) (e : HasE H x C d) : z2R x C d s.heap := by
  rcases e with e | e
  . exact (I.errO e).t
  . exact (show ObjOk X.prog X.w H s.heap x (.ext (z2R x C d)) from I.hok x _ e).1
theorem Inv.errD {a : Addr} {fs : List (Str × V)} (I : Inv X pins σ H s) (e : H a = some (.ext (z2A a fs))) : z2A a fs s.heap := (show ObjOk X.prog X.w H s.heap a (.ext (z2A a fs)) from I.hok a _ e).1
theorem Inv.err {x C : Addr} {fs : List (Str × V)} (I : Inv X pins σ H s) (h : ErrAt H x C fs) : ∃ mA, s.heap.Inst x C mA /\ (∀ f, RelO (fs.lookup f) (mA f)) /\ PySem.Within mA (fs.map (·.1)) := by
  rcases h with ⟨rfl, h⟩ | ⟨dx, n, h1, h2⟩
  . obtain ⟨o, vs, e, c, d, hd⟩ := I.errT h
    exact ⟨fun _ => none, ⟨o, e, c, (fun z q => by rw [d] at q; cases q), .inl ⟨hd, fun _ => rfl⟩⟩, fun f => trivial, PySem.Within.nil⟩
  . obtain ⟨o, vs, e, c, d, hd⟩ := I.errT h1
    obtain ⟨mA, hn, r, hw⟩ := I.errD h2
    exact ⟨mA, ⟨o, e, c, (fun z q => by rw [d] at q; cases q), .inr ⟨dx, hd, n, hn⟩⟩, r, hw⟩
theorem Inv.excAt {x C : Addr} {fs : List (Str × V)} (I : Inv X pins σ H s) (h : ErrAt H x C fs) : ExcAt x C s.heap := by
  rcases h with ⟨rfl, h⟩ | ⟨dx, n, h, _⟩
  . obtain ⟨o, vs, e, c, _⟩ := I.errT h
    exact ⟨o, e, c⟩
  . obtain ⟨o, vs, e, c, _⟩ := I.errT h
    exact ⟨o, e, c⟩
theorem z3L : CallR X (.builtin "isinstance") (fun xs H Q => ∃ x C fs y u b, xs = [.ref x, y] /\ ErrAt H x C fs /\ XE X.K C /\ z6R y = some u /\ PySem.W.kitOne X.K (.ref C) u = some b /\ Q (.bl b) H) := by
  intro pins s σ H xs us Q I r h
  obtain ⟨x, C, fs, y, u, b, rfl, hx, Z, hy, e, q⟩ := h
  obtain ⟨v, w', rfl, rx, ry⟩ := vals2 r
  cases (show v = Value.ref x from rx)
  cases (z4f hy ry)
  exact PySem.W.kia_one (z3s Z) I.kIn (I.excAt hx) e (fun z => nomatch z) fun tk => ⟨.bl b, H, I.tok tk, rfl, q⟩
def z8D (K : PySem.W.Frag) (te : TE) (f : Str) : TE := fun σ H Q => te σ H fun v H1 => ∃ x C fs z, v = .ref x /\ ErrAt H1 x C fs /\ XE K C /\ PySem.W.findIn K (.ref C) f = some none /\ fs.lookup f = some z /\ Q z H1
def z6S (K : PySem.W.Frag) (ta tv : TE) (f : Str) : TS := fun D σ H => tv σ H fun y H1 => ta σ H1 fun v H2 => ∃ x C, v = .ref x /\ H2 x = some (.ext (ErrO x C none)) /\ XE K C /\ PySem.W.findIn K (.ref C) f = some none /\
  ∀ d, H2 d = none -> d ≠ x -> D.nx σ (upd (upd H2 x (.ext (ErrO x C (some d)))) d (.ext (z2A d [(f, y)])))
theorem z4g {o value : Expr} {ta tv : TE} {f : Str} {pos pos' : Pos} (ha : PE X o ta) (hv : PE X value tv) (hs : swapsWith value (some (.Attribute o f pos')) pos.line X.env = pure false) : PS X (.Assign [.Attribute o f pos'] value pos) (z6S X.K ta tv f) := by
  intro pins s σ H D I h
  refine plainObj_wpAny_Assign_Attribute (thn (hv pins s σ H _ I h) fun u s1 ⟨y, H1, I1, ry, q⟩ => thn (ha pins s1 σ H1 _ I1 q) fun ov s2 ⟨v, H2, I2, rv, x, C, ev, hx, Z, hn, q2⟩ => ?_) hs
  subst ev
  obtain rfl : ov = Value.ref x := rv
  obtain ⟨mA, hi, rl, hw⟩ := I2.err (.inl ⟨rfl, .inl hx⟩ : ErrAt H2 x C [])
  have hmA : ∀ g, mA g = none := fun g => by
    have r := rl g
    cases hm : mA g with
    | none => rfl
    | some z => rw [hm] at r; exact r.elim
  refine z1k I2.kIn Z hn hi (fun h' tk' hi' hk hso => ?_) hw (by show 0 <= 1000; decide)
  obtain ⟨o0, vs, e0, c0, d0, hvs, hd0⟩ := I2.errO hx
  obtain ⟨o1, g1, g2, g3, _, _, g6⟩ := hso o0 e0
  have g6 := g6 hd0
  have hxlt : x < s2.heap.objs.size := Heap.lt_size e0
  have hdx : s2.heap.objs.size ≠ x := Nat.ne_of_gt hxlt
  have hfree : H2 s2.heap.objs.size = none := I2.hok.fresh (Nat.le_refl _)
  have keep : ∀ b u, b ≠ x -> s2.heap.get? b = some u -> h'.get? b = some u := fun b u hb e => hk b u hb (fun o₀ dx e1 e2 => by
    rw [e0] at e1
    cases e1
    rw [hd0] at e2
    cases e2) e
  have EO : ErrO x C (some s2.heap.objs.size) h' := ⟨o1, vs, g1, g2.trans c0, g3.trans d0, hvs, g6⟩
  have J1 : Inv X pins σ (upd H2 x (.ext (ErrO x C (some s2.heap.objs.size)))) { s2 with heap := h', toks := tk' } := I2.write (x := x) (e := x) (by rw [hx]; trivial) (.inl rfl) keep ⟨_, g1⟩ (z18 EO)
  have ED : z2A s2.heap.objs.size [(f, y)] h' := by
    obtain ⟨o2, k1, k2, _, k4⟩ := hi'
    rw [g1] at k1
    cases k1
    rcases k4 with ⟨z, _⟩ | ⟨dx, z1, z2, z3⟩
    . rw [g6] at z; cases z
    . rw [g6] at z1
      cases z1
      refine ⟨_, z3, fun g => ?_, ?_⟩
      . rw [List.lookup_cons]
        by_cases hg : g = f
        . subst hg
          simp only [beq_self_eq_true, if_true]
          exact ry
        . rw [beq_eq_false_iff_ne.mpr hg]
          simp only [hg, if_false, hmA]
          trivial
      . exact Within.cons f u (ns := []) (by
          have : mA = fun _ => none := funext hmA
          rw [this]
          exact Within.nil)
  have Fd := I2.fpOk (H' := upd H2 x (.ext (ErrO x C (some s2.heap.objs.size)))) (b := s2.heap.objs.size) (Nat.le_refl _) (by rw [z07 hdx]; exact hfree)
  have J2 := J1.adopt (h' := h') (tk := tk') (o := .ext (z2A s2.heap.objs.size [(f, y)])) Fd (fun _ _ _ e => e) (let ⟨_, ⟨o, _, _, e, _⟩, _⟩ := ED; ⟨o, e⟩) (z2B ED)
  exact ⟨σ, _, J2, q2 _ hfree hdx⟩
def z6T (K : PySem.W.Frag) (ta tv : TE) (f : Str) : TS := fun D σ H => tv σ H fun y H1 => ta σ H1 fun v H2 => ∃ x C dx fs, v = .ref x /\ dx ≠ x /\ H2 x = some (.ext (ErrO x C (some dx))) /\ H2 dx = some (.ext (z2A dx fs)) /\ fs.length <= 900 /\ XE K C /\ PySem.W.findIn K (.ref C) f = some none /\
  D.nx σ (upd H2 dx (.ext (z2A dx ((f, y) :: fs))))
theorem z4h {o value : Expr} {ta tv : TE} {f : Str} {pos pos' : Pos} (ha : PE X o ta) (hv : PE X value tv) (hs : swapsWith value (some (.Attribute o f pos')) pos.line X.env = pure false) : PS X (.Assign [.Attribute o f pos'] value pos) (z6T X.K ta tv f) := by
  intro pins s σ H D I h
  refine plainObj_wpAny_Assign_Attribute (thn (hv pins s σ H _ I h) fun u s1 ⟨y, H1, I1, ry, q⟩ => thn (ha pins s1 σ H1 _ I1 q) fun ov s2 ⟨v, H2, I2, rv, x, C, dx, fs, ev, hne, hx, hdx, hfs, Z, hn, q2⟩ => ?_) hs
  subst ev
  obtain rfl : ov = Value.ref x := rv
  obtain ⟨o0, vs, e0, c0, d0, hvs, hd0⟩ := I2.errO hx
  obtain ⟨mA, hns, rl, hw⟩ := I2.errD hdx
  have hi : s2.heap.Inst x C mA := ⟨o0, e0, c0, (fun z q => by rw [d0] at q; cases q), .inr ⟨dx, hd0, hne, hns⟩⟩
  refine z1k I2.kIn Z hn hi (fun h' tk' hi' hk hso => ?_) hw (by rw [List.length_map]; omega)
  obtain ⟨o1, g1, g2, g3, g4, g5, _⟩ := hso o0 e0
  have g5' := g5 dx hd0
  have hx1 : h'.get? x = some o0 := by
    obtain ⟨c1, d1, da1, sl1⟩ := o1
    obtain ⟨c2, d2, da2, sl2⟩ := o0
    have q2' : c1 = c2 := g2
    have q3 : da1 = da2 := g3
    have q4 : sl1 = sl2 := g4
    have q5 : d1 = d2 := (show d1 = some dx from g5').trans (show d2 = some dx from hd0).symm
    subst q2' q3 q4 q5
    exact g1
  have keep : ∀ b u, b ≠ dx -> s2.heap.get? b = some u -> h'.get? b = some u := fun b u hb e => by
    by_cases hbx : b = x
    . subst hbx
      rw [e0] at e
      cases e
      exact hx1
    . exact hk b u hbx (fun o₀ d' e1 e2 => by
        rw [e0] at e1
        cases e1
        rw [hd0] at e2
        cases e2
        exact hb) e
  have ED : z2A dx ((f, y) :: fs) h' := by
    obtain ⟨o2, k1, k2, _, k4⟩ := hi'
    rw [hx1] at k1
    cases k1
    rcases k4 with ⟨z, _⟩ | ⟨d', z1, z2, z3⟩
    . rw [hd0] at z; cases z
    . rw [hd0] at z1
      cases z1
      refine ⟨_, z3, fun g => ?_, Within.cons f u hw⟩
      rw [List.lookup_cons]
      by_cases hg : g = f
      . subst hg
        simp only [beq_self_eq_true, if_true]
        exact ry
      . rw [beq_eq_false_iff_ne.mpr hg]
        simp only [hg, if_false]
        exact rl g
  exact ⟨σ, _, I2.write (x := dx) (e := dx) (by rw [hdx]; trivial) (.inl rfl) keep (let ⟨_, ⟨o, _, _, e, _⟩, _⟩ := ED; ⟨o, e⟩) (z2B ED), q2⟩
end
def PF (X : Cx) (e : Expr) (t : St -> Hp -> Prop) : Prop := ∀ (pins : List (Addr × Obj)) (s : Shared) (σ : St) (H : Hp), Inv X pins σ H s -> t σ H ->
  wpAny (model X.prog X.w) X.A (eval e X.env) (fun v s' => ∃ y u, v = .str y u /\ y.length <= 100000 /\ Inv X pins σ H s') X.xe s
def z4w : V -> Prop
  | .non => True
  | .int a => a.natAbs.log2 < 1920
  | _ => False
section
variable {X : Cx}
theorem z3M {z : Str} {j : Nat} {pos : Pos} : PF X (.Constant (.str z) j pos) (fun _ _ => z.length <= 100000) := fun pins s σ H I h => Calls.Constant_str ⟨z, _, rfl, h, I.tok _⟩
theorem z5Z {e : Expr} {te : TE} {pos : Pos} (he : PE X e te) : PF X (.FormattedValue e (-1) none pos) (fun σ H => te σ H fun v H' => z4w v /\ H' = H) := by
  intro pins s σ H I h
  refine wpAny_FormattedValue_plain (thn (he pins s σ H _ I h) fun u s1 ⟨v, H1, I1, rv, hf, e1⟩ => ?_)
  subst e1
  cases v with
  | non =>
    cases (show u = Value.none from rv)
    exact wpAny_formatField_none ⟨_, _, rfl, by decide, I1.tok _⟩
  | int a =>
    obtain ⟨t, rfl⟩ := rv
    have hl : a.natAbs.log2 < 1920 := hf
    refine wpAny_formatField_int hl ⟨_, _, rfl, ?_, I1.tok _⟩
    have := int_text_length_le (k := 1920) (by decide) hl
    rw [PySem.ofString_length]
    omega
  | _ => exact hf.elim
theorem z4i {e : Expr} {te : TE} {pos : Pos} (he : PE X e te) : PF X (.FormattedValue e 114 none pos) (fun σ H => te σ H fun v H' => (∃ z, v = .str z /\ (reprText z).length <= 100000) /\ H' = H) := by
  intro pins s σ H I h
  refine wpAny_FormattedValue_repr (thn (he pins s σ H _ I h) fun u s1 ⟨v, H1, I1, rv, ⟨z, ez, hz⟩, e1⟩ => ?_)
  subst e1 ez
  obtain ⟨t, rfl⟩ := (show ∃ t, u = Value.str z t from rv)
  have hz' : (reprText z).length <= sizeLine := Nat.le_trans hz (by decide)
  refine wpAny_pyReprObj_str ?_ hz'
  exact wpAny_formatField_str ⟨_, _, rfl, hz, I1.tok _⟩ ⟨_, _, rfl, hz, I1.tok _⟩ hz'
def PFs (X : Cx) (es : List Expr) (t : St -> Hp -> Prop) : Prop := ∀ (pins : List (Addr × Obj)) (σ : St) (H : Hp), t σ H -> ∀ (s : Shared) (acc : Str) (Q : Str -> Shared -> Prop), Inv X pins σ H s -> acc.length + 100000 * es.length <= sizeLine ->
  (∀ out s', Inv X pins σ H s' -> out.length <= sizeLine -> Q out s') -> Joins (model X.prog X.w) X.A X.xe (evalEach es X.env) acc Q s
theorem z4j : PFs X [] (fun _ _ => True) := fun _ _ _ _ s acc Q I hz h => h acc s I (by simpa using hz)
theorem z19 {e : Expr} {es : List Expr} {t u : St -> Hp -> Prop} (he : PF X e t) (hr : PFs X es u) (hev : evalEach (e :: es) X.env = eval e X.env :: evalEach es X.env := by rfl) : PFs X (e :: es) (fun σ H => t σ H /\ u σ H) := by
  intro pins σ H ⟨h1, h2⟩ s acc Q I hz h
  rw [hev]
  rw [List.length_cons] at hz
  refine thn (he pins s σ H I h1) fun v s1 ⟨y, tk, ev, hy, I1⟩ => ⟨y, tk, ev, ?_, ?_⟩
  . rw [strLen_append]
    omega
  . exact hr pins σ H h2 s1 (acc ++ y) Q I1 (by rw [strLen_append]; omega) h
def z6U (t : St -> Hp -> Prop) : TE := fun σ H Q => t σ H /\ ∀ z, Q (.str z) H
theorem z4k {v₁ v₂ : Expr} {rest : List Expr} {pos : Pos} {t : St -> Hp -> Prop} (h : PFs X (v₁ :: v₂ :: rest) t) (hl : rest.length <= 100 := by decide) : PE X (.JoinedStr (v₁ :: v₂ :: rest) pos) (z6U t) := by
  intro pins s σ H Q I ⟨ht, hq⟩
  refine wpAny_JoinedStr (h pins σ H ht s Str.empty _ I ?_ fun out s' I' ho => ⟨ho, ⟨.str out, H, I'.tok _, ⟨_, rfl⟩, hq out⟩⟩)
  have e0 : Str.empty.length = 0 := by decide
  rw [e0, List.length_cons, List.length_cons, sizeLine_eq]
  omega
structure Gi (K : PySem.W.Frag) (G : Addr) : Prop where
  sp : PySem.W.specialIn K (.ref G) "__getattribute__" = some (some (.builtin "type.__getattribute__"))
  rd : PySem.W.readsIn K G (.type "type") = true
  fd : PySem.W.findCls K (.ref G) (.type "type") "__init__" = some (.val (.builtin "ValueError.__init__"))
def z5a (K : PySem.W.Frag) (t : TA) : TE := fun σ H Q => t σ H fun vs H2 => ∃ x C d y, vs = [.ref x, y] /\ H2 x = some (.ext (ErrO x C d)) /\ XE K C /\ Q .non H2
theorem z5b {H : Hp} {a : Addr} {o : HO} (h : H a = some o) : upd H a o = H := by
  funext b
  unfold upd
  split
  . rename_i e; rw [e, h]
  . rfl
theorem z3w {gn : Str} {G : Addr} {e : Expr} {es : List Expr} {t : TA} {p1 p2 p3 : Pos} {pl : Sem Bool} (hg : Gl X gn) (hm : X.mg gn = some (.ref G)) (Z : Gi X.K G) (ha : PA X (e :: es) t) (hd : (gn == ("__debug__" : Str)) = false := by decide)
    (hs : starEach (e :: es) X.env = (false, eval e X.env) :: starEach es X.env := by rfl) (hplain : (backTo p3 (starEach es X.env)).any (·.1) = false := by rfl)
    (ht : eval (.Call (.Attribute (.Name gn p1) "__init__" p2) (e :: es) [] p3) X.env = (do
      let ov <- eval (.Name gn p1) X.env
      standAt p2.atName
      let (f, first) <- holding [ov] (getMethod ov "__init__" pl)
      callWith p3 f first (backTo p3 (starEach (e :: es) X.env)) (backToKw p3 (keywordEach [] X.env))) := by rfl) :
    PE X (.Call (.Attribute (.Name gn p1) "__init__" p2) (e :: es) [] p3) (z5a X.K t) := by
  intro pins s σ H Q I h
  refine PySem.W.methodCall_KW (pl := pl) (z0x I hg hm ?_ hd) ht
  refine PySem.W.method_cls I.kIn Z.sp ?_
  refine PySem.W.cls_value I.kIn Z.rd Z.fd rfl ?_
  have hA := ha p3 pins _ σ H _ (I.tok (s.toks + 1)) h
  rw [hs] at hA ⊢
  refine Calls.callWith_builtin (by show (false || (backTo p3 (starEach es X.env)).any (·.1)) = false; rw [hplain] <;> rfl) (Calls.evalArgs_plain ?_)
  refine thn hA fun us s1 ⟨vs, H2, I1, r, x, C, d, y, ev, hx, ZC, q⟩ => ?_
  subst ev
  obtain ⟨u1, u2, rfl, r1, r2⟩ := vals2 r
  cases (show u1 = Value.ref x from r1)
  refine z3J I1.kIn ZC (I1.errO hx) (by show 1 <= sizeLine; decide) fun h' hk ho => ?_
  have J := I1.write (x := x) (e := x) (t' := s1.toks) (by rw [hx]; trivial) (.inl rfl) (fun b u hb z => hk b u hb z) (let ⟨o, _, z, _⟩ := ho; ⟨o, z⟩) (z18 ho)
  rw [z5b hx] at J
  exact ⟨.non, H2, J, rfl, q⟩
structure Ei (K : PySem.W.Frag) (C fI : Addr) : Prop where
  x : XE K C
  kp : PySem.W.keepIn K (.ref C) = true
  fi : PySem.W.findIn K (.ref C) "__init__" = some (some (.ref fI))
  fn : PySem.W.typeIn K (.ref fI) = some (.type "function")
def z8s (C : Addr) (sp : Sp) (t : TA) : TE := fun σ H Q => t σ H fun vs H1 => vs.length <= 1000 /\ ∀ x, H1 x = none -> sp (.ref x :: vs) (upd H1 x (.ext (ErrO x C none))) (fun v H2 => v = .non /\ Q (.ref x) H2) E0
theorem Inv.newErr {pins : List (Addr × Obj)} {σ : St} {H : Hp} {s : Shared} {C : Addr} {us : List Value} (I : Inv X pins σ H s) : Inv X pins σ (upd H (s.heap.objs.size + 1) (.ext (ErrO (s.heap.objs.size + 1) C none))) { s with heap := z3t s.heap C us, toks := s.toks } :=
  I.laid (t' := s.toks) (fun b u e => z1H e) (Nat.le_succ _) (z18 z3K)
structure Eo (K : PySem.W.Frag) (C : Addr) : Prop where
  x : XE K C
  kp : PySem.W.keepIn K (.ref C) = true
  fi : PySem.W.findIn K (.ref C) "__init__" = some (some (.builtin "ValueError.__init__"))
def z8t (C : Addr) (t : TA) : TE := fun σ H Q => t σ H fun vs H1 => vs.length <= 1000 /\ ∀ x, H1 x = none -> Q (.ref x) (upd H1 x (.ext (ErrO x C none)))
end
section
variable {X : Cx}
def z8u (K : PySem.W.Frag) : R2 := fun x y H Q => ∃ (a b : Addr) (bs : List Bool), x = .ref a /\ y = .ref b /\ SqL K H a (bs.map V.bl) /\ SqL K H b (bs.map V.bl) /\ Q (.bl false) H
end
def veB : List Value -> Bool
  | .ref _ :: r => veB r
  | [.type a, .type b, .type c, .type d] => a == "ValueError" && b == "Exception" && c == "BaseException" && d == "object"
  | _ => false
theorem z2C : ∀ {l : List Value}, veB l = true -> VeTail l
  | .ref c :: r, e => .step (z2C (l := r) e)
  | [.type a, .type b, .type c, .type d], e => by
    simp only [veB, Bool.and_eq_true, beq_iff_eq] at e
    obtain ⟨⟨⟨rfl, rfl⟩, rfl⟩, rfl⟩ := e
    exact .base
def xeB (K : PySem.W.Frag) (C : Addr) : Bool :=
  (match K.lookup C with
  | some ⟨.type "type", _, .cls cd, ⟨[_, _, _, _, some (.builtin n), _]⟩⟩ => (match cd.mro with
    | .ref C' :: bm => decide (C' = C) && (n == "ValueError.__new__" && (cd.hasDel == false && (cd.hasDict && (veB bm && (PySem.W.tailIn K z2O bm && PySem.W.nsOkIn K cd.ns)))))
    | _ => false)
  | _ => false) &&
  (PySem.W.findIn K (.ref C) "__getattribute__" == some (some (.builtin "BaseException.__getattribute__")) && (PySem.W.findIn K (.ref C) "__getattr__" == some none && (PySem.W.findIn K (.ref C) "__setattr__" == some (some (.builtin "object.__setattr__")) &&
  (PySem.W.findIn K (.ref C) "__class__" == some (some (.builtin "object.__class__")) && (PySem.W.specialIn K (.builtin "object.__class__") "__get__" == some (some (.builtin "getset_descriptor.__get__")) && (PySem.W.takesIn K (.builtin "object.__class__") == some true &&
  (PySem.W.mroIn K C (.type "object") == some true && PySem.W.keepIn K (.ref C))))))))
theorem z3N {K : PySem.W.Frag} {C : Addr} (h : xeB K C = true) : XE K C /\ PySem.W.keepIn K (.ref C) = true := by
  unfold xeB at h
  simp only [Bool.and_eq_true, beq_iff_eq] at h
  obtain ⟨h0, h1, h2, h3, h4, h5, h6, h7, h8⟩ := h
  refine ⟨⟨?_, h1, h2, h3, h4, h5, h6, h7⟩, h8⟩
  split at h0
  . rename_i dd cd k0 k1 k2 k3 n k5 lk
    split at h0
    . rename_i C' bm hm
      simp only [Bool.and_eq_true, beq_iff_eq, decide_eq_true_eq] at h0
      obtain ⟨rfl, rfl, e1, e2, e3, e4, e5⟩ := h0
      exact ⟨dd, cd, k0, k1, k2, k3, k5, bm, lk, hm, e1, e2, z2C e3, e4, e5⟩
    . cases h0
  . cases h0
def z4E (K : PySem.W.Frag) (cs : List Addr) (G : Addr) : Bool :=
  (List.range cs.length).all fun i => ((List.range cs.length).all fun j => PySem.W.kitOne K (.ref (cs.getD i 0)) (.ref (cs.getD j 0)) == some (decide (i = j))) &&
    (PySem.W.kitOne K (.ref (cs.getD i 0)) (.ref G) == some true && PySem.W.kitOne K (.ref (cs.getD i 0)) (.type "ValueError") == some true)
structure Kits (K : PySem.W.Frag) (cs : List Addr) (G : Addr) (i : Nat) : Prop where
  one : ∀ j, j < cs.length -> PySem.W.kitOne K (.ref (cs.getD i 0)) (.ref (cs.getD j 0)) = some (decide (i = j))
  g : PySem.W.kitOne K (.ref (cs.getD i 0)) (.ref G) = some true
  v : PySem.W.kitOne K (.ref (cs.getD i 0)) (.type "ValueError") = some true
theorem z3O {K : PySem.W.Frag} {cs : List Addr} {G : Addr} (h : z4E K cs G = true) : ∀ i, i < cs.length -> Kits K cs G i := fun i hi => by
  have h1 := List.all_eq_true.mp h i (List.mem_range.mpr hi)
  simp only [Bool.and_eq_true, beq_iff_eq] at h1
  exact ⟨fun j hj => by simpa using List.all_eq_true.mp h1.1 j (List.mem_range.mpr hj), h1.2.1, h1.2.2⟩
structure Oe (P : Program) (w : World) (K : PySem.W.Frag) (mg : Str -> Option Value) (base : Heap) (x : Str) (C : Addr) (ps : List Str) (k : Nat) (sp : Sp) : Prop where
  ex : ∃ (fI : Addr) (fd : FuncData), mg x = some (.ref C) /\ Ei K C fI /\ Binds K fd ps [] /\ FnOk P w K mg base CX0 k fI fd ps sp
structure Oo (K : PySem.W.Frag) (mg : Str -> Option Value) (x : Str) (C : Addr) : Prop where
  m : mg x = some (.ref C)
  e : Eo K C
section
variable {X : Cx} {k j : Nat} {ps : List Str} {sp : Sp} {x : Str} {C : Addr} {p pos : Pos} {e : Expr} {es : List Expr} {t : TA}
end
def z8v (C : Addr) (f : Str) : Sp := fun vs H Q _ => ∃ x v, vs = [.ref x, v] /\ H x = some (.ext (ErrO x C none)) /\ z4w v /\ ∀ d, H d = none -> d ≠ x -> Q .non (upd (upd H x (.ext (ErrO x C (some d)))) d (.ext (z2A d [(f, v)])))
def z7M (C : Addr) (f g : Str) : Sp := fun vs H Q _ => ∃ x z v, vs = [.ref x, .str z, v] /\ H x = some (.ext (ErrO x C none)) /\ (reprText z).length <= 100000 /\ z4w v /\
  ∀ d, H d = none -> d ≠ x -> Q .non (upd (upd H x (.ext (ErrO x C (some d)))) d (.ext (z2A d [(g, v), (f, .str z)])))
theorem z1I : bootBuiltins "ValueError" = some (.type "ValueError") := by decide +kernel
def fld (n : Int) (t : V) (w : Str) : List (List (Str × V)) := [[("row", t)], [("at", .int n), ("sign", .str w)], [("word", .int n)], [("number", .int n)], [("row", .int n)], [("at", t)], [("part", .int n)], [("owed", .int n)], [], [], [], [], [], [], []]
structure Errs (H : Hp) (l : Addr) (xs cs : List Addr) (fs : List (List (Str × V))) : Prop where
  lst : H l = some (.lst (xs.map V.ref))
  len : xs.length = 15
  one : ∀ i, i < 15 -> ErrAt H (xs.getD i 0) (cs.getD i 0) (fs.getD i [])
theorem Errs.mono {H H' : Hp} {l : Addr} {xs cs : List Addr} {fs : List (List (Str × V))} (s : Same H H') (h : Errs H l xs cs fs) : Errs H' l xs cs fs := ⟨s _ _ h.lst, h.len, fun i hi => (h.one i hi).mono s⟩
theorem Errs.get {H : Hp} {l : Addr} {xs cs : List Addr} {fs : List (List (Str × V))} (h : Errs H l xs cs fs) {i : Nat} (hi : i < 15) : atI (xs.map V.ref) ((i : Nat) : Int) = some (.ref (xs.getD i 0)) := by
  refine z1C ?_
  have : i < xs.length := by have := h.len; omega
  rw [List.getElem?_map, List.getElem?_eq_getElem this, List.getD_eq_getElem?_getD, List.getElem?_eq_getElem this]
  rfl
def ths (i : Nat) : List Bool := (List.range 15).map fun j => decide (i = j)
def z7N (cs : List Addr) : Sp := fun vs H Q _ => ∃ n t w, vs = [.int n, t, .str w] /\ z4w (.int n) /\ z4w t /\ (reprText w).length <= 100000 /\ ∀ l xs H', Same H H' -> Errs H' l xs cs (fld n t w) -> Q (.ref l) H'
def z6V (cs : List Addr) : Sp := fun vs H Q _ => ∃ x i fs, vs = [.ref x] /\ i < 15 /\ ErrAt H x (cs.getD i 0) fs /\ ∀ l H', Same H H' -> H' l = some (.lst ((ths i).map V.bl)) -> Q (.ref l) H'
def z5n (cs : List Addr) : Sp := fun vs H Q _ => ∃ l xs n t w, vs = [.ref l, .int n, t, .str w] /\ Errs H l xs cs (fld n t w) /\ z4w t /\ ∀ H', Same H H' -> Q (.bl true) H'
def DK {α : Type} : Sem α -> Prop
  | .pure _ | .raise _ | .unsupported _ | .finish _ | .register .. | .yield .. | .fork .. | .await .. => True
  | .rule _ k | .at _ k | .point _ k => DK (k ())
  | .load _ _ k => ∀ o, DK (k o)
  | .update _ _ f k => (∀ o : Obj, (f o).dict = o.dict) /\ DK (k ())
  | .loadIfAlive _ k => ∀ o, DK (k o)
  | .alloc _ k => ∀ a, DK (k a)
  | .fresh k => ∀ t, DK (k t)
  | .ask k => ∀ x, DK (k x)
  | .choose _ _ k => ∀ n, DK (k n)
  | .os _ _ k => ∀ r, DK (k r)
  | .call .. | .resume .. => False
  | .handled _ k => ∀ x, DK (k x)
  | .genState _ k => ∀ x, DK (k x)
  | .newGen _ k => ∀ n, DK (k n)
  | .stack k => ∀ l, DK (k l)
  | .thread k => ∀ n, DK (k n)
def RK (h h' : Heap) : Prop := ∀ (b : Addr) (o : Obj), h.objs[b]? = some o -> ∃ o', h'.objs[b]? = some o' /\ o'.dict = o.dict
theorem RK.refl (h : Heap) : RK h h := fun _ o e => ⟨o, e, rfl⟩
theorem RK.trans {a b c : Heap} (x : RK a b) (y : RK b c) : RK a c := fun p o e =>
  let ⟨_, e1, d1⟩ := x p o e; let ⟨o2, e2, d2⟩ := y p _ e1; ⟨o2, e2, d2.trans d1⟩
theorem RK.push (h : Heap) (u : Obj) : RK h (h.push u) := fun b o e => ⟨o, by
  obtain ⟨objs, l⟩ := h
  show (objs.push u)[b]? = some o
  have e' : objs[b]? = some o := e
  have : b < objs.size := (Array.getElem?_eq_some_iff.mp e').1
  rw [Array.getElem?_push_lt this]
  rw [Array.getElem?_eq_getElem this] at e'
  exact e', rfl⟩
theorem RK.update (h : Heap) (a : Addr) (f : Obj -> Obj) (hf : ∀ o : Obj, (f o).dict = o.dict) : RK h (h.update a f) := fun b o e => by
  obtain ⟨objs, l⟩ := h
  have e' : objs[b]? = some o := e
  by_cases z : a = b
  . subst z
    exact ⟨f o, by show (objs.modify a f)[a]? = _; rw [Array.getElem?_modify, if_pos rfl, e']; rfl, hf o⟩
  . exact ⟨o, by show (objs.modify a f)[b]? = _; rw [Array.getElem?_modify, if_neg z]; exact e', rfl⟩
theorem RK.get {h h' : Heap} (r : RK h h') {b : Addr} {o o' : Obj} (e : h.get? b = some o) (e' : h'.get? b = some o') : o'.dict = o.dict := by
  have raw : ∀ {g : Heap} {u : Obj}, g.get? b = some u -> g.objs[b]? = some u := fun {g u} q => by
    unfold Heap.get? at q
    split at q
    . cases q
    . exact q
  obtain ⟨o1, e1, d1⟩ := r b o (raw e)
  rw [raw e'] at e1
  cases e1
  exact d1
theorem z6W {α : Type} {M : Model} {Γ : PySem.Ctx} : ∀ (t : Sem α) {Q : α -> Pos -> Shared -> Prop} {E : Value -> Pos -> Shared -> Prop} {p : Pos} {s : Shared}, DK t -> Sem.wp M Γ t Q E p s ->
    Sem.wp M Γ t (fun a p' s' => Q a p' s' /\ RK s.heap s'.heap) (fun e p' s' => E e p' s' /\ RK s.heap s'.heap) p s := by
  intro t
  induction t with
  | pure a => intro Q E p s _ h; exact ⟨h, RK.refl _⟩
  | raise e => intro Q E p s _ h; exact ⟨h, RK.refl _⟩
  | unsupported w => intro Q E p s _ h; exact h
  | finish e => intro Q E p s _ h; exact h
  | rule t k ih => intro Q E p s d h; exact ih () d h
  | «at» q k ih => intro Q E p s d h; exact ih () d h
  | load a q k ih => intro Q E p s d h; obtain ⟨o, e, h⟩ := h; exact ⟨o, e, ih o (d o) h⟩
  | update a q f k ih =>
    intro Q E p s d h
    refine ⟨h.1, ?_⟩
    have r := RK.update s.heap a f d.1
    exact Sem.wp_mono M Γ _ (fun _ _ _ z => ⟨z.1, r.trans z.2⟩) (fun _ _ _ z => ⟨z.1, r.trans z.2⟩) _ _ (ih () d.2 h.2)
  | alloc o k ih =>
    intro Q E p s d h
    have r := RK.push s.heap o
    exact Sem.wp_mono M Γ _ (fun _ _ _ z => ⟨z.1, r.trans z.2⟩) (fun _ _ _ z => ⟨z.1, r.trans z.2⟩) _ _ (ih _ (d _) h)
  | loadIfAlive a k ih => intro Q E p s d h; exact ih _ (d _) h
  | point l k ih => intro Q E p s d h; exact ih () d h
  | register a k ih => intro Q E p s d h; exact h
  | fresh k ih => intro Q E p s d h; exact ih _ (d _) h
  | ask k ih => intro Q E p s d h; exact ih _ (d _) h
  | choose a n k ih => intro Q E p s d h; exact ⟨h.1, ih _ (d _) h.2⟩
  | os a l k ih => intro Q E p s d h; exact ih _ (d _) h
  | call c a g l k ih => intro Q E p s d h; exact d.elim
  | handled o k ih => intro Q E p s d h; exact ih _ (d _) h
  | newGen c k ih => intro Q E p s d h; exact ih _ (d _) h
  | genState g k ih => intro Q E p s d h; obtain ⟨st, e, h⟩ := h; exact ⟨st, e, ih _ (d _) h⟩
  | resume g r l k ih => intro Q E p s d h; exact d.elim
  | yield v g l k ih => intro Q E p s d h; exact h
  | stack k ih => intro Q E p s d h; exact ih _ (d _) h
  | fork c k ih => intro Q E p s d h; exact h
  | thread k ih => intro Q E p s d h; exact ih _ (d _) h
  | await a k ih => intro Q E p s d h; exact h
theorem z2D {α : Type} {M : Model} {A : Around} {E : Value -> Shared -> Prop} {s : Shared} {t : Sem α} {Q : α -> Shared -> Prop} (d : DK t) (h : wpAny M A t Q E s) : wpAny M A t (fun a s' => Q a s' /\ RK s.heap s'.heap) (fun e s' => E e s' /\ RK s.heap s'.heap) s :=
  fun Γ p hΓ => z6W t d (h Γ p hΓ)
theorem z4l {α β : Type} : ∀ (t : Sem α) (f : α -> Sem β), DK t -> (∀ a, DK (f a)) -> DK (t.bind f) := by
  intro t f
  induction t with
  | pure a => intro _ h; exact h a
  | raise e => intro _ _; trivial
  | unsupported w => intro _ _; trivial
  | finish e => intro _ _; trivial
  | rule t k ih => intro d h; exact ih () d h
  | «at» q k ih => intro d h; exact ih () d h
  | load a q k ih => intro d h o; exact ih o (d o) h
  | update a q g k ih => intro d h; exact ⟨d.1, ih () d.2 h⟩
  | alloc o k ih => intro d h a; exact ih a (d a) h
  | loadIfAlive a k ih => intro d h o; exact ih o (d o) h
  | point l k ih => intro d h; exact ih () d h
  | register a k ih => intro _ _; trivial
  | fresh k ih => intro d h o; exact ih o (d o) h
  | ask k ih => intro d h o; exact ih o (d o) h
  | choose a n k ih => intro d h o; exact ih o (d o) h
  | os a l k ih => intro d h o; exact ih o (d o) h
  | call c a g l k ih => intro d h; exact d.elim
  | handled o k ih => intro d h o; exact ih o (d o) h
  | newGen c k ih => intro d h o; exact ih o (d o) h
  | genState g k ih => intro d h o; exact ih o (d o) h
  | resume g r l k ih => intro d h; exact d.elim
  | yield v g l k ih => intro _ _; trivial
  | stack k ih => intro d h o; exact ih o (d o) h
  | fork c k ih => intro _ _; trivial
  | thread k ih => intro d h o; exact ih o (d o) h
  | await a k ih => intro _ _; trivial
theorem z0A {α β : Type} {t : Sem α} {f : α -> Sem β} (d : DK t) (h : ∀ a, DK (f a)) : DK (t >>= f) := z4l t f d h
theorem z0Q {α : Type} (a : α) : DK (pure a : Sem α) := trivial
theorem z14 {α : Type} (w : String) : DK (unsupported w : Sem α) := trivial
theorem z1q (a : Addr) : DK (load a) := fun _ => trivial
theorem z2E : DK stack := fun _ => trivial
theorem z1L (f : Array Value -> Array Value) (o : Obj) : (Obj.mapFields f o).dict = o.dict := by
  obtain ⟨c, d, dt, sl⟩ := o
  cases dt <;> rfl
theorem z1A (v : Value) (i : Nat) : DK (field v i) := by
  unfold field
  refine z0A ?_ fun a => ?_
  . unfold fieldsOf
    split
    . refine z0A (z1q _) fun o => ?_
      split
      . exact z0Q _
      . exact z14 _
    . exact z14 _
  . split
    . exact z0Q _
    . exact z14 _
theorem z1M (a : Addr) (i : Nat) (v : Value) : DK (updateField a i v) := by
  unfold updateField
  refine z0A (z1q _) fun o => ?_
  split
  . split
    . exact ⟨z1L _, trivial⟩
    . exact z14 _
  . exact z14 _
theorem z0y (v : Value) (i : Nat) (x : Value) : DK (setField v i x) := by
  unfold setField
  split
  . exact z1M _ _ _
  . exact z14 _
theorem z0r (e : Value) (f : Option Addr) : DK (setFlight e f) := by
  unfold setFlight
  refine z0A (z1A _ _) fun tb => ?_
  split
  . exact z0y _ _ _
  . exact z0Q _
theorem z1r (a b c d e : Value) (pl : List Value) : DK (EntryCells.newEntry a b c d e pl) := by
  unfold EntryCells.newEntry newFields newObj
  generalize ([a, b, c, d, e] ++ (if pl.isEmpty then List.replicate 6 Value.none else pl)).toArray = arr
  dsimp only
  by_cases h : arr.size > sizeLine + 2
  . rw [if_pos h]
    trivial
  . rw [if_neg h]
    exact fun _ => trivial
theorem z3x : DK underTheClaimsCaller := fun _ => trivial
theorem z3P (env : Env) (outer : List Env) : DK (behindIsImport env outer) := by
  unfold behindIsImport
  split
  . exact z0Q _
  . split
    . exact z0Q _
    . exact z0A (z1A _ _) fun _ => z0Q _
theorem z4m (env : Env) (b : Bool) (l : List Env) : DK (keptBack env b l) := by
  cases l with
  | nil =>
    show DK (if env.scope.isGenerator || env.scope.isCoroutine then pure Value.none else do return if <- underTheClaimsCaller then Value.notImplemented else Value.none)
    split
    . exact z0Q _
    . exact z0A z3x fun _ => z0Q _
  | cons c l => exact z0Q _
theorem z2F : ∀ l : List Env, DK (readyFrames l)
  | [] => trivial
  | env :: outer => by
    unfold readyFrames
    split
    . refine z0A (z1q _) fun o => ?_
      split
      . exact z0Q _
      . refine z0A (z3P _ _) fun b => z0A (z4m _ _ _) fun v => z0A ?_ fun _ => z2F outer
        exact ⟨fun _ => rfl, trivial⟩
    . exact z14 _
theorem z2S (env : Env) : DK (PySem.frameOf env) := by
  unfold PySem.frameOf
  refine z0A (z0A z2E fun _ => z0Q _) fun l => z0A ?_ fun r => ?_
  . generalize l.dropWhile (·.frame != env.frame) = l'
    cases l' with
    | nil => exact z0Q _
    | cons e l' => exact z0A (z2F _) fun _ => z0Q _
  . split
    . exact z0Q _
    . exact z14 _
theorem z3y (f : Addr) (b : Bool) : DK (entryPlaceOf f b) := by
  unfold entryPlaceOf
  refine z0A z2E fun l => ?_
  split <;> exact z0Q _
theorem z3Q (e : Value) (env : Env) : DK (noteFrame e env) := by
  have tail : ∀ f head, DK (do setField e 1 (<- EntryCells.newEntry head (<- PySem.frameOf env) .none (rawInt f) .none (<- entryPlaceOf f (head != .none)))) := fun f head =>
    z0A (z2S _) fun _ => z0A (z3y _ _) fun _ => z0A (z1r _ _ _ _ _ _) fun _ => z0y _ _ _
  unfold noteFrame
  split
  . refine z0A (z1A _ _) fun head => ?_
    split
    . refine z0A (z1A _ _) fun x => ?_
      split
      . exact z0Q _
      . exact z0A (z0y _ _ _) fun _ => tail _ _
    . exact tail _ _
  . exact z14 _
theorem z2T (env : Env) (e : Value) : DK (leaving env e) := z0A (z3Q _ _) fun _ => z0r _ _
def del (H : Hp) (a : Addr) : Hp := fun b => if b = a then none else H b
theorem z3z {H : Hp} {a : Addr} : del H a a = none := if_pos rfl
theorem z4F {H : Hp} {a b : Addr} (h : b ≠ a) : del H a b = H b := if_neg h
theorem z40 {H : Hp} {a b : Addr} (h : H b = none) : del H a b = none := by
  unfold del
  split
  . rfl
  . exact h
def CX2 (P : Program) (w : World) : CXT := fun st H s E e s' => ∃ (a t C : Addr) (B : Heap) (H' : Hp) (d : Option Addr), e = .ref a /\ s'.os = s.os /\ AllBare s'.gens /\ s.heap.objs.size <= a /\ Fly P w st H H' B a C t s.heap s'.heap /\ (∃ o, s'.heap.get? a = some o /\ o.dict = d) /\ E (.ref C) d H'
section
variable {X : Cx} {pins : List (Addr × Obj)} {σ : St} {H H' : Hp} {s : Shared}
theorem Fly.firstE {x C t : Addr} {d : Option Addr} {h' : Heap} (I : Inv X pins σ H s) (hst : X.stack = X.env :: X.outer) (hf : X.env.frame = some X.env.locals) (hex : X.ex = []) (hx : H x = some (.ext (ErrO x C d))) (hsz : X.s₀.heap.objs.size <= x)
    (fl : Heap.FlyingW (PySem.W.hideAll s.heap (x :: frs X.stack)) X.outer x (.ref C) (.ref t) h') (sm : s.heap.UpToSlots h') : Fly X.prog X.w X.outer X.H₀ (del H x) (PySem.W.hideAll s.heap (x :: frs X.stack)) x C t X.s₀.heap h' := by
  have hS : frs X.stack = X.env.locals :: frs X.outer := by rw [hst]; exact z13 hf
  have hxx : ∀ b, b ∉ X.ex := fun b => by rw [hex]; exact nin
  have ne : ∀ b o, X.s₀.heap.get? b = some o -> b ≠ X.env.locals := fun b o e => Nat.ne_of_lt (Nat.lt_of_lt_of_le (Heap.lt_size e) I.ok.above)
  have nx : ∀ b o, X.s₀.heap.get? b = some o -> b ≠ x := fun b o e => Nat.ne_of_lt (Nat.lt_of_lt_of_le (Heap.lt_size e) hsz)
  have out : ∀ b o, X.s₀.heap.get? b = some o -> b ∉ frs X.outer -> b ∉ x :: frs X.stack := fun b o e n hb => by
    rcases List.mem_cons.mp hb with z | hb
    . exact nx b o e z
    rw [hS] at hb
    rcases List.mem_cons.mp hb with z | z
    . exact ne b o e z
    . exact n z
  have kB : ∀ b o, X.s₀.heap.get? b = some o -> X.H₀ b = none -> b ∉ frs X.outer -> (PySem.W.hideAll s.heap (x :: frs X.stack)).get? b = some o := fun b o e n nb => PySem.W.hideAll_get _ (I.base.keep b o e n nb (hxx b)) (out b o e nb)
  have tB : ∀ b o, X.s₀.heap.get? b = some o -> b ∉ frs X.outer -> ∃ o', (PySem.W.hideAll s.heap (x :: frs X.stack)).get? b = some o' := fun b o e nb => by
    obtain ⟨o', e'⟩ := I.base.there b o e (hxx b)
    exact ⟨o', PySem.W.hideAll_get _ e' (out b o e nb)⟩
  have sl : ∀ b o, X.s₀.heap.get? b = some o -> X.H₀ b = none -> b ∈ frs X.outer -> ∃ sl, h'.get? b = some { o with slots := sl } := fun b o e n hb => by
    obtain ⟨s1, e1⟩ := I.base.slot b o e n hb (hxx b)
    obtain ⟨_, o', ho', hd⟩ := I.ok.funs.mem hb
    rw [e] at ho'
    cases ho'
    obtain ⟨s3, e3⟩ := sm b _ e1 hd
    exact ⟨s3, e3⟩
  have dn : ∀ {b : Addr} {u : HO}, H b = some u -> (∀ φ, u ≠ .ext φ) -> del H x b = some u := fun {b u} e n => by
    rw [z4F]
    . exact e
    . rintro rfl
      rw [hx] at e
      cases e
      exact n _ rfl
  refine ⟨⟨fun b o e n nb _ => fl.1 b o (kB b o e n nb), fun b o e n hb _ => sl b o e n hb, fun b o e n _ => z40 (I.base.free b o e n (hxx b)), fun b o e _ => ?_, fun b xs e => dn (I.base.tups b xs e) (fun φ z => nomatch z), fun b o u e => dn (I.base.frzs b o u e) (fun φ z => nomatch z),
    fun b ps e => let ⟨m, q⟩ := I.base.tbls b ps e; ⟨m, dn q (fun φ z => nomatch z)⟩⟩, kB, tB, fun b u q => ?_, fl⟩
  . by_cases hb : b ∈ frs X.outer
    . obtain ⟨s1, e1⟩ := sl b o e (I.ok.frf b hb) hb
      exact ⟨_, e1⟩
    . obtain ⟨o', e'⟩ := tB b o e hb
      exact ⟨o', fl.1 b o' e'⟩
  . have hbx : b ≠ x := fun z => by rw [z, z3z] at q; cases q
    rw [z4F hbx] at q
    refine (I.hok b u q).stay (fun c v hc e => PySem.W.hideAll_get _ e fun hm => ?_) (fun _ z => dn z (fun φ z => nomatch z)) fun _ _ z => dn z (fun φ z => nomatch z)
    rcases List.mem_cons.mp hm with rfl | hm
    . rcases hc with z | z
      . exact hbx z.symm
      . rw [hx] at z; cases z
    . have n := I.stkFree c hm
      rcases hc with z | z
      . rw [z, q] at n
        cases n
      . rw [z] at n
        cases n
end
section
variable {P : Program} {w : World} {K : PySem.W.Frag} {mg : Str -> Option Value} {base : Heap} {N : List Str} {qual : Str} {scope : Scope} {f : Addr} {cd : Value} {A : Around} {outer : List Env} {s : Shared} {H : Hp} {E : XK}
theorem z5c {X : Cx} : z23 (CX2 P w) X E0 := fun _ _ _ _ _ _ _ h => by
  obtain ⟨_, _, _, _, _, _, _, _, _, _, _, _, h⟩ := h
  exact h.elim
def z3R (X : Cx) (E : XK) : Prop := ∀ (pins : List (Addr × Obj)) (σ : St) (H : Hp) (s : Shared) (x C : Addr) (d : Option Addr), Inv X pins σ H s -> H x = some (.ext (ErrO x C d)) -> X.s₀.heap.objs.size <= x -> E (.ref C) d (del H x) -> X.xe (.ref x) s
theorem z4n : z3R (z3a (CX2 P w) P w K mg base N qual scope f cd A outer s H E) E := by
  intro pins σ H1 s1 x C d I hx hsz q
  have hin : ∀ env ∈ (envOfC qual scope s.heap.objs.size f cd :: outer), ∀ b, env.frame = some b -> b ∈ x :: frs (envOfC qual scope s.heap.objs.size f cd :: outer) := fun env he b hb => List.mem_cons_of_mem _ (List.mem_filterMap.mpr ⟨env, he, hb⟩)
  obtain ⟨o, vs, eo, hc, hd, ⟨⟨t, h0⟩, h1⟩, hdi⟩ := I.errO hx
  show wpAny (model P w) (A.deeper (envOfC qual scope s.heap.objs.size f cd)) (leaving (envOfC qual scope s.heap.objs.size f cd) (.ref x)) _ _ s1
  refine wpAny_mono (z2D (z2T _ _) (wpAny_leaving_firstW (E := fun _ _ => False) (base := PySem.W.hideAll s1.heap (x :: frs (envOfC qual scope s.heap.objs.size f cd :: outer)))
    (Q := fun _ s'' => ∃ h', s'' = { s1 with heap := h' } /\ Heap.LeftW (PySem.W.hideAll s1.heap (x :: frs (envOfC qual scope s.heap.objs.size f cd :: outer))) (envOfC qual scope s.heap.objs.size f cd :: outer) x o.cls (.ref t) s1.heap h')
    I.ok.frames (PySem.W.funFrames_hide I.stack hin) rfl eo (fun b o z => PySem.W.of_hideAll _ z) (PySem.W.hideAll_none _ List.mem_cons_self) hd h1 h0 fun h' hL => ⟨h', rfl, hL⟩)) (fun _ s'' h2 => ?_) fun _ _ z => z.1.elim
  obtain ⟨⟨h', rfl, k1, ⟨_, _, k2⟩, k3, k4⟩, rk⟩ := h2
  rw [hc] at k3
  have fl : Heap.FlyingW (PySem.W.hideAll s1.heap (x :: frs (envOfC qual scope s.heap.objs.size f cd :: outer))) outer x (.ref C) (.ref t) h' := ⟨k1, PySem.W.hideAll_none _ List.mem_cons_self, k2, k3⟩
  obtain ⟨o', eo', _⟩ := fl.there
  exact ⟨x, t, C, _, _, d, rfl, I.os, I.bare, hsz, Fly.firstE I rfl rfl rfl hx hsz fl k4, ⟨o', eo', (rk.get eo eo').trans hdi⟩, q⟩
end
section
variable {X : Cx} {pins : List (Addr × Obj)} {σ : St}
theorem z1U {s : Shared} {m : Sem Value} {Q : Flow -> Shared -> Prop} {E : Value -> Shared -> Prop} {M : Model} {A : Around} {env : Env} {K : PySem.W.Frag} (hh : A.handled = none)
    (h : wpAny M A m (fun v s1 => ∃ x C d, v = .ref x /\ K.In s1.heap /\ XE K C /\ ErrO x C d s1.heap /\ E (.ref x) s1) E s) : wpAny M A (raiseStmt env (some m) none) Q E s := by
  unfold raiseStmt
  refine wpAny_bind (wpAny_mono h (fun v s1 h1 => ?_) fun _ _ z => z)
  obtain ⟨x, C, d, rfl, X, Z, ⟨o, vs, eo, hc, hd, ⟨⟨t, h0⟩, h1⟩, hdi⟩, hE⟩ := h1
  obtain ⟨bm, N, nm, qn, bs, sn, sub, ab, col, dd, k0, k1, k2, k3, k5, mN, hC, hN, T, _⟩ := XE.obj X Z
  have hcB : (Value.ref C :: bm).contains (.type "BaseException") = true := by
    rw [List.contains_cons, T.hasType (X := "BaseException") (b := true) (by decide +kernel)]
    rfl
  obtain ⟨hp, g, dr, tk, os⟩ := s1
  obtain ⟨oc, od, odt, osl⟩ := o
  cases (show oc = .ref C from hc)
  cases (show odt = .fields vs from hd)
  have f1 : ∀ {Q' : Unit -> Shared -> Prop}, Q' () ⟨hp, g, dr, tk, os⟩ -> wpAny M A (setFlight (.ref x) none) Q' E ⟨hp, g, dr, tk, os⟩ := fun {Q'} q => by
    unfold setFlight
    refine wpAny_bind (wpAny_field eo rfl h1 ?_)
    rw [if_neg (by decide)]
    exact wpAny_pure q
  repeat (first | with_reducible refine wpAny_loadPart_at eo ?_ | with_reducible refine wpAny_loadPart_at hC ?_ | (with_reducible refine wpAny_isSubtype_exc hC ?_; rw [hcB]) | (with_reducible refine wpAny_bind (f1 ?_)) | wp_step)
  exact wpAny_raiseNew_none hh hE
def z6X (C : Addr) (sp : Sp) (t : TA) (E : XK) : TS := fun _ σ H => t σ H fun vs H1 => vs.length <= 1000 /\ ∀ x, H1 x = none -> sp (.ref x :: vs) (upd H1 x (.ext (ErrO x C none))) (fun v H2 => v = .non /\ ∃ d, H2 x = some (.ext (ErrO x C d)) /\ E (.ref C) d (del H2 x)) E0
def z3S (C : Addr) (t : TA) (E : XK) : TS := fun _ σ H => t σ H fun vs H1 => vs.length <= 1000 /\ E (.ref C) none H1
end
abbrev X2h (X : Cx) (a : Addr) : Cx := { X with A := X.A.mark (some (.ref a)), calm := false, xe := fun _ _ => False }
section
variable {X : Cx} {pins : List (Addr × Obj)} {σ : St} {H : Hp} {s : Shared} {a : Addr}
theorem Cx.Ok.hand2 (ok : X.Ok) : (X2h X a).Ok :=
  ⟨ok.mod, ok.kind, ok.glob, ok.blt, ok.above, ok.inj, ok.has, ok.cab, (fun z => nomatch z), ok.frames, ok.stk, ok.exf, ok.bs, ok.bsz, ok.noex, ok.exfs, ok.funs, ok.frf⟩
theorem Inv.hand2 (I : Inv X pins σ H s) : Inv (X2h X a) pins σ H s := ⟨I.ok.hand2, I.os, I.bare, I.base, I.loc, I.cell, I.free, I.freeC, I.pin, I.hok, I.len⟩
theorem Inv.unhand2 (ok : X.Ok) (I : Inv (X2h X a) pins σ H s) : Inv X pins σ H s := ⟨ok, I.os, I.bare, I.base, I.loc, I.cell, I.free, I.freeC, I.pin, I.hok, I.len⟩
abbrev z4o (D : Ends) (i : Nat) : Ends := { nx := fun σ' H' => D.nx (σ'.set i none) H', rt := D.rt, bk := fun σ' H' => D.bk (σ'.set i none) H', ct := fun σ' H' => D.ct (σ'.set i none) H' }
theorem z2U {D : Ends} {f : Flow} {E : Value -> Shared -> Prop} {i : Nat} {n : Str} {hp : Pos} (ok : X.Ok) (hN : X.N.Nodup) (hi : X.N[i]? = some n) (hloc : X.env.scope.names.lookup n = some .local)
    (h : SP (X2h X a) pins (z4o D i) f s) : wpAny (model X.prog X.w) X.A (do bindName X.env n .none; unbindBehindTheSuite X.env n hp) (fun _ s' => SP X pins D f s') E s := by
  cases f with
  | next => obtain ⟨σ', H', I, q⟩ := h; exact z0Y (I.unhand2 ok) hN hi hloc fun s' I' => ⟨_, H', I', q⟩
  | brk => obtain ⟨σ', H', I, q⟩ := h; exact z0Y (I.unhand2 ok) hN hi hloc fun s' I' => ⟨_, H', I', q⟩
  | cont => obtain ⟨σ', H', I, q⟩ := h; exact z0Y (I.unhand2 ok) hN hi hloc fun s' I' => ⟨_, H', I', q⟩
  | ret u => obtain ⟨v, σ', H', I, r, q⟩ := h; exact z0Y (I.unhand2 ok) hN hi hloc fun s' I' => ⟨v, _, H', I', r, q⟩
end
section
variable {X : Cx} {G : Addr} {gn n : Str} {gp hp tp ep : Pos} {b₀ : Stmt} {suite : List Stmt} {i : Nat} {th : TS}
theorem z4p {pins : List (Addr × Obj)} {σ : St} {H1 H' : Hp} {s1 s' : Shared} {B : Heap} {a c t' : Addr} {d : Option Addr} {D : Ends} {E : Value -> Shared -> Prop} (I : Inv X pins σ H1 s1) (hst : X.stack = X.env :: X.outer) (hf : X.env.frame = some X.env.locals)
    (hgG : Gl X gn) (hmG : X.mg gn = some (.ref G)) (hG : XE X.K G) (hN : X.N.Nodup) (hi : X.N[i]? = some n) (hloc : X.env.scope.names.lookup n = some .local)
    (hs : ∀ a, PSs (X2h X a) (b₀ :: suite) th) (os : s'.os = s1.os) (bare : AllBare s'.gens) (sz : s1.heap.objs.size <= a) (F : Fly X.prog X.w X.stack H1 H' B a c t' s1.heap s'.heap) (hdct : ∃ o, s'.heap.get? a = some o /\ o.dict = d)
    (Zc : XE X.K c) (ab : PySem.W.mroIn X.K c (.ref G) = some true) (q : th (z4o D i) (σ.set i (some (.ref a))) (upd H' a (.ext (z2R a c d)))) (hdG : (gn == ("__debug__" : Str)) = false) :
    wpAny (model X.prog X.w) X.A (noteFrame (.ref a) X.env) (fun _ s₂ => wpAny (model X.prog X.w) X.A (setFlight (.ref a) none) (fun _ s₃ =>
      wpAny (model X.prog X.w) X.A (handleBy (.ref a) X.env [.ExceptHandler (some (.Name gn gp)) (some n) (b₀ :: suite) hp]) (SP X pins D) E s₃) E s₂) E s' := by
  have hfr : X.A.frames = some (X.env :: X.outer) := by rw [<- hst]; exact I.ok.frames
  have hfl : Heap.FlyingW B (X.env :: X.outer) a (.ref c) (.ref t') s'.heap := by rw [<- hst]; exact F.fl
  obtain ⟨o0, eo0, ed0⟩ := hdct
  refine wpAny_mono (z2D (z3Q _ _) (wpAny_looks_onW (E := fun _ _ => False) (Q := fun _ s'' => ∃ h', s'' = { s' with heap := h' } /\ Heap.HeldW B (X.env :: X.outer) a (.ref c) (.ref t') X.env.locals h' /\ s'.heap.UpToSlots h') hfr hf hfl fun h' x y => ⟨h', rfl, x, y⟩)) (fun _ s'' h2 => ?_) fun _ _ z => z.1.elim
  obtain ⟨⟨h₄, rfl, held₄, sm₄⟩, rk₄⟩ := h2
  refine wpAny_mono (z2D (z0r _ _) (wpAny_landsW (E := fun _ _ => False) (s := { s' with heap := h₄ }) (Q := fun _ s'' => ∃ h', s'' = { s' with heap := h' } /\ Heap.FlyingW B (X.env :: X.outer) a (.ref c) (.ref t') h' /\ h₄.UpToSlots h') held₄ fun h' x y => ⟨h', rfl, x, y⟩)) (fun _ s'' h2 => ?_) fun _ _ z => z.1.elim
  obtain ⟨⟨h₅, rfl, fl₅, sm₅⟩, rk₅⟩ := h2
  have F₅ := F.on (by rw [hst]; exact fl₅) (sm₄.trans sm₅)
  have at5 : ∀ {h : Heap}, Fly X.prog X.w X.stack H1 H' B a c t' s1.heap h -> Inv X pins σ H' { s' with heap := h } := fun {h} Fh => I.call' (s' := { s' with heap := h }) os Fh.un (Fh.hok.kept Fh.fl.1) bare (fun b z => absurd z nin)
  have I₅ := at5 F₅
  obtain ⟨oe₅, e₅, c₅⟩ := F₅.fl.there
  have J₅ : Inv (X2h X a) pins σ H' { s' with heap := h₅ } := I₅.hand2
  refine wpAny_handleBy_cons (codeAny_handlers_test (z0x (X := X2h X a) J₅ hgG hmG ?_ hdG)) (by intro z; cases z)
  obtain ⟨bm, N, nm, qn, bs, sn, sub, ab', col, dd, k0, k1, k2, k3, k5, mN, hC, hN', T, _, cd0, hcd, hmro, _⟩ := XE.obj I₅.kIn Zc
  obtain ⟨bm2, N2, nm2, qn2, bs2, sn2, sub2, ab2, col2, dd2, j0, j1, j2, j3, j5, mN2, hC2, hN2, T2, _⟩ := XE.obj I₅.kIn hG
  have hsub : (Value.ref c :: bm).contains (.ref G) = true := by
    unfold PySem.W.mroIn at ab
    rw [hcd] at ab
    dsimp only [Option.bind] at ab
    rw [hmro, if_neg (by simp)] at ab
    exact Option.some.inj ab
  obtain ⟨sh, sg, sd, stk, sos⟩ := s'
  refine z0w hC hC2 e₅ c₅ (T2.hasType (X := "BaseException") (b := true) (by decide +kernel)) hsub (codeAny_handlers_suite_as ?_)
  refine wpAny_mono (z2D (z0r _ _) (lands_againW (E := fun _ _ => False) (s := ⟨h₅, sg, sd, stk, sos⟩) (Q := fun _ s'' => ∃ h', s'' = ⟨h', sg, sd, stk, sos⟩ /\ Heap.FlyingW B (X.env :: X.outer) a (.ref c) (.ref t') h' /\ h₅.UpToSlots h') (by rw [hst] at F₅; exact F₅.fl) fun h' x y => ⟨h', rfl, x, y⟩)) (fun _ s'' h2 => ?_) fun _ _ z => z.1.elim
  obtain ⟨⟨h₆, rfl, fl₆, sm₆⟩, rk₆⟩ := h2
  have F₆ := F₅.on (by rw [hst]; exact fl₆) sm₆
  have I₆ := at5 F₆
  obtain ⟨_, _, _, oe, vs, _, _, _, e₆, c₆, d₆, _⟩ := F₆.fl
  have rk := (rk₄.trans rk₅).trans rk₆
  have ET : z2R a c d h₆ := ⟨oe, vs, e₆, c₆.1, d₆, (rk.get eo0 e₆).trans ed0⟩
  have J₆ : Inv X pins σ (upd H' a (.ext (z2R a c d))) ⟨h₆, sg, sd, stk, sos⟩ := I₆.adopt (I.fpOk sz F₆.free) (fun _ _ _ e => e) ⟨oe, e₆⟩ (z3v ET)
  refine z16 (X := X2h X a) (v := .ref a) J₆.hand2 hN hi (.inl hloc) rfl (fun s₇ J₇ => ?_) (.inr hloc)
  refine wpAny_mono (hs a pins s₇ _ _ _ J₇ q) (fun f s₈ h₈ => ?_) fun _ _ z => z.elim
  exact z2U I.ok hN hi hloc h₈
abbrev TEx := St -> Hp -> VK -> XK -> Prop
def PEx (X : Cx) (e : Expr) (t : TEx) : Prop := ∀ (pins : List (Addr × Obj)) (s : Shared) (σ : St) (H : Hp) (Q : VK) (E : XK), Inv X pins σ H s -> t σ H Q E ->
  wpAny (model X.prog X.w) X.A (eval e X.env) (EP X pins σ Q) (fun ev s' => ∃ H1 s1, Inv X pins σ H1 s1 /\ CX2 X.prog X.w X.stack H1 s1 E ev s') s
def z4G (sp : Sp) (dvs : List V) (t : TA) : TEx := fun σ H Q E => t σ H fun vs H1 => sp (vs ++ dvs) H1 Q E
theorem z41 {k : Nat} {fa : Addr} {fd : FuncData} {ps : List Str} {sp : Sp} {dvs : List V} {ds : List Value} {x : Str} {p cp : Pos} {e : Expr} {es : List Expr} {t : TA} (F : FnOk X.prog X.w X.K X.mg X.base (CX2 X.prog X.w) k fa fd ps sp) (hr : Room k X.A) (hg : Gl X x) (hm : X.mg x = some (.ref fa)) (hk : PySem.W.keepIn X.K (.ref fa) = true) (hb : Binds X.K fd ps ds) (hd : Vals dvs ds)
    (ha : PA X.nox (e :: es) t) (hdb : (x == ("__debug__" : Str)) = false := by decide) (he : starEach (e :: es) X.env = (false, eval e X.env) :: starEach es X.env := by rfl) (hpl : (backTo cp (starEach es X.env)).any (·.1) = false := by rfl) :
    PEx X (.Call (.Name x p) (e :: es) [] cp) (z4G sp dvs t) := by
  intro pins s σ H Q E I h
  refine wpAny_Call_Name_kw (z0x I hg hm ?_ hdb)
  refine PySem.W.callWith_K (h₀ := X.base) I.ok.mod.kin hk ?_ he hpl
  refine wpAny_mono (ha cp pins s σ H _ (I.wish _) h) (fun us s1 ⟨vs, H1, I1, r, hsp⟩ => ⟨I1.kIn, ?_⟩) fun _ _ z => z.elim
  have I1' : Inv X pins σ H1 s1 := I1.unwish
  have r2 : Vals (vs ++ dvs) (us ++ ds) := r.append hd
  have hl : (us ++ ds).length = ps.length := by rw [<- r2.length]; exact F.len _ _ _ _ hsp
  refine wpAny_call (codeAny_mono (F.run X.A X.stack s1 H1 ⟨us, []⟩ (us ++ ds) (vs ++ dvs) _ E hr I1'.env0 (hb s1 us I1'.kIn hl) r2 hsp) fun rr s' hr' => ?_)
  cases rr with
  | error ev => exact ⟨H1, s1, I1', hr'⟩
  | ok fl =>
    cases fl with
    | ret u => exact I1'.after hr'
    | next => exact False.elim hr'
    | brk => exact False.elim hr'
    | cont => exact False.elim hr'
def hE (K : PySem.W.Frag) (G : Addr) (i : Nat) (th : TS) (D : Ends) (σ : St) (E : XK) : Prop := ∀ Cv d H2, E Cv d H2 -> ∃ c, Cv = .ref c /\ XE K c /\ PySem.W.mroIn K c (.ref G) = some true /\ ∀ a, H2 a = none -> th (z4o D i) (σ.set i (some (.ref a))) (upd H2 a (.ext (z2R a c d)))
def z6Y (K : PySem.W.Frag) (G : Addr) (t : TEx) (i : Nat) (th : TS) : TS := fun D σ H => ∃ E : XK, t σ H (fun _ H2 => D.nx σ H2) E /\ hE K G i th D σ E
def z8E (K : PySem.W.Frag) (G : Addr) (t : TEx) (j i : Nat) (th : TS) : TS := fun D σ H => ∃ E : XK, t σ H (fun v H2 => D.nx (σ.set j (some v)) H2) E /\ hE K G i th D σ E
structure Gc (K : PySem.W.Frag) (mg : Str -> Option Value) (x : Str) (G : Addr) : Prop where
  m : mg x = some (.ref G)
  e : XE K G
variable {e : Expr} {t : TEx}
theorem z4q (ht : PEx X e t) (hst : X.stack = X.env :: X.outer) (hf : X.env.frame = some X.env.locals) (hgG : Gl X gn) (Z : Gc X.K X.mg gn G) (hN : X.N.Nodup) (hi : X.N[i]? = some n) (hloc : X.env.scope.names.lookup n = some .local)
    (hs : ∀ a, PSs (X2h X a) (b₀ :: suite) th) (hdG : (gn == ("__debug__" : Str)) = false := by decide) (hsw : swapsWith e none ep.line X.env = pure false := by rfl) :
    PS X (.Try [.Expr e ep] [.ExceptHandler (some (.Name gn gp)) (some n) (b₀ :: suite) hp] [] [] tp) (z6Y X.K G t i th) := by
  intro pins s σ H D I h
  obtain ⟨E, h, hh⟩ := h
  refine wpAny_Try_except (wpAny_execs_cons (wpAny_Expr_any ?_ I.quiet hsw))
  refine wpAny_mono (ht pins s σ H _ E I h) (fun u s1 ⟨v, H1, I1, _, q⟩ => wpAny_execs_nil (wpAny_execs_nil ⟨σ, H1, I1, q⟩)) fun ev s' ⟨H1, s1, I1, h2⟩ => ?_
  obtain ⟨a, t', C, B, H', d, rfl, os, bare, sz, Fl, hd, q⟩ := h2
  obtain ⟨c, ec, Zc, ab, q⟩ := hh _ _ _ q
  cases ec
  exact z4p I1 hst hf hgG Z.m Z.e hN hi hloc hs os bare sz Fl hd Zc ab (q a Fl.free) hdG
end
structure Ow2 (P : Program) (w : World) (K : PySem.W.Frag) (mg : Str -> Option Value) (base : Heap) (x : Str) (ps : List Str) (k : Nat) (sp : Sp) : Prop where
  ex : ∃ (f : Addr) (fd : FuncData), mg x = some (.ref f) /\ PySem.W.keepIn K (.ref f) = true /\ Binds K fd ps [] /\ FnOk P w K mg base (CX2 P w) k f fd ps sp
theorem Df.ow2 {P : Program} {w : World} {K : PySem.W.Frag} {mg : Str -> Option Value} {base : Heap} {x : Str} {st : Stmt} {ps : List Str} {f : Addr} {fd : FuncData} {k : Nat} {sp : Sp} (D : Df K mg x st ps f fd) (F : FnOk P w K mg base (CX2 P w) k f fd ps sp) :
    Ow2 P w K mg base x ps k sp := ⟨f, fd, D.m, D.F.kp, D.b, F⟩
theorem Fun.ok2 {P : Program} {w : World} {K : PySem.W.Frag} {mg : Str -> Option Value} {base : Heap} {x qual : Str} {st : Stmt} {f : Addr} {fd : FuncData} {N ps : List Str} {k : Nat} {sp : Sp} (F : Fun K x qual st f fd) (S : FnScope N ps (z04 st)) (len : ∀ vs H Q E, sp vs H Q E -> vs.length = ps.length)
    (hbody : ∀ (cdv : Value) (A : Around) (outer : List Env) (s : Shared) (H : Hp) (vs : List V) (Q : VK) (E : XK), Room k (A.deeper (envOfC qual (z04 st) s.heap.objs.size f cdv)) -> sp vs H Q E ->
      ∃ t, PSs (z3a (CX2 P w) P w K mg base N qual (z04 st) f cdv A outer s H E) (z0D st) t /\ t { nx := fun _ H' => Q .non H', rt := Q } (start N vs) H) : FnOk P w K mg base (CX2 P w) (k + 1) f fd ps sp := by
  obtain ⟨oc, od, kV, doc, pm, an, cdv, ct, osl, rfl, lk, hcd⟩ := F.ex
  exact z3i lk hcd S len fun A outer s H vs Q E hr hsp => hbody cdv A outer s H vs Q E hr hsp
section
variable {X : Cx} {k j : Nat} {ps : List Str} {sp : Sp} {x : Str} {p pos : Pos} {e : Expr} {es : List Expr} {t : TA} {E : XK}
theorem z42 (O : Ow2 X.prog X.w X.K X.mg X.base x ps k sp) (hr : Room j X.A) (hg : Gl X x) (ha : PA X (e :: es) t) (hk : k <= j := by decide) (hdb : (x == ("__debug__" : Str)) = false := by decide)
    (he : starEach (e :: es) X.env = (false, eval e X.env) :: starEach es X.env := by rfl) (hpl : (backTo pos (starEach es X.env)).any (·.1) = false := by rfl) :
    PE X (.Call (.Name x p) (e :: es) [] pos) (z4Q sp [] E0 t) := by
  obtain ⟨f, fd, m, kp, b, F⟩ := O.ex
  exact z2u F (hr.mono hk) hg m kp b .nil z5c ha hdb he hpl
theorem z43 (O : Ow2 X.prog X.w X.K X.mg X.base x ps k sp) (hr : Room j X.A) (hg : Gl X x) (ha : PA X.nox (e :: es) t) (hk : k <= j := by decide) (hdb : (x == ("__debug__" : Str)) = false := by decide)
    (he : starEach (e :: es) X.env = (false, eval e X.env) :: starEach es X.env := by rfl) (hpl : (backTo pos (starEach es X.env)).any (·.1) = false := by rfl) :
    PEx X (.Call (.Name x p) (e :: es) [] pos) (z4G sp [] t) := by
  obtain ⟨f, fd, m, kp, b, F⟩ := O.ex
  exact z41 F (hr.mono hk) hg m kp b .nil ha hdb he hpl
end
section
variable {X : Cx} {pins : List (Addr × Obj)} {σ : St}
theorem z4r {H : Hp} {a : Addr} {o : HO} (h : H a = none) : del (upd H a o) a = H := by
  funext b
  unfold del
  split
  . rename_i e; rw [e, h]
  . rename_i e; exact z07 e
theorem z3T {x : Str} {C : Addr} {e : Expr} {es : List Expr} {t : TA} {p cp pos : Pos} {E : XK} (R : z3R X E) (hc : X.calm = true) (O : Oo X.K X.mg x C) (hg : Gl X x) (ha : PA X (e :: es) t)
    (hdb : (x == ("__debug__" : Str)) = false := by decide) (he : starEach (e :: es) X.env = (false, eval e X.env) :: starEach es X.env := by rfl) (hpl : (backTo cp (starEach es X.env)).any (·.1) = false := by rfl) :
    PS X (.Raise (some (.Call (.Name x p) (e :: es) [] cp)) none pos) (z3S C t E) := by
  intro pins s σ H D I h
  have h' : t σ H fun vs H1 => vs.length <= 1000 /\ E (.ref C) none H1 := h
  show wpAny (model X.prog X.w) X.A (do standAt pos; raiseStmt X.env (some (do let v <- eval (.Call (.Name x p) (e :: es) [] cp) X.env; standAt pos; pure v)) none) _ _ s
  refine wpAny_bind (wpAny_standAt (z1U (K := X.K) (I.ok.hd hc) (wpAny_bind ?_)))
  refine wpAny_Call_Name_kw (z0x I hg O.m ?_ hdb)
  refine PySem.W.callWith_K (h₀ := X.base) I.ok.mod.kin O.e.kp (thn (ha cp pins s σ H _ I h') fun us s1 ⟨vs, H1, I1, r, hz, q⟩ => ⟨I1.kIn, ?_⟩) he hpl
  have hf := I1.hok.fresh (Nat.le_succ s1.heap.objs.size)
  have hus : us.length <= sizeLine := by rw [<- r.length]; exact Nat.le_of_lt (z0o hz)
  have I2 := Inv.newErr (C := C) (us := us) I1
  refine z3u I1.kIn O.e.x O.e.fi (fun y => PySem.W.Looks.of_pure (F.excBase_ValueError.init.bind _)) hus ?_
  refine z3J (s := { s1 with heap := z3t s1.heap C us }) I2.kIn O.e.x z3K hus fun h' hk ho => ⟨rfl, wpAny_bind (wpAny_standAt (wpAny_pure ?_))⟩
  have J := I2.write (x := s1.heap.objs.size + 1) (e := s1.heap.objs.size + 1) (t' := s1.toks) (by rw [z05]; trivial) (.inl rfl) (fun b u hb z => hk b u hb z) (let ⟨o, _, z, _⟩ := ho; ⟨o, z⟩) (z18 ho)
  rw [z2b] at J
  refine ⟨s1.heap.objs.size + 1, C, none, rfl, J.kIn, O.e.x, ho, R _ _ _ _ _ _ _ J z05 (Nat.le_trans I1.sz (Nat.le_succ _)) ?_⟩
  rw [z4r hf]
  exact q
end
structure Om (P : Program) (w : World) (K : PySem.W.Frag) (mg : Str -> Option Value) (base : Heap) (CX : CXT) (C : Addr) (m : Str) (ps : List Str) (dvs : List V) (k : Nat) (sp : Sp) : Prop where
  ex : ∃ (f : Addr) (fd : FuncData) (ds : List Value), Cls K C /\ Meth K C m f /\ Binds K fd ps ds /\ Vals dvs ds /\ FnOk P w K mg base CX k f fd ps sp
structure Oc (P : Program) (w : World) (K : PySem.W.Frag) (mg : Str -> Option Value) (base : Heap) (CX : CXT) (x : Str) (C : Addr) (ps : List Str) (dvs : List V) (k : Nat) (sp : Sp) : Prop where
  ex : ∃ (f : Addr) (fd : FuncData) (ds : List Value), mg x = some (.ref C) /\ Mk K C f /\ Binds K fd ps ds /\ Vals dvs ds /\ FnOk P w K mg base CX k f fd ps sp
def z7O (C : Addr) (m : Str) (sp : Sp) (dvs : List V) (ta : TE) (t : TA) : TEx := fun σ H Q E => ta σ H fun x H1 => ∃ a dx fs, x = .ref a /\ H1 a = some (.ins C dx fs) /\ fs.lookup m = none /\ t σ H1 fun vs H2 => sp (x :: (vs ++ dvs)) H2 Q E
def z7P (C : Addr) (sp : Sp) (dvs : List V) (t : TA) : TEx := fun σ H Q E => t σ H fun vs H1 => ∀ x dx, H1 x = none -> H1 dx = none -> dx ≠ x ->
  sp (.ref x :: (vs ++ dvs)) (upd (upd H1 dx (.own x)) x (.ins C dx [])) (fun v H2 => v = .non /\ Q (.ref x) H2) E
section
variable {X : Cx} {CX : CXT} {k j : Nat} {C : Addr} {ps : List Str} {sp : Sp} {dvs : List V} {E : XK} {x m : Str} {p pos apos : Pos} {e o : Expr} {es : List Expr} {ta : TE} {t : TA}
end
theorem FunD.ok2 {P : Program} {w : World} {K : PySem.W.Frag} {mg : Str -> Option Value} {base : Heap} {x qual : Str} {st : Stmt} {f T : Addr} {fd : FuncData} {N ps : List Str} {k : Nat} {sp : Sp} (F : FunD K x qual st f fd T) (S : FnScope N ps (z04 st)) (len : ∀ vs H Q E, sp vs H Q E -> vs.length = ps.length)
    (hbody : ∀ (cdv : Value) (A : Around) (outer : List Env) (s : Shared) (H : Hp) (vs : List V) (Q : VK) (E : XK), Room k (A.deeper (envOfC qual (z04 st) s.heap.objs.size f cdv)) -> sp vs H Q E ->
      ∃ t, PSs (z3a (CX2 P w) P w K mg base N qual (z04 st) f cdv A outer s H E) (z0D st) t /\ t { nx := fun _ H' => Q .non H', rt := Q } (start N vs) H) : FnOk P w K mg base (CX2 P w) (k + 1) f fd ps sp := by
  obtain ⟨oc, od, kV, doc, pm, an, cdv, ct, osl, rfl, lk, hcd⟩ := F.ex
  exact z3i lk hcd S len fun A outer s H vs Q E hr hsp => hbody cdv A outer s H vs Q E hr hsp
section
variable {X : Cx} {a : Addr}
theorem z15 : CallR (X2h X a) (.builtin "isinstance") (fun xs H Q => ∃ x C fs y u b, xs = [.ref x, y] /\ ErrAt H x C fs /\ XE X.K C /\ z6R y = some u /\ PySem.W.kitOne X.K (.ref C) u = some b /\ Q (.bl b) H) := z3L
end
end L2
namespace L2
open PySem PySem.Spec PyProof.Rows G
def z44 : Sp := fun vs H Q _ => ∃ st sp R bt : Int, vs = [.int st, .int sp, .int R, .int bt] /\ -2000000000 <= sp /\ sp <= 2000000000 /\ 0 <= R /\ R <= 1000000000 /\ Q (.int (z5Y st sp R bt)) H
def z6Z : Sp := fun vs H Q _ => ∃ st n R : Int, vs = [.int st, .int n, .int R] /\ 1 <= R /\ R <= 1000 /\ 0 <= st /\ st <= R /\ -1000 <= n /\ n <= 1000 /\ Q (.int (z1p R (st + n))) H
def z6a (K : PySem.W.Frag) : Sp := fun vs H Q _ => ∃ (a : Addr) (ns : List Int) (k : Int), vs = [.ref a, .int k] /\ SqL K H a (ns.map V.int) /\ 0 <= k /\ k < 1000 /\ ∀ r, 0 <= r -> r <= 1000000000 -> Q (.int r) H
def z5o (K : PySem.W.Frag) : Sp := fun vs H Q _ => ∃ (a : Addr) (ns : List Int) (k R : Int), vs = [.ref a, .int k, .int R] /\ SqL K H a (ns.map V.int) /\ 0 <= k /\ k < 1000 /\ 0 <= R /\ ∀ r, 0 <= r -> r <= R -> Q (.int r) H
def z2G (K : PySem.W.Frag) : Sp := fun vs H Q _ => ∃ (a : Addr) (ns : List Int) (k : Int), vs = [.ref a, .int k] /\ SqL K H a (ns.map V.int) /\ 0 <= k /\ k < 1000 /\ ∀ z, -1000000000 <= z -> z <= 1000000000 -> Q (.int z) H
def z6b (K : PySem.W.Frag) : Sp := fun vs H Q _ => ∃ (a : Addr) (ns : List Int) (k : Int), vs = [.ref a, .int k] /\ SqL K H a (ns.map V.int) /\ 0 <= k /\ k < 1000 /\ ∀ z, 0 <= z -> Q (.int z) H
def z5p : Sp := fun vs H Q _ => ∃ st sp R bt : Int, vs = [.int st, .int sp, .int R, .int bt] /\ -1000000000 <= sp /\ sp <= 1000000000 /\ 0 <= R /\ R <= 1000000000 /\ 0 <= st /\ st <= R /\ 0 <= bt /\ Q (.bl true) H
structure Goer where
  w : Nat
  h : Nat
  rows : List (List (Option Int))
  x : Int
  y : Int
  dx : Int
  dy : Int
structure Goer.Ok (g : Goer) : Prop where
  rect : Rect g.w g.h g.rows
  x0 : -2000000000 <= g.dx
  x1 : g.dx <= 2000000000
  y0 : -2000000000 <= g.dy
  y1 : g.dy <= 2000000000
def GoAt (H : Hp) (t : Addr) (g : Goer) : Prop := ∃ p, H t = some (.tup [.ref p, .int g.x, .int g.y, .int g.dx, .int g.dy]) /\ PicAt H p g.w g.rows
theorem GoAt.mono {H H' : Hp} {t : Addr} {g : Goer} (s : Same H H') (h : GoAt H t g) : GoAt H' t g := by
  obtain ⟨p, h1, h2⟩ := h
  exact ⟨p, s _ _ h1, h2.mono s⟩
def Goer.on (g : Goer) (W Hh : Int) : Prop := 0 <= g.x /\ g.x <= W - g.w /\ 0 <= g.y /\ g.y <= Hh - g.h
def Goer.at (g : Goer) (W Hh bt : Int) : Int × Int := (z5Y g.x g.dx (W - g.w) bt, z5Y g.y g.dy (Hh - g.h) bt)
def z3U (cn : Addr) : Sp := fun vs H Q E => ∃ (t : Addr) (g : Goer) (W Hh bt : Int), vs = [.ref t, .int W, .int Hh, .int bt] /\ GoAt H t g /\ g.Ok /\ W <= 1000 /\ Hh <= 1000 /\
  (g.on W Hh -> ∀ s H', Same H H' -> H' s = some (.tup [.int (g.at W Hh bt).1, .int (g.at W Hh bt).2]) -> Q (.ref s) H') /\ (¬ g.on W Hh -> ∀ H', Same H H' -> E (.ref cn) none H')
def z2H (K : PySem.W.Frag) : Sp := fun vs H Q _ => ∃ (a : Addr) (ns : List Int), vs = [.ref a] /\ SqL K H a (ns.map V.int) /\ ∀ (w h : Int) t H', Same H H' -> H' t = some (.tup [.int w, .int h]) -> 1 <= w -> w <= 64 -> 1 <= h -> h <= 64 -> Q (.ref t) H'
def z4H : Sp := fun vs H Q _ => ∃ (t : Addr) (g : Goer) (W Hh bt : Int), vs = [.ref t, .int W, .int Hh, .int bt] /\ GoAt H t g /\ g.Ok /\ W <= 1000 /\ Hh <= 1000 /\ ¬ g.on W Hh /\ ∀ H', Same H H' -> Q (.bl true) H'
def z2I : Sp := fun vs H Q _ => ∃ (t r s : Addr) (g : Goer) (W Hh bt : Int), vs = [.ref t, .ref r, .ref s, .int bt] /\ GoAt H t g /\ g.Ok /\ W <= 1000 /\ Hh <= 1000 /\ g.on W Hh /\ H r = some (.tup [.int (W - g.w), .int (Hh - g.h)]) /\ H s = some (.tup [.int W, .int Hh]) /\ ∀ H', Same H H' -> Q (.bl true) H'
def z4I (K : PySem.W.Frag) : Sp := fun vs H Q _ => ∃ (a t r s : Addr) (ns : List Int) (g : Goer) (W Hh : Int), vs = [.ref a, .ref t, .ref r, .ref s] /\ SqL K H a (ns.map V.int) /\ GoAt H t g /\ g.Ok /\ W <= 1000 /\ Hh <= 1000 /\ g.on W Hh /\ H r = some (.tup [.int (W - g.w), .int (Hh - g.h)]) /\ H s = some (.tup [.int W, .int Hh]) /\
  ∀ u t' s' (g' : Goer) (W' Hh' : Int) H', Same H H' -> H' u = some (.tup [.ref t', .ref s']) -> GoAt H' t' g' -> g'.Ok -> H' s' = some (.tup [.int W', .int Hh']) -> W' <= 1000 -> Hh' <= 1000 -> ¬ g'.on W' Hh' -> Q (.ref u) H'
end L2
local macro_rules | `(tactic| walk_at "r1") => `(tactic| first
  | refine ⟨_, rfl, ?_⟩
  | refine ⟨_, _, rfl, rfl, ?_⟩
  | refine ⟨rfl, ?_⟩
  | refine ⟨(by show (0 : Int) < _; first | decide | omega), ?_⟩
  | refine ⟨⟨(by first | decide | omega), (by first | decide | omega)⟩, ?_⟩
  | refine ⟨L2.mulL (by first | decide | omega) (by first | decide | omega), ?_⟩
  | refine ⟨L2.mulR (by first | decide | omega) (by first | decide | omega), ?_⟩
  | refine ⟨L2.powS (by first | decide | omega) (by first | decide | omega) (by first | decide | omega), ?_⟩
  | refine ⟨L2.szV (by simp), ?_⟩)
local macro_rules | `(tactic| walk_at "rs") => `(tactic| repeat walk_at "r1")
namespace K41
open PySem PyProof.Rows L2 G
def z2J (i : Nat) : Stmt := PySem.Challenge.pw_glowboard_k41_where_goers_are.main.body.getD i (.Pass ⟨0, 0, 0, 0⟩)
abbrev z0c : Stmt := z2J 5
abbrev z0j : Stmt := z2J 6
abbrev z0d : Stmt := z2J 8
abbrev z0U : Stmt := z2J 9
abbrev z0V : Stmt := z2J 10
abbrev z0e : Stmt := z2J 11
abbrev z0k : Stmt := z2J 12
abbrev z0W : Stmt := z2J 13
abbrev z0X : Stmt := z2J 14
abbrev z0P : Stmt := z2J 15
abbrev z0S : Stmt := z2J 16
abbrev z0l : Stmt := z2J 17
abbrev z1J : Stmt := z2J 18
structure Blt (mg : Str -> Option Value) : Prop where
  f_ValueError : mg "ValueError" = none
  f_len : mg "len" = none
  f_range : mg "range" = none
  f_reversed : mg "reversed" = none
  f_isinstance : mg "isinstance" = none
  f_int : mg "int" = none
  f_bool : mg "bool" = none
  f_tuple : mg "tuple" = none
  f_all : mg "all" = none
  f_min : mg "min" = none
structure Cl (K : PySem.W.Frag) (mg : Str -> Option Value) (c_GlowError c_NoSpot c_NoSign : Addr) : Prop where
  m_GlowError : mg "GlowError" = some (.ref c_GlowError)
  gi : Gi K c_GlowError
  x_GlowError : XE K c_GlowError
  tup : PySem.W.kitOne K (.type "tuple") (.ref c_GlowError) = some false
  ab : ∀ c ∈ ([c_NoSpot, c_NoSign] : List Addr), PySem.W.mroIn K c (.ref c_GlowError) = some true
  m_NoSpot : mg "NoSpot" = some (.ref c_NoSpot)
  x_NoSpot : XE K c_NoSpot
  m_NoSign : mg "NoSign" = some (.ref c_NoSign)
  x_NoSign : XE K c_NoSign
  f_NoSign_sign : PySem.W.findIn K (.ref c_NoSign) "sign" = some none
  f_NoSign_at : PySem.W.findIn K (.ref c_NoSign) "at" = some none
  kt : ∀ i, i < 2 -> Kits K [c_NoSpot, c_NoSign] c_GlowError i
section
variable {P : Program} {w : World} {K : PySem.W.Frag} {mg : Str -> Option Value} {base : Heap}
abbrev z0t : Stmt := inClass (z2J 2) 0
theorem z3V : FnScope ["self", "sign", "at"] ["self", "sign", "at"] (z04 z0t) := ⟨rfl, rfl, rfl, by decide +kernel, rfl, by decide +kernel, by decide +kernel⟩
theorem z3W {c_GlowError c_NoSpot c_NoSign : Addr} (Z : Cl K mg c_GlowError c_NoSpot c_NoSign) {f : Addr} {fd : FuncData} (D : Fun K "__init__" "NoSign.__init__" z0t f fd) : FnOk P w K mg base CX0 1 f fd ["self", "sign", "at"] (z7M c_NoSign "sign" "at") := by
  refine D.ok z3V (fun vs H Q E h => ?_) (fun cdv A outer s H vs Q E hr h => ?_)
  . obtain ⟨x, z, v, rfl, _⟩ := h
    rfl
  obtain ⟨x, z, v, rfl, hx, hz, hv, q⟩ := h
  refine ⟨_, z03 (z1m (z3w rfl Z.m_GlowError Z.gi (z00 (pv 0) (z00 (z4k (z19 z3M (z19 (z4i (pv 1)) (z19 z3M (z19 (z5Z (pv 2)) z4j))))) z02)))) (z03 (z4g (pv 0) (pv 1) rfl) (z06 (z4h (pv 0) (pv 2) rfl))), ?_⟩
  refine ⟨_, rfl, ⟨by decide, ⟨_, rfl, ⟨z, rfl, hz⟩, rfl⟩, by decide, ⟨_, rfl, hv, rfl⟩, trivial⟩, fun z' => ⟨x, c_NoSign, none, _, rfl, hx, Z.x_NoSign, ?_⟩⟩
  refine ⟨_, rfl, _, rfl, x, c_NoSign, rfl, hx, Z.x_NoSign, Z.f_NoSign_sign, fun d nd hd => ?_⟩
  refine ⟨_, rfl, _, rfl, x, c_NoSign, d, _, rfl, hd, by rw [z07 (Ne.symm hd), z05], z05, by show 1 <= 900; decide, Z.x_NoSign, Z.f_NoSign_at, ?_⟩
  rw [z2b]
  exact q d nd hd
end
section
variable {P : Program} {w : World} {K : PySem.W.Frag} {mg : Str -> Option Value} {base : Heap}
theorem z2V : FnScope ["_law_script", "_law_k", "_law_prime", "_law_many"] ["_law_script", "_law_k", "_law_prime", "_law_many"] (z04 z0d) := ⟨rfl, rfl, rfl, by decide +kernel, rfl, by decide +kernel, by decide +kernel⟩
theorem z2W {f : Addr} {fd : FuncData} (D : Df K mg "_law_draw" z0d ["_law_script", "_law_k", "_law_prime", "_law_many"] f fd) (B : Blt mg) :
    Ow P w K mg base "_law_draw" ["_law_script", "_law_k", "_law_prime", "_law_many"] 1 (z1G K) := by
  refine D.ow (D.F.ok z2V (fun vs H Q E h => ?_) (fun cdv A outer s H vs Q E hr h => ?_))
  . obtain ⟨a, ns, k, p, m, rfl, _⟩ := h
    rfl
  obtain ⟨a, ns, k, p, m, rfl, hS, k0, k1, hp, hm, q⟩ := h
  refine ⟨_, (z03 (z0h (z0F z0m (z0H z0O rfl B.f_len boot_len (z00 (pv 0) z02)) z01 (z0N _)) (z06 (z0J z01)) z0I)
    (z06 (z0J (z09 z0u (z09 z0u (z09 z0z (z09 z0T (z0G z1n (pv 0) (z09 z0u (pv 1) (z0H z0O rfl B.f_len boot_len (z00 (pv 0) z02))) (fun _ _ => rfl)) (z09 z0z (pv 1) (pv 1))) z01) (pv 2)) (pv 3))))), ?_⟩
  refine ⟨_, rfl, a, _, rfl, .inl hS, ?_⟩
  walk_at "rs"
  refine z1K (fun c => ?_) (fun c => ?_)
  . exact q 0 (by decide) hm
  . have hl : 0 < ns.length := by
      rw [List.length_map] at c
      have : (ns.length : Int) ≠ 0 := fun e => c (by rw [e])
      omega
    obtain ⟨z, hz⟩ := z39 hl k
    refine ⟨_, rfl, _, rfl, _, rfl, a, _, rfl, .inl hS, _, _, rfl, rfl, (by rw [List.length_map]; show (0 : Int) < (ns.length : Int); omega), a, _, _, _, rfl, rfl, hS, hz, ?_⟩
    walk_at "rs"
    exact q _ (Int.emod_nonneg _ (by omega)) (Int.emod_lt_of_pos _ hm)
theorem z1s : FnScope ["_law_script", "_law_k", "_law_many"] ["_law_script", "_law_k", "_law_many"] (z04 z0U) := ⟨rfl, rfl, rfl, by decide +kernel, rfl, by decide +kernel, by decide +kernel⟩
theorem z1t {f : Addr} {fd : FuncData} (D : Df K mg "_law_great" z0U ["_law_script", "_law_k", "_law_many"] f fd) (B : Blt mg) :
    Ow P w K mg base "_law_great" ["_law_script", "_law_k", "_law_many"] 1 (z26 K) := by
  refine D.ow (D.F.ok z1s (fun vs H Q E h => ?_) (fun cdv A outer s H vs Q E hr h => ?_))
  . obtain ⟨a, ns, k, m, rfl, _⟩ := h
    rfl
  obtain ⟨a, ns, k, m, rfl, hS, k0, k1, hm, q⟩ := h
  refine ⟨_, (z03 (z0h (z0F z0m (z0H z0O rfl B.f_len boot_len (z00 (pv 0) z02)) z01 (z0N _)) (z06 (z0J z01)) z0I)
    (z06 (z0J (z09 z0u (z09 z4c (z09 z0T (z09 z0u (z0G z1n (pv 0) (z09 z0u (pv 1) (z0H z0O rfl B.f_len boot_len (z00 (pv 0) z02))) (fun _ _ => rfl)) (z09 z1N z01 z01)) (pv 1)) (z09 z1N z01 z01)) (pv 2))))), ?_⟩
  refine ⟨_, rfl, a, _, rfl, .inl hS, ?_⟩
  walk_at "rs"
  refine z1K (fun c => ?_) (fun c => ?_)
  . exact q 0 (by decide) hm
  . have hl : 0 < ns.length := by
      rw [List.length_map] at c
      have : (ns.length : Int) ≠ 0 := fun e => c (by rw [e])
      omega
    obtain ⟨z, hz⟩ := z39 hl k
    refine ⟨_, rfl, _, rfl, _, rfl, a, _, rfl, .inl hS, _, _, rfl, rfl, (by rw [List.length_map]; show (0 : Int) < (ns.length : Int); omega), a, _, _, _, rfl, rfl, hS, hz, ?_⟩
    walk_at "rs"
    have a1 := Int.emod_nonneg z (show (10 : Int) ^ Int.toNat 30 ≠ 0 by decide)
    have a2 := Int.emod_lt_of_pos z (show (0 : Int) < 10 ^ Int.toNat 30 by decide)
    have a3 : (10 : Int) ^ Int.toNat 30 + 1000000 < 2 ^ 1000 := by decide
    have a4 : ((2 ^ 1000 : Nat) : Int) = 2 ^ 1000 := by decide
    refine ⟨⟨by omega, by decide⟩, ?_⟩
    walk_at "rs"
    exact q _ (Int.emod_nonneg _ (by omega)) (Int.emod_lt_of_pos _ hm)
theorem z1u : FnScope ["_law_found"] ["_law_found"] (z04 z0V) := ⟨rfl, rfl, rfl, by decide +kernel, rfl, by decide +kernel, by decide +kernel⟩
theorem z1v {f : Addr} {fd : FuncData} (D : Df K mg "_law_whole" z0V ["_law_found"] f fd) (B : Blt mg) :
    Ow P w K mg base "_law_whole" ["_law_found"] 1 z3A := by
  refine D.ow (D.F.ok z1u (fun vs H Q E h => ?_) (fun cdv A outer s H vs Q E hr h => ?_))
  . obtain ⟨x, T, rfl, _⟩ := h
    rfl
  obtain ⟨x, T, rfl, hT, q⟩ := h
  refine ⟨_, (z06 (z0J (z21 (z0H z1S rfl B.f_isinstance boot_isinstance (z00 (pv 0) (z00 (z1P (v := .ty "int") rfl B.f_int boot_int rfl) z02))) (z2g (z46 (z0H z1S rfl B.f_isinstance boot_isinstance (z00 (pv 0) (z00 (z1P (v := .ty "bool") rfl B.f_bool boot_bool rfl) z02)))))))), ?_⟩
  refine ⟨x, rfl, x, "int", T, rfl, by decide, hT, _, rfl, ?_⟩
  have e := z1o T (z32 hT)
  cases hi : z4V T "int" with
  | true =>
    rw [hi, if_pos rfl] at e
    refine z4C ⟨x, rfl, x, "bool", T, rfl, by decide, hT, _, rfl, ?_⟩
    rw [e]
    exact q
  | false =>
    rw [hi, if_neg (by decide)] at e
    refine z5I ?_
    rw [e]
    exact q
theorem sc_lawbits : FnScope ["_law_rows", "_law_paints", "_law_masks", "_law_row", "_law_paint", "_law_mask", "_law_cell"] ["_law_rows"] (z04 z0e) := ⟨rfl, rfl, rfl, by decide +kernel, rfl, by decide +kernel, by decide +kernel⟩
theorem z2X {f : Addr} {fd : FuncData} (D : Df K mg "_law_bits" z0e ["_law_rows"] f fd) (B : Blt mg) :
    Ow P w K mg base "_law_bits" ["_law_rows"] 1 z27 := by
  refine D.ow (D.F.ok sc_lawbits (fun vs H Q E h => ?_) (fun cdv A outer s H vs Q E hr h => ?_))
  . obtain ⟨l, ps, rows, w, h, rfl, _⟩ := h
    rfl
  obtain ⟨l, ps, rows, wd, hg, rfl, RA, R, q⟩ := h
  refine ⟨_, (z03 (z0B (i := 1) sc_lawbits.nd rfl (Or.inl rfl) (z2t z02))
    (z03 (z0B (i := 2) sc_lawbits.nd rfl (Or.inl rfl) (z2t z02))
    (z03 (z49 PassesOwn.never rfl (z4L (pv 0)) (z0Z (i := 3) sc_lawbits.nd rfl (Or.inl rfl)) (z03 (z0B (i := 4) sc_lawbits.nd rfl (Or.inl rfl) z01)
    (z03 (z0B (i := 5) sc_lawbits.nd rfl (Or.inl rfl) z01)
    (z03 (z49 PassesOwn.never rfl (z5M rfl B.f_reversed (z00 (pv 3) z02)) (z0Z (i := 6) sc_lawbits.nd rfl (Or.inl rfl)) (z03 (z0B (i := 4) sc_lawbits.nd rfl (Or.inl rfl) (z09 z0z (pv 4) z01))
    (z03 (z0B (i := 5) sc_lawbits.nd rfl (Or.inl rfl) (z09 z0z (pv 5) z01))
    (z06 (z0h (z0F z4N (pv 6) z53 (z0N _)) (z03 (z0B (i := 4) sc_lawbits.nd rfl (Or.inl rfl) (z09 z0T (pv 4) (pv 6)))
    (z06 (z0B (i := 5) sc_lawbits.nd rfl (Or.inl rfl) (z09 z0T (pv 5) z01)))) z0I)))))
    (z03 (z1m (z5F PySem.F.plainAttrs_list PySem.F.slot_list_append PySem.F.type_list_append z1f (pv 1) (z00 (pv 4) z02)))
    (z06 (z1m (z5F PySem.F.plainAttrs_list PySem.F.slot_list_append PySem.F.type_list_append z1f (pv 2) (z00 (pv 5) z02)))))))))
    (z06 (z0J (z0R (z00 (z0H z0O rfl B.f_len boot_len (z00 (z0G z1n (pv 0) z01 (fun _ _ => rfl)) z02)) (z00 (z0H z0O rfl B.f_len boot_len (z00 (pv 0) z02)) (z00 (z1e z11 rfl B.f_tuple boot_tuple (z00 (pv 1) z02)) (z00 (z1e z11 rfl B.f_tuple boot_tuple (z00 (pv 2) z02)) z02)))))))))), ?_⟩
  walk_at "rs"
  intro lp np
  walk_at "rs"
  intro lm nm
  have hlen := RA.len
  have hR := R.len
  have hR2 := R.h2
  have hpm : lp ≠ lm := fun e => by
    rw [<- e, z05] at nm
    cases nm
  have s1 : Same H (upd (upd H lp (.lst [])) lm (.lst [])) := (Same.new np).trans (Same.new nm)
  have nm0 : H lm = none := (Same.new np).free nm
  have g1 : (upd (upd H lp (.lst [])) lm (.lst [])) lp = some (.lst []) := by rw [z07 hpm, z05]
  have g2 : (upd (upd H lp (.lst [])) lm (.lst [])) lm = some (.lst []) := z05
  generalize upd (upd H lp (.lst [])) lm (.lst []) = H1 at s1 g1 g2
  refine ⟨_, rfl, l, rfl, ⟨_, SqL.of (s1 _ _ RA.lst)⟩, ?_⟩
  refine z3h (K := K) (a := l) (xs := ps.map V.ref) (fun i σ H2 => ∃ v3 v4 v5 v6, σ = [some (.ref l), some (.ref lp), some (.ref lm), v3, v4, v5, v6] /\ Same H H2 /\ H2 lp = some (.lst (((rows.take i).map z0g).map V.int)) /\ H2 lm = some (.lst (((rows.take i).map z0q).map V.int)))
    ⟨none, none, none, none, rfl, s1, g1, g2⟩ (fun i σ H2 _ ⟨_, _, _, _, _, s, _⟩ => SqL.of (s _ _ RA.lst)) ?_ ?_
  . rintro i x σ H2 hi ⟨v3, v4, v5, v6, rfl, s2, gp, gm⟩
    have hil : i < rows.length := by
      have := (List.getElem?_eq_some_iff.mp hi).1
      rw [List.length_map] at this
      omega
    obtain ⟨p, hp, gr⟩ := RA.at hil
    rw [List.getElem?_map, hp] at hi
    cases hi
    obtain ⟨hw, hc⟩ := R.row0 hil
    generalize hrow : rows[i]'hil = r at gr hw hc
    have hw2 := R.w2
    walk_at "rs"
    refine ⟨p, _, rfl, SqL.of (s2 _ _ gr), ?_⟩
    refine z4Z (K := K) (a := p) (xs := r.map z0b) (fun j σ H3 => ∃ v6, σ = [some (.ref l), some (.ref lp), some (.ref lm), some (.ref p), some (.int (z0g (r.drop (r.length - j)))), some (.int (z0q (r.drop (r.length - j)))), v6] /\ H3 = H2)
      ⟨v6, by rw [Nat.sub_zero, List.drop_length]; rfl, rfl⟩ (fun j σ H3 _ ⟨_, _, e⟩ => by rw [e]; exact SqL.of (s2 _ _ gr)) ?_ ?_
    . rintro j x σ H3 hj hx ⟨v6, rfl, rfl⟩
      rw [List.length_map] at hj hx
      have hd : r.drop (r.length - (j + 1)) = r[r.length - 1 - j]'(by omega) :: r.drop (r.length - j) := by
        have e1 : r.length - (j + 1) = r.length - 1 - j := by omega
        have e2 : r.length - j = r.length - 1 - j + 1 := by omega
        rw [e1, e2]
        exact List.drop_eq_getElem_cons (by omega)
      rw [List.getElem?_map, List.getElem?_eq_getElem (by omega)] at hx
      have hx' : x = z0b (r[r.length - 1 - j]'(by omega)) := (Option.some.inj hx).symm
      subst hx'
      have hcell := hc _ (List.getElem_mem (show r.length - 1 - j < r.length by omega))
      generalize r[r.length - 1 - j]'(by omega) = c at hd hcell
      cases c with
      | none =>
        walk_at "rs"
        refine z6D (fun n => absurd rfl n) (fun _ => ?_)
        refine ⟨some (z0b none), ?_, rfl⟩
        rw [hd]
        show _ = [_, _, _, _, some (V.int ((none : Option Int).getD 0 + 16 * z0g (r.drop (r.length - j)))), some (V.int ((if (none : Option Int).isSome = true then 1 else 0) + 2 * z0q (r.drop (r.length - j)))), _]
        have e1 : (none : Option Int).getD 0 + 16 * z0g (r.drop (r.length - j)) = z0g (r.drop (r.length - j)) * 16 := by
          show (0 : Int) + _ = _
          omega
        have e2 : (if (none : Option Int).isSome = true then (1 : Int) else 0) + 2 * z0q (r.drop (r.length - j)) = z0q (r.drop (r.length - j)) * 2 := by
          rw [if_neg (by simp)]
          omega
        rw [e1, e2]
        rfl
      | some z =>
        walk_at "rs"
        refine ⟨some (z0b (some z)), ?_, rfl⟩
        rw [hd]
        show _ = [_, _, _, _, some (V.int ((some z : Option Int).getD 0 + 16 * z0g (r.drop (r.length - j)))), some (V.int ((if (some z : Option Int).isSome = true then 1 else 0) + 2 * z0q (r.drop (r.length - j)))), _]
        have e1 : (some z : Option Int).getD 0 + 16 * z0g (r.drop (r.length - j)) = z0g (r.drop (r.length - j)) * 16 + z := by
          show z + _ = _
          omega
        have e2 : (if (some z : Option Int).isSome = true then (1 : Int) else 0) + 2 * z0q (r.drop (r.length - j)) = z0q (r.drop (r.length - j)) * 2 + 1 := by
          rw [if_pos (show (some z).isSome = true from rfl)]
          omega
        rw [e1, e2]
        rfl
    . rintro σ H3 ⟨v6, rfl, rfl⟩
      rw [List.length_map, Nat.sub_self, List.drop_zero]
      have szp : (((rows.take i).map z0g).map V.int).length < sizeLine := by
        rw [List.length_map, List.length_map, List.length_take]
        exact z0o (by omega)
      have szm : (((rows.take i).map z0q).map V.int).length < sizeLine := by
        rw [List.length_map, List.length_map, List.length_take]
        exact z0o (by omega)
      refine ⟨_, rfl, .inl ⟨rfl, _, SqL.of gp⟩, _, rfl, lp, _, _, rfl, rfl, gp, szp, ?_⟩
      have gm' : (upd H3 lp (.lst (((rows.take i).map z0g).map V.int ++ [.int (z0g r)]))) lm = some (.lst (((rows.take i).map z0q).map V.int)) := by
        rw [z07 (Ne.symm hpm)]
        exact gm
      refine ⟨_, rfl, .inl ⟨rfl, _, SqL.of gm'⟩, _, rfl, lm, _, _, rfl, rfl, gm', szm, ?_⟩
      have tk : rows.take (i + 1) = rows.take i ++ [r] := by
        rw [List.take_succ, List.getElem?_eq_getElem hil, hrow]
        rfl
      refine ⟨_, _, _, _, rfl, (s2.put np).put nm0, ?_, ?_⟩
      . rw [z07 hpm, z05, tk, List.map_append, List.map_append]
        rfl
      . rw [z05, tk, List.map_append, List.map_append]
        rfl
  . rintro σ H2 ⟨v3, v4, v5, v6, rfl, s2, gp, gm⟩
    rw [List.length_map, hlen, List.take_length] at gp gm
    obtain ⟨p0, e0, g0⟩ := (RA.mono s2).atI R.ne
    refine ⟨_, rfl, l, _, 0, _, rfl, rfl, SqL.of (s2 _ _ RA.lst), e0, p0, _, rfl, .inl (SqL.of g0), _, rfl, l, _, rfl, .inl (SqL.of (s2 _ _ RA.lst)), _, rfl, lp, _, rfl, .inl ⟨SqL.of gp, fun t1 n1 => ?_⟩⟩
    refine ⟨_, rfl, lm, _, rfl, .inl ⟨SqL.of ((Same.new n1) _ _ gm), fun t2 n2 => ?_⟩⟩
    refine ⟨szV (by simp), fun t3 n3 => ?_⟩
    refine q t3 _ (((s2.trans (Same.new n1)).trans (Same.new n2)).trans (Same.new n3)) ⟨t1, t2, ?_, ?_, ?_⟩
    . rw [z05, List.length_map, List.length_map, hlen, (R.row0 R.ne).1]
    . exact (Same.new n3) _ _ ((Same.new n2) _ _ z05)
    . exact (Same.new n3) _ _ z05
theorem sc_bounced : FnScope ["start", "speed", "room", "beat", "rest"] ["start", "speed", "room", "beat"] (z04 z0c) := ⟨rfl, rfl, rfl, by decide +kernel, rfl, by decide +kernel, by decide +kernel⟩
theorem z2Y {f : Addr} {fd : FuncData} (D : Df K mg "bounced" z0c ["start", "speed", "room", "beat"] f fd) (B : Blt mg) :
    Ow P w K mg base "bounced" ["start", "speed", "room", "beat"] 1 z44 := by
  refine D.ow (D.F.ok sc_bounced (fun vs H Q E h => ?_) (fun cdv A outer s H vs Q E hr h => ?_))
  . obtain ⟨st, sp, R, bt, rfl, _⟩ := h
    rfl
  obtain ⟨st, sp, R, bt, rfl, s1, s2, R0, R1, q⟩ := h
  refine ⟨_, (z03 (z0h (z0F z0m (pv 2) z01 (z0N _)) (z06 (z0J z01)) z0I)
    (z03 (z0B (i := 4) sc_bounced.nd rfl (Or.inl rfl) (z09 z0u (z09 z0T (pv 0) (z09 z0z (pv 3) (pv 1))) (z09 z0z z01 (pv 2))))
    (z06 (z0J (z3e (z0F z2o (pv 4) (pv 2) (z0N _)) (pv 4) (z09 z0n (z09 z0z z01 (pv 2)) (pv 4))))))), ?_⟩
  unfold z5Y at q
  walk_at "rs"
  refine z1K (fun c => ?_) (fun c => ?_)
  . rw [if_pos (V.int.inj c)] at q
    walk_at "rs"
    exact q
  have hn : R ≠ 0 := fun e => c (by rw [e])
  rw [if_neg hn] at q
  unfold z1p at q
  walk_at "rs"
  refine z1K (fun c2 => ?_) (fun c2 => ?_)
  . rw [if_pos c2] at q
    walk_at "rs"
    exact q
  . rw [if_neg c2] at q
    walk_at "rs"
    exact q
theorem sc_lawdue : FnScope ["_law_start", "_law_speed_here", "_law_room", "_law_beat", "_law_far"] ["_law_start", "_law_speed_here", "_law_room", "_law_beat"] (z04 z0k) := ⟨rfl, rfl, rfl, by decide +kernel, rfl, by decide +kernel, by decide +kernel⟩
theorem z3X {f : Addr} {fd : FuncData} (D : Df K mg "_law_due" z0k ["_law_start", "_law_speed_here", "_law_room", "_law_beat"] f fd) (B : Blt mg) :
    Ow P w K mg base "_law_due" ["_law_start", "_law_speed_here", "_law_room", "_law_beat"] 1 z44 := by
  refine D.ow (D.F.ok sc_lawdue (fun vs H Q E h => ?_) (fun cdv A outer s H vs Q E hr h => ?_))
  . obtain ⟨st, sp, R, bt, rfl, _⟩ := h
    rfl
  obtain ⟨st, sp, R, bt, rfl, s1, s2, R0, R1, q⟩ := h
  refine ⟨_, (z03 (z0h (z0F z0m (pv 2) z01 (z0N _)) (z06 (z0J z01)) z0I)
    (z03 (z0B (i := 4) sc_lawdue.nd rfl (Or.inl rfl) (z09 z0T (pv 0) (z09 z0z (pv 3) (pv 1))))
    (z03 (z0h (z0F z0m (z09 z0u (z09 z4M (pv 4) (pv 2)) z01) z01 (z0N _)) (z06 (z0J (z09 z0u (pv 4) (pv 2)))) z0I)
    (z06 (z0J (z09 z0n (pv 2) (z09 z0u (pv 4) (pv 2)))))))), ?_⟩
  unfold z5Y at q
  walk_at "rs"
  refine z1K (fun c => ?_) (fun c => ?_)
  . rw [if_pos (V.int.inj c)] at q
    walk_at "rs"
    exact q
  have hn : R ≠ 0 := fun e => c (by rw [e])
  rw [if_neg hn] at q
  walk_at "rs"
  refine z1K (fun c2 => ?_) (fun c2 => ?_)
  . rw [z3r (by omega) (V.int.inj c2)] at q
    walk_at "rs"
    exact q
  . rw [z4e (by omega) (fun e => c2 (congrArg V.int e))] at q
    walk_at "rs"
    exact q
theorem z1w : FnScope ["_law_script", "_law_k"] ["_law_script", "_law_k"] (z04 z0W) := ⟨rfl, rfl, rfl, by decide +kernel, rfl, by decide +kernel, by decide +kernel⟩
theorem z1x {f : Addr} {fd : FuncData} (D : Df K mg "_law_speed" z0W ["_law_script", "_law_k"] f fd)
    (O_lawdraw : Ow P w K mg base "_law_draw" ["_law_script", "_law_k", "_law_prime", "_law_many"] 1 (z1G K))
    (O_lawgreat : Ow P w K mg base "_law_great" ["_law_script", "_law_k", "_law_many"] 1 (z26 K)) (B : Blt mg) :
    Ow P w K mg base "_law_speed" ["_law_script", "_law_k"] 2 (z2G K) := by
  refine D.ow (D.F.ok z1w (fun vs H Q E h => ?_) (fun cdv A outer s H vs Q E hr h => ?_))
  . obtain ⟨a, ns, k, rfl, _⟩ := h
    rfl
  obtain ⟨a, ns, k, rfl, hS, k0, k1, q⟩ := h
  refine ⟨_, (z03 (z0h (z0F z60 (z0C O_lawdraw hr rfl (z00 (pv 0) (z00 (pv 1) (z00 z01 (z00 z01 z02))))) z01 (z0N _)) (z06 (z0J (z09 z0n (z0C O_lawdraw hr rfl (z00 (pv 0) (z00 (pv 1) (z00 z01 (z00 z01 z02))))) z01))) z0I)
    (z06 (z0J (z09 z0n (z0C O_lawgreat hr rfl (z00 (pv 0) (z00 (z09 z0T (pv 1) z01) (z00 (z09 z0T (z09 z0z z01 (z09 z1N z01 z01)) z01) z02)))) (z09 z1N z01 z01))))), ?_⟩
  walk_at "rs"
  refine ⟨a, ns, k, _, _, rfl, hS, k0, by omega, (by decide), (by decide), fun r r0 r1 => ?_⟩
  walk_at "rs"
  refine z1K (fun c => ?_) (fun c => ?_)
  . walk_at "rs"
    refine ⟨a, ns, k, _, _, rfl, hS, k0, by omega, (by decide), (by decide), fun r2 b0 b1 => ?_⟩
    walk_at "rs"
    exact q _ (by omega) (by omega)
  . have e9 : (10 : Int) ^ Int.toNat 9 = 1000000000 := by decide
    walk_at "rs"
    refine ⟨a, ns, _, _, rfl, hS, by omega, by omega, (by decide), fun r2 b0 b1 => ?_⟩
    walk_at "rs"
    exact q _ (by omega) (by omega)
theorem sc_spotof : FnScope ["goer", "wide", "high", "beat", "across", "down"] ["goer", "wide", "high", "beat"] (z04 z0j) := ⟨rfl, rfl, rfl, by decide +kernel, rfl, by decide +kernel, by decide +kernel⟩
theorem z3Y {f : Addr} {fd : FuncData} (D : Df K mg "spot_of" z0j ["goer", "wide", "high", "beat"] f fd)
    {c_GlowError c_NoSpot c_NoSign : Addr} (Z : Cl K mg c_GlowError c_NoSpot c_NoSign)
    (O_bounced : Ow P w K mg base "bounced" ["start", "speed", "room", "beat"] 1 z44)
    (E_NoSpot : Oo K mg "NoSpot" c_NoSpot) (B : Blt mg) :
    Ow2 P w K mg base "spot_of" ["goer", "wide", "high", "beat"] 2 (z3U c_NoSpot) := by
  refine D.ow2 (D.F.ok2 sc_spotof (fun vs H Q E h => ?_) (fun cdv A outer s H vs Q E hr h => ?_))
  . obtain ⟨t, g, W, Hh, bt, rfl, _⟩ := h
    rfl
  obtain ⟨t, g, W, Hh, bt, rfl, GA, GO, W1, H1, q1, q2⟩ := h
  obtain ⟨p, gt, PC⟩ := id GA
  obtain ⟨pp, pm, g1, g2, g3⟩ := id PC
  have hR := GO.rect.len
  rw [hR] at g1
  have rais : ¬ g.on W Hh -> ∀ (z : Str) (D : Ends) (σ : L2.St), z3S c_NoSpot (z5B (tC (V.str z)) z6k) E D σ H := fun n z D σ => ⟨(by show 1 <= 1000; decide), q2 n H (Same.refl _)⟩
  refine ⟨_, (z03 (z0B (i := 4) sc_spotof.nd rfl (Or.inl rfl) (z09 z0n (pv 1) (z0G z08 (z0G z08 (pv 0) z01 (fun _ _ => rfl)) z01 (fun _ _ => rfl))))
    (z03 (z0B (i := 5) sc_spotof.nd rfl (Or.inl rfl) (z09 z0n (pv 2) (z0G z08 (z0G z08 (pv 0) z01 (fun _ _ => rfl)) z01 (fun _ _ => rfl))))
    (z03 (z0h (PW.pt (z2K (z1B (z22 z2o z2o z01 (z0G z08 (pv 0) z01 (fun _ _ => rfl)) (pv 4))) (z20 (z1B (z22 z2o z2o z01 (z0G z08 (pv 0) z01 (fun _ _ => rfl)) (pv 5)))))) (z06 (z3T z4n rfl E_NoSpot rfl (z00 z54 z02))) z0I)
    (z06 (z0J (z0R (z00 (z0C O_bounced hr rfl (z00 (z0G z08 (pv 0) z01 (fun _ _ => rfl)) (z00 (z0G z08 (pv 0) z01 (fun _ _ => rfl)) (z00 (pv 4) (z00 (pv 3) z02))))) (z00 (z0C O_bounced hr rfl (z00 (z0G z08 (pv 0) z01 (fun _ _ => rfl)) (z00 (z0G z08 (pv 0) z01 (fun _ _ => rfl)) (z00 (pv 5) (z00 (pv 3) z02))))) z02)))))))), ?_⟩
  walk_at "rs"
  refine ⟨t, _, 0, _, rfl, rfl, SqT.of gt, rfl, p, _, 0, _, rfl, rfl, SqT.of g1, rfl, ?_⟩
  walk_at "rs"
  refine ⟨t, _, 0, _, rfl, rfl, SqT.of gt, rfl, p, _, 1, _, rfl, rfl, SqT.of g1, rfl, ?_⟩
  walk_at "rs"
  refine ⟨t, _, 1, _, rfl, rfl, SqT.of gt, rfl, ?_⟩
  walk_at "rs"
  refine z1K (fun c1 => ?_) (fun c1 => ?_)
  . walk_at "rs"
    refine z6D (fun c2 => z4C (rais (fun on => c2 on.2.1) _ _ _)) (fun c2 => ?_)
    walk_at "rs"
    refine ⟨t, _, 2, _, rfl, rfl, SqT.of gt, rfl, ?_⟩
    walk_at "rs"
    refine z1K (fun c3 => ?_) (fun c3 => ?_)
    . walk_at "rs"
      refine z6D (fun c4 => rais (fun on => c4 on.2.2.2) _ _ _) (fun c4 => ?_)
      have x0 := GO.x0
      have x1 := GO.x1
      have y0 := GO.y0
      have y1 := GO.y1
      walk_at "rs"
      refine ⟨t, _, 1, _, rfl, rfl, SqT.of gt, rfl, ?_⟩
      walk_at "rs"
      refine ⟨t, _, 3, _, rfl, rfl, SqT.of gt, rfl, ?_⟩
      walk_at "rs"
      refine ⟨g.x, g.dx, W - g.w, bt, rfl, x0, x1, by omega, by omega, ?_⟩
      walk_at "rs"
      refine ⟨t, _, 2, _, rfl, rfl, SqT.of gt, rfl, ?_⟩
      walk_at "rs"
      refine ⟨t, _, 4, _, rfl, rfl, SqT.of gt, rfl, ?_⟩
      walk_at "rs"
      refine ⟨g.y, g.dy, Hh - g.h, bt, rfl, y0, y1, by omega, by omega, ?_⟩
      walk_at "rs"
      intro u nu
      exact q1 ⟨c1, c2, c3, c4⟩ u _ (Same.new nu) z05
    . exact ⟨_, rfl, z4C (rais (fun on => c3 on.2.2.1) _ _ _)⟩
  . exact ⟨_, rfl, z4C (z4C (rais (fun on => c1 on.1) _ _ _))⟩
theorem sc_lawsides : FnScope ["_law_script", "_law_wide", "_law_high"] ["_law_script"] (z04 z0X) := ⟨rfl, rfl, rfl, by decide +kernel, rfl, by decide +kernel, by decide +kernel⟩
theorem z1y {f : Addr} {fd : FuncData} (D : Df K mg "_law_sides" z0X ["_law_script"] f fd)
    (O_lawdraw : Ow P w K mg base "_law_draw" ["_law_script", "_law_k", "_law_prime", "_law_many"] 1 (z1G K)) (B : Blt mg) :
    Ow P w K mg base "_law_sides" ["_law_script"] 2 (z2H K) := by
  refine D.ow (D.F.ok sc_lawsides (fun vs H Q E h => ?_) (fun cdv A outer s H vs Q E hr h => ?_))
  . obtain ⟨a, ns, rfl, _⟩ := h
    rfl
  obtain ⟨a, ns, rfl, hS, q⟩ := h
  refine ⟨_, (z03 (z0B (i := 1) sc_lawsides.nd rfl (Or.inl rfl) (z09 z0T z01 (z0C O_lawdraw hr rfl (z00 (pv 0) (z00 z01 (z00 z01 (z00 z01 z02)))))))
    (z03 (z0B (i := 2) sc_lawsides.nd rfl (Or.inl rfl) (z09 z0T z01 (z0C O_lawdraw hr rfl (z00 (pv 0) (z00 z01 (z00 z01 (z00 z01 z02)))))))
    (z1F (z0h (z0F z0m (z0C O_lawdraw hr rfl (z00 (pv 0) (z00 z01 (z00 z01 (z00 z01 z02))))) z01 (z0N _)) (z06 (z0B (i := 1) sc_lawsides.nd rfl (Or.inl rfl) z01)) z0I)
    (z1F (z0h (z0F z0m (z0C O_lawdraw hr rfl (z00 (pv 0) (z00 z01 (z00 z01 (z00 z01 z02))))) z01 (z0N _)) (z06 (z0B (i := 2) sc_lawsides.nd rfl (Or.inl rfl) z01)) z0I)
    (z06 (z0J (z0R (z00 (pv 1) (z00 (pv 2) z02))))))))), ?_⟩
  walk_at "rs"
  refine ⟨a, ns, _, _, _, rfl, hS, by decide, by decide, by decide, by decide, fun z1 a0 a1 => ?_⟩
  walk_at "rs"
  refine ⟨a, ns, _, _, _, rfl, hS, by decide, by decide, by decide, by decide, fun z2 b0 b1 => ?_⟩
  walk_at "rs"
  refine ⟨fun σ' H' => H' = H /\ ∃ wd : Int, 1 <= wd /\ wd <= 64 /\ σ' = [some (.ref a), some (.int wd), some (.int (1 + z2))], ?_, ?_⟩
  . walk_at "rs"
    refine ⟨a, ns, _, _, _, rfl, hS, by decide, by decide, by decide, by decide, fun z3 c0 c1 => ?_⟩
    walk_at "rs"
    refine z6y (fun _ => ?_) (fun _ => ?_)
    . exact ⟨rfl, 64, by decide, by decide, rfl⟩
    . exact ⟨rfl, 1 + z1, by omega, by omega, rfl⟩
  rintro σ1 H1 ⟨rfl, wd, w1, w2, rfl⟩
  refine ⟨fun σ' H' => H' = H1 /\ ∃ hg : Int, 1 <= hg /\ hg <= 64 /\ σ' = [some (.ref a), some (.int wd), some (.int hg)], ?_, ?_⟩
  . walk_at "rs"
    refine ⟨a, ns, _, _, _, rfl, hS, by decide, by decide, by decide, by decide, fun z3 c0 c1 => ?_⟩
    walk_at "rs"
    refine z6y (fun _ => ?_) (fun _ => ?_)
    . exact ⟨rfl, 64, by decide, by decide, rfl⟩
    . exact ⟨rfl, 1 + z2, by omega, by omega, rfl⟩
  rintro σ2 H2 ⟨rfl, hg, h1, h2, rfl⟩
  walk_at "rs"
  intro t nt
  exact q wd hg t _ (Same.new nt) z05 w1 w2 h1 h2
theorem sc_lawrefused : FnScope ["_law_goer", "_law_wide", "_law_high", "_law_beat", "_law_told", "e"] ["_law_goer", "_law_wide", "_law_high", "_law_beat"] (z04 z0P) := ⟨rfl, rfl, rfl, by decide +kernel, rfl, by decide +kernel, by decide +kernel⟩
theorem z1V {f : Addr} {fd : FuncData} (D : Df K mg "_law_refused" z0P ["_law_goer", "_law_wide", "_law_high", "_law_beat"] f fd)
    {c_GlowError c_NoSpot c_NoSign : Addr} (Z : Cl K mg c_GlowError c_NoSpot c_NoSign)
    (O_spotof : Ow2 P w K mg base "spot_of" ["goer", "wide", "high", "beat"] 2 (z3U c_NoSpot)) (B : Blt mg) :
    Ow P w K mg base "_law_refused" ["_law_goer", "_law_wide", "_law_high", "_law_beat"] 3 z4H := by
  refine D.ow (D.F.ok sc_lawrefused (fun vs H Q E h => ?_) (fun cdv A outer s H vs Q E hr h => ?_))
  . obtain ⟨t, g, W, Hh, bt, rfl, _⟩ := h
    rfl
  obtain ⟨t, g, W, Hh, bt, rfl, GA, GO, W1, H1, off, q⟩ := h
  refine ⟨_, (z03 (z0B (i := 4) sc_lawrefused.nd rfl (Or.inl rfl) z3d)
    (z03 (z4q (i := 5) (z43 O_spotof hr rfl (z00 (pv 0) (z00 (pv 1) (z00 (pv 2) (z00 (pv 3) z02))))) rfl rfl rfl ⟨Z.m_GlowError, Z.x_GlowError⟩ sc_lawrefused.nd rfl rfl (fun _ => (z06 (z0B (i := 4) sc_lawrefused.nd rfl (Or.inl rfl) (z21 (z0H z15 rfl B.f_isinstance boot_isinstance (z00 (pv 5) (z00 (z2e (v := .ref _) rfl Z.m_NoSpot rfl) z02))) (z21 (z0H z15 rfl B.f_isinstance boot_isinstance (z00 (pv 5) (z00 (z1P (v := .ty "ValueError") rfl B.f_ValueError z1I rfl) z02))) (z2g (z46 (z0H z15 rfl B.f_isinstance boot_isinstance (z00 (pv 5) (z00 (z2e (v := .ref _) rfl Z.m_NoSign rfl) z02)))))))))))
    (z06 (z0J (pv 4))))), ?_⟩
  have kt := Z.kt 0 (by decide)
  have k0 : PySem.W.kitOne K (.ref c_NoSpot) (.ref c_NoSpot) = some true := kt.one 0 (Nat.lt_of_sub_eq_succ rfl)
  have k1 : PySem.W.kitOne K (.ref c_NoSpot) (.ref c_NoSign) = some false := kt.one 1 (Nat.lt_of_sub_eq_succ rfl)
  have kv : PySem.W.kitOne K (.ref c_NoSpot) (.type "ValueError") = some true := kt.v
  walk_at "rs"
  refine ⟨fun Cv d H2 => Cv = .ref c_NoSpot /\ d = none /\ Same H H2, ?_, ?_⟩
  . walk_at "rs"
    exact ⟨t, g, W, Hh, bt, rfl, GA, GO, W1, H1, fun on => absurd on off, fun _ H' s' => ⟨rfl, rfl, s'⟩⟩
  . rintro Cv d H2 ⟨rfl, rfl, s2⟩
    refine ⟨c_NoSpot, rfl, Z.x_NoSpot, Z.ab _ (by simp), fun a na => ?_⟩
    have s3 : Same H2 (upd H2 a (.ext (z2R a c_NoSpot none))) := Same.new na
    have hE : ErrAt (upd H2 a (.ext (z2R a c_NoSpot none))) a c_NoSpot [] := .inl ⟨rfl, .inr z05⟩
    generalize upd H2 a (.ext (z2R a c_NoSpot none)) = H3 at s3 hE
    refine ⟨_, rfl, a, _, _, _, _, _, rfl, hE, Z.x_NoSpot, rfl, k0, _, rfl, z5J rfl ?_⟩
    refine ⟨_, rfl, a, _, _, _, _, _, rfl, hE, Z.x_NoSpot, rfl, kv, _, rfl, z5J rfl ?_⟩
    refine ⟨_, rfl, a, _, _, _, _, _, rfl, hE, Z.x_NoSpot, rfl, k1, ?_⟩
    walk_at "rs"
    exact q H3 (s2.trans s3)
theorem sc_lawright : FnScope ["_law_goer", "_law_rooms", "_law_sides_here", "_law_beat", "_law_found", "_law_due_here"] ["_law_goer", "_law_rooms", "_law_sides_here", "_law_beat"] (z04 z0S) := ⟨rfl, rfl, rfl, by decide +kernel, rfl, by decide +kernel, by decide +kernel⟩
theorem z1z {f : Addr} {fd : FuncData} (D : Df K mg "_law_right" z0S ["_law_goer", "_law_rooms", "_law_sides_here", "_law_beat"] f fd)
    (O_spotof : Ow2 P w K mg base "spot_of" ["goer", "wide", "high", "beat"] 2 (z3U c_NoSpot))
    (O_lawwhole : Ow P w K mg base "_law_whole" ["_law_found"] 1 z3A)
    (O_lawdue : Ow P w K mg base "_law_due" ["_law_start", "_law_speed_here", "_law_room", "_law_beat"] 1 z44) (B : Blt mg) :
    Ow P w K mg base "_law_right" ["_law_goer", "_law_rooms", "_law_sides_here", "_law_beat"] 3 z2I := by
  refine D.ow (D.F.ok sc_lawright (fun vs H Q E h => ?_) (fun cdv A outer s H vs Q E hr h => ?_))
  . obtain ⟨t, r, s, g, W, Hh, bt, rfl, _⟩ := h
    rfl
  obtain ⟨t, r, s, g, W, Hh, bt, rfl, GA, GO, W1, H1, on, gr, gs, q⟩ := h
  refine ⟨_, (z03 (z0B (i := 4) sc_lawright.nd rfl (Or.inl rfl) (z42 O_spotof hr rfl (z00 (pv 0) (z00 (z0G z08 (pv 2) z01 (fun _ _ => rfl)) (z00 (z0G z08 (pv 2) z01 (fun _ _ => rfl)) (z00 (pv 3) z02))))))
    (z03 (z0h (PW.pt (z2K (z1B (z1X (z0H z1S rfl B.f_isinstance boot_isinstance (z00 (pv 4) (z00 (z1P (v := .ty "tuple") rfl B.f_tuple boot_tuple rfl) z02))))) (z2K (z0F z5z (z0H z0O rfl B.f_len boot_len (z00 (pv 4) z02)) z01 (z0N _)) (z20 (z1B (z1X (z0H (z3o rfl) rfl B.f_all boot_all (z00 (z36 (locs := ["_law_one"]) (ix := []) rfl (BlkSc.look (dsc := z04 z0S) (N := ["_law_goer", "_law_rooms", "_law_sides_here", "_law_beat", "_law_found", "_law_due_here"]) rfl rfl (by decide +kernel)) (z56 (pv 4)) (fun _ _ _ _ _ _ => (z0Z (i := 0) (by decide +kernel : (["_law_one"] : List Str).Nodup) rfl (Or.inl rfl))) (fun _ _ _ _ _ _ => z35) (fun _ _ _ _ _ _ => (z0C O_lawwhole hr rfl (z00 (pv 0) z02)))) z02)))))))) (z06 (z0J z3d)) z0I)
    (z03 (z0B (i := 5) sc_lawright.nd rfl (Or.inl rfl) (z0R (z00 (z0C O_lawdue hr rfl (z00 (z0G z08 (pv 0) z01 (fun _ _ => rfl)) (z00 (z0G z08 (pv 0) z01 (fun _ _ => rfl)) (z00 (z0G z08 (pv 1) z01 (fun _ _ => rfl)) (z00 (pv 3) z02))))) (z00 (z0C O_lawdue hr rfl (z00 (z0G z08 (pv 0) z01 (fun _ _ => rfl)) (z00 (z0G z08 (pv 0) z01 (fun _ _ => rfl)) (z00 (z0G z08 (pv 1) z01 (fun _ _ => rfl)) (z00 (pv 3) z02))))) z02))))
    (z06 (z0J (z4O (z5X (n := 0) (z5V hr)) (pv 4) (pv 5) (z0N _))))))), ?_⟩
  refine ⟨_, rfl, _, rfl, s, _, 0, _, rfl, rfl, SqT.of gs, rfl, _, rfl, s, _, 1, _, rfl, rfl, SqT.of gs, rfl, ?_⟩
  walk_at "rs"
  refine ⟨t, g, W, Hh, bt, rfl, GA, GO, W1, H1, fun _ u H2 s2 gu => ?_, fun n => absurd on n⟩
  obtain ⟨p, gt, PC⟩ := id GA
  have gt2 := s2 _ _ gt
  have gr2 := s2 _ _ gr
  have x0 := GO.x0
  have x1 := GO.x1
  have y0 := GO.y0
  have y1 := GO.y1
  obtain ⟨o1, o2, o3, o4⟩ := id on
  walk_at "rs"
  refine ⟨_, "tuple", "tuple", rfl, by decide, by simp only [tyS, gu], _, rfl, z4U rfl ?_⟩
  refine ⟨_, rfl, u, _, rfl, .inr (SqT.of gu), rfl, _, rfl, z4U rfl ?_⟩
  refine ⟨_, rfl, u, rfl, ⟨_, SqT.of gu⟩, ?_⟩
  refine z38 (n := 2) (fun i σ zs H4 => ∃ v, σ = [v] /\ zs = (List.replicate i true).map V.bl /\ H4 = H2) ⟨none, rfl, rfl, rfl⟩ (by decide) ?_ ?_ ?_ ?_ ?_
  . rintro i σ zs H4 ⟨v, _, rfl, _⟩
    rw [List.length_map, List.length_replicate]
  . rintro σ zs H4 ⟨v, _, _, rfl⟩
    exact ⟨_, SqT.of gu, by show 2 <= 2; decide⟩
  . rintro i σ zs H4 hi ⟨v, _, _, rfl⟩
    exact ⟨_, _, SqT.of gu, List.getElem?_eq_getElem (show i < ([(g.at W Hh bt).1, (g.at W Hh bt).2].map V.int).length from hi)⟩
  . rintro i σ zs H4 z H' Z hi ⟨v, rfl, rfl, rfl⟩ ⟨rfl, hx⟩ hZ
    obtain ⟨z, rfl⟩ := z17 (ns := [(g.at W Hh bt).1, (g.at W Hh bt).2]) (List.mem_of_getElem? (hx _ (SqT.of gu)))
    refine ⟨_, rfl, _, "int", rfl, rfl, ?_⟩
    refine hZ _ _ _ ⟨_, rfl, ?_, rfl⟩
    rw [List.replicate_succ', List.map_append]
    rfl
  rintro σ zs H4 ⟨v, rfl, rfl, rfl⟩ l' hl'
  refine ⟨l', List.replicate 2 true, rfl, SqL.of z05, _, rfl, z4U rfl ?_⟩
  have s5 : Same H4 (upd H4 l' (.lst ((List.replicate 2 true).map V.bl))) := Same.new hl'
  generalize upd H4 l' (.lst ((List.replicate 2 true).map V.bl)) = H5 at s5 ⊢
  walk_at "rs"
  refine ⟨t, _, 1, _, rfl, rfl, SqT.of (s5 _ _ gt2), rfl, ?_⟩
  walk_at "rs"
  refine ⟨t, _, 3, _, rfl, rfl, SqT.of (s5 _ _ gt2), rfl, ?_⟩
  walk_at "rs"
  refine ⟨r, _, 0, _, rfl, rfl, SqT.of (s5 _ _ gr2), rfl, ?_⟩
  walk_at "rs"
  refine ⟨g.x, g.dx, W - g.w, bt, rfl, x0, x1, by omega, by omega, ?_⟩
  walk_at "rs"
  refine ⟨t, _, 2, _, rfl, rfl, SqT.of (s5 _ _ gt2), rfl, ?_⟩
  walk_at "rs"
  refine ⟨t, _, 4, _, rfl, rfl, SqT.of (s5 _ _ gt2), rfl, ?_⟩
  walk_at "rs"
  refine ⟨r, _, 1, _, rfl, rfl, SqT.of (s5 _ _ gr2), rfl, ?_⟩
  walk_at "rs"
  refine ⟨g.y, g.dy, Hh - g.h, bt, rfl, y0, y1, by omega, by omega, ?_⟩
  walk_at "rs"
  intro d nd
  walk_at "rs"
  have s6 := s5.trans (Same.new (o := .tup [.int (g.at W Hh bt).1, .int (g.at W Hh bt).2]) nd)
  exact ⟨EqT.tints (zs := [(g.at W Hh bt).1, (g.at W Hh bt).2]) (s6 _ _ gu) z05, q _ (s2.trans s6)⟩
theorem sc_lawoff : FnScope ["_law_script", "_law_goer", "_law_rooms", "_law_sides_here", "_law_far", "_law_way", "_law_pic", "_law_x", "_law_y", "_law_dx", "_law_dy"] ["_law_script", "_law_goer", "_law_rooms", "_law_sides_here"] (z04 z0l) := ⟨rfl, rfl, rfl, by decide +kernel, rfl, by decide +kernel, by decide +kernel⟩
theorem z3Z {f : Addr} {fd : FuncData} (D : Df K mg "_law_off" z0l ["_law_script", "_law_goer", "_law_rooms", "_law_sides_here"] f fd)
    (O_lawdraw : Ow P w K mg base "_law_draw" ["_law_script", "_law_k", "_law_prime", "_law_many"] 1 (z1G K))
    (O_lawgreat : Ow P w K mg base "_law_great" ["_law_script", "_law_k", "_law_many"] 1 (z26 K)) (B : Blt mg) :
    Ow P w K mg base "_law_off" ["_law_script", "_law_goer", "_law_rooms", "_law_sides_here"] 2 (z4I K) := by
  refine D.ow (D.F.ok sc_lawoff (fun vs H Q E h => ?_) (fun cdv A outer s H vs Q E hr h => ?_))
  . obtain ⟨a, t, r, s, ns, g, W, Hh, rfl, _⟩ := h
    rfl
  obtain ⟨a, t, r, s, ns, g, W, Hh, rfl, hS, GA, GO, W1, H1', on, gr, gs, q⟩ := h
  refine ⟨_, (z03 (z0B (i := 4) sc_lawoff.nd rfl (Or.inl rfl) z01)
    (z1F (z0h (z0F z0m (z0C O_lawdraw hr rfl (z00 (pv 0) (z00 z01 (z00 z01 (z00 z01 z02))))) z01 (z0N _)) (z06 (z0B (i := 4) sc_lawoff.nd rfl (Or.inl rfl) (z09 z0T z01 (z0C O_lawgreat hr rfl (z00 (pv 0) (z00 z01 (z00 (z09 z0n (z09 z1N z01 z01) z01) z02))))))) z0I)
    (z03 (z0B (i := 5) sc_lawoff.nd rfl (Or.inl rfl) (z0C O_lawdraw hr rfl (z00 (pv 0) (z00 z01 (z00 z01 (z00 z01 z02))))))
    (z03 (z48 (pv 1) (z47 (n := 5) rfl (z0i (z0Z (i := 6) sc_lawoff.nd rfl (Or.inl rfl)) (z0i (z0Z (i := 7) sc_lawoff.nd rfl (Or.inl rfl)) (z0i (z0Z (i := 8) sc_lawoff.nd rfl (Or.inl rfl)) (z0i (z0Z (i := 9) sc_lawoff.nd rfl (Or.inl rfl)) (z0i (z0Z (i := 10) sc_lawoff.nd rfl (Or.inl rfl)) z2h)))))))
    (z03 (z0h (z0F z0m (pv 5) z01 (z0N _)) (z06 (z0J (z0R (z00 (z0R (z00 (pv 6) (z00 (z57 z4A (pv 4)) (z00 (pv 8) (z00 (pv 9) (z00 (pv 10) z02)))))) (z00 (pv 3) z02))))) z0I)
    (z03 (z0h (z0F z0m (pv 5) z01 (z0N _)) (z06 (z0J (z0R (z00 (z0R (z00 (pv 6) (z00 (z09 z0T (z0G z08 (pv 2) z01 (fun _ _ => rfl)) (pv 4)) (z00 (pv 8) (z00 (pv 9) (z00 (pv 10) z02)))))) (z00 (pv 3) z02))))) z0I)
    (z03 (z0h (z0F z0m (pv 5) z01 (z0N _)) (z06 (z0J (z0R (z00 (z0R (z00 (pv 6) (z00 (pv 7) (z00 (z57 z4A (pv 4)) (z00 (pv 9) (z00 (pv 10) z02)))))) (z00 (pv 3) z02))))) z0I)
    (z1F (z0h (PW.pt (z2K (z0F z0m (pv 5) z01 (z0N _)) (z2K (PW.pt (z45 (z0F z0m (pv 5) z01 (z0N _)) (z2f (z0F z0m (z0G z08 (pv 6) z01 (fun _ _ => rfl)) z01 (z0N _))))) (z20 (PW.pt (z45 (z0F z0m (pv 5) z01 (z0N _)) (z2f (z0F z0m (z0G z08 (pv 6) z01 (fun _ _ => rfl)) z01 (z0N _))))))))) (z06 (z0J (z0R (z00 (z0R (z00 (pv 6) (z00 (pv 7) (z00 (z09 z0T (z0G z08 (pv 2) z01 (fun _ _ => rfl)) (pv 4)) (z00 (pv 9) (z00 (pv 10) z02)))))) (z00 (pv 3) z02))))) z0I)
    (z03 (z0h (z0F z0m (pv 5) z01 (z0N _)) (z06 (z0J (z0R (z00 (z0R (z00 (pv 6) (z00 z01 (z00 (pv 8) (z00 (pv 9) (z00 (pv 10) z02)))))) (z00 (z0R (z00 (z09 z0n (z0G z08 (pv 6) z01 (fun _ _ => rfl)) z01) (z00 (z0G z08 (pv 3) z01 (fun _ _ => rfl)) z02))) z02))))) z0I)
    (z06 (z0J (z0R (z00 (z0R (z00 (pv 6) (z00 (pv 7) (z00 z01 (z00 (pv 9) (z00 (pv 10) z02)))))) (z00 (z0R (z00 (z0G z08 (pv 3) z01 (fun _ _ => rfl)) (z00 (z09 z0n (z0G z08 (pv 6) z01 (fun _ _ => rfl)) z01) z02))) z02)))))))))))))), ?_⟩
  obtain ⟨p, gt, PC⟩ := id GA
  obtain ⟨pp, pm, g1, g2, g3⟩ := id PC
  rw [GO.rect.len] at g1
  have hw1 := GO.rect.w1
  have hh1 := GO.rect.h1
  have e9 : (10 : Int) ^ Int.toNat 9 = 1000000000 := by decide
  obtain ⟨o1, o2, o3, o4⟩ := id on
  walk_at "rs"
  refine ⟨fun σ' H' => H' = H /\ ∃ far : Int, 1 <= far /\ σ' = [some (.ref a), some (.ref t), some (.ref r), some (.ref s), some (.int far), none, none, none, none, none, none], ?_, ?_⟩
  . walk_at "rs"
    refine ⟨a, ns, _, _, _, rfl, hS, by decide, by decide, by decide, by decide, fun z1 a0 a1 => ?_⟩
    walk_at "rs"
    refine z1K (fun c => ?_) (fun c => ?_)
    . walk_at "rs"
      refine ⟨a, ns, _, _, rfl, hS, by decide, by decide, (by decide), fun r2 b0 b1 => ?_⟩
      walk_at "rs"
      exact ⟨_, by omega, rfl⟩
    . exact ⟨rfl, 1, by decide, rfl⟩
  rintro σ1 H1 ⟨rfl, far, f1, rfl⟩
  walk_at "rs"
  refine ⟨a, ns, _, _, _, rfl, hS, by decide, by decide, by decide, by decide, fun way a0 a1 => ?_⟩
  walk_at "rs"
  refine ⟨t, _, rfl, SqT.of gt, rfl, _, _, rfl, _, _, rfl, _, _, rfl, _, _, rfl, _, _, rfl, rfl, ?_⟩
  have fin : ∀ {x' y' W' Hh' : Int} {H2 : Hp} {t1 s' u : Addr}, Same H1 H2 -> H2 t1 = some (.tup [.ref p, .int x', .int y', .int g.dx, .int g.dy]) -> H2 s' = some (.tup [.int W', .int Hh']) -> W' <= 1000 -> Hh' <= 1000 -> ¬ (0 <= x' /\ x' <= W' - g.w /\ 0 <= y' /\ y' <= Hh' - g.h) -> H2 u = none -> Q (.ref u) (upd H2 u (.tup [.ref t1, .ref s'])) := fun {x' y' W' Hh' H2 t1 s' u} s2 ht hs w1 h1 off nu =>
    q u t1 s' ⟨g.w, g.h, g.rows, x', y', g.dx, g.dy⟩ W' Hh' _ (s2.trans (Same.new nu)) z05 ⟨p, (Same.new nu) _ _ ht, PC.mono (s2.trans (Same.new nu))⟩ ⟨GO.rect, GO.x0, GO.x1, GO.y0, GO.y1⟩ ((Same.new nu) _ _ hs) w1 h1 off
  walk_at "rs"
  refine z1K (fun c => ?_) (fun d0 => ?_)
  . walk_at "rs"
    intro t1 n1
    walk_at "rs"
    intro u nu
    exact fin (Same.new n1) z05 ((Same.new n1) _ _ gs) W1 H1' (by omega) nu
  walk_at "rs"
  refine z1K (fun c => ?_) (fun d1 => ?_)
  . walk_at "rs"
    refine ⟨r, _, 0, _, rfl, rfl, SqT.of gr, rfl, ?_⟩
    walk_at "rs"
    intro t1 n1
    walk_at "rs"
    intro u nu
    exact fin (Same.new n1) z05 ((Same.new n1) _ _ gs) W1 H1' (by omega) nu
  walk_at "rs"
  refine z1K (fun c => ?_) (fun d2 => ?_)
  . walk_at "rs"
    intro t1 n1
    walk_at "rs"
    intro u nu
    exact fin (Same.new n1) z05 ((Same.new n1) _ _ gs) W1 H1' (by omega) nu
  refine ⟨fun σ' H' => H' = H1 /\ σ' = [some (.ref a), some (.ref t), some (.ref r), some (.ref s), some (.int far), some (.int way), some (.ref p), some (.int g.x), some (.int g.y), some (.int g.dx), some (.int g.dy)] /\ ¬ way = 3, ?_, ?_⟩
  . walk_at "rs"
    refine z1K (fun c => ?_) (fun d3 => ?_)
    . refine z4C ?_
      walk_at "rs"
      refine ⟨r, _, 1, _, rfl, rfl, SqT.of gr, rfl, ?_⟩
      walk_at "rs"
      intro t1 n1
      walk_at "rs"
      intro u nu
      exact fin (Same.new n1) z05 ((Same.new n1) _ _ gs) W1 H1' (by omega) nu
    have d3 : ¬ way = 3 := fun e => d3 (congrArg V.int e)
    walk_at "rs"
    refine z1K (fun c4 => ?_) (fun d4 => ?_)
    . have c4 := V.int.inj c4
      walk_at "rs"
      refine ⟨p, _, 0, _, rfl, rfl, SqT.of g1, rfl, ?_⟩
      walk_at "rs"
      refine z1K (fun c => ?_) (fun d => ?_)
      . refine z4C ?_
        walk_at "rs"
        refine ⟨r, _, 1, _, rfl, rfl, SqT.of gr, rfl, ?_⟩
        walk_at "rs"
        intro t1 n1
        walk_at "rs"
        intro u nu
        exact fin (Same.new n1) z05 ((Same.new n1) _ _ gs) W1 H1' (by omega) nu
      walk_at "rs"
      refine z1K (fun c5 => ?_) (fun d5 => ?_)
      . have c5 := V.int.inj c5
        omega
      . first
          | exact ⟨rfl, rfl, d3⟩
          | exact z5I ⟨rfl, rfl, d3⟩
    . try refine z5I ?_
      walk_at "rs"
      refine z1K (fun c5 => ?_) (fun d5 => ?_)
      . walk_at "rs"
        refine ⟨p, _, 1, _, rfl, rfl, SqT.of g1, rfl, ?_⟩
        walk_at "rs"
        refine z1K (fun c => ?_) (fun d => ?_)
        . walk_at "rs"
          refine ⟨r, _, 1, _, rfl, rfl, SqT.of gr, rfl, ?_⟩
          walk_at "rs"
          intro t1 n1
          walk_at "rs"
          intro u nu
          exact fin (Same.new n1) z05 ((Same.new n1) _ _ gs) W1 H1' (by omega) nu
        exact ⟨rfl, rfl, d3⟩
      . first
          | exact ⟨rfl, rfl, d3⟩
          | exact z5I ⟨rfl, rfl, d3⟩
  rintro σ2 H2 ⟨rfl, rfl, d3⟩
  have hw2 := GO.rect.w2
  have hh2 := GO.rect.h2
  walk_at "rs"
  refine z1K (fun c => ?_) (fun d => ?_)
  . walk_at "rs"
    intro t1 n1
    walk_at "rs"
    refine ⟨p, _, 0, _, rfl, rfl, SqT.of ((Same.new n1) _ _ g1), rfl, ?_⟩
    walk_at "rs"
    refine ⟨s, _, 1, _, rfl, rfl, SqT.of ((Same.new n1) _ _ gs), rfl, ?_⟩
    walk_at "rs"
    intro s' ns'
    walk_at "rs"
    intro u nu
    exact fin ((Same.new n1).trans (Same.new ns')) ((Same.new ns') _ _ z05) z05 (by omega) H1' (by omega) nu
  . walk_at "rs"
    intro t1 n1
    walk_at "rs"
    refine ⟨s, _, 0, _, rfl, rfl, SqT.of ((Same.new n1) _ _ gs), rfl, ?_⟩
    walk_at "rs"
    refine ⟨p, _, 1, _, rfl, rfl, SqT.of ((Same.new n1) _ _ g1), rfl, ?_⟩
    walk_at "rs"
    intro s' ns'
    walk_at "rs"
    intro u nu
    exact fin ((Same.new n1).trans (Same.new ns')) ((Same.new ns') _ _ z05) z05 W1 (by omega) (by omega) nu
theorem sc_law : FnScope ["_law_script", "_law_wide", "_law_high", "_law_colour", "_law_pic", "_law_sides_here", "_law_rooms", "_law_x", "_law_y", "_law_goer", "_law_beat", "_law_bad"] ["_law_script"] (z04 z1J) := ⟨rfl, rfl, rfl, by decide +kernel, rfl, by decide +kernel, by decide +kernel⟩
theorem z5d {f : Addr} {fd : FuncData} (D : Df K mg "law" z1J ["_law_script"] f fd)
    (O_lawdraw : Ow P w K mg base "_law_draw" ["_law_script", "_law_k", "_law_prime", "_law_many"] 1 (z1G K))
    (O_lawgreat : Ow P w K mg base "_law_great" ["_law_script", "_law_k", "_law_many"] 1 (z26 K))
    (O_lawbits : Ow P w K mg base "_law_bits" ["_law_rows"] 1 z27)
    (O_lawspeed : Ow P w K mg base "_law_speed" ["_law_script", "_law_k"] 2 (z2G K))
    (O_lawsides : Ow P w K mg base "_law_sides" ["_law_script"] 2 (z2H K))
    (O_lawrefused : Ow P w K mg base "_law_refused" ["_law_goer", "_law_wide", "_law_high", "_law_beat"] 3 z4H)
    (O_lawright : Ow P w K mg base "_law_right" ["_law_goer", "_law_rooms", "_law_sides_here", "_law_beat"] 3 z2I)
    (O_lawoff : Ow P w K mg base "_law_off" ["_law_script", "_law_goer", "_law_rooms", "_law_sides_here"] 2 (z4I K)) (B : Blt mg) :
    FnOk P w K mg base CX0 4 f fd ["_law_script"] (z3l K) := by
  refine D.F.ok sc_law (fun vs H Q E h => ?_) (fun cdv A outer s H vs Q E hr h => ?_)
  . obtain ⟨a, ns, rfl, _⟩ := h
    rfl
  obtain ⟨a, ns, rfl, hS, hn, q⟩ := h
  refine ⟨_, (z03 (z48 (z0C O_lawsides hr rfl (z00 (pv 0) z02)) (z47 (n := 2) rfl (z0i (z0Z (i := 1) sc_law.nd rfl (Or.inr rfl)) (z0i (z0Z (i := 2) sc_law.nd rfl (Or.inl rfl)) z2h))))
    (z03 (z0B (i := 3) sc_law.nd rfl (Or.inr rfl) (z0C O_lawdraw hr rfl (z00 (pv 0) (z00 z01 (z00 z01 (z00 z01 z02))))))
    (z03 (z0B (i := 4) sc_law.nd rfl (Or.inl rfl) (z0C O_lawbits hr rfl (z00 (z36 (locs := ["_law_y"]) (ix := [3, 1]) rfl (BlkSc.look (dsc := z04 z1J) (N := ["_law_script", "_law_wide", "_law_high", "_law_colour", "_law_pic", "_law_sides_here", "_law_rooms", "_law_x", "_law_y", "_law_goer", "_law_beat", "_law_bad"]) rfl rfl (by decide +kernel)) (z2j rfl B.f_range (z00 (pv 2) z02)) (fun _ _ _ _ _ _ => (z0Z (i := 0) (by decide +kernel : (["_law_y", "_law_colour", "_law_wide"] : List Str).Nodup) rfl (Or.inl rfl))) (fun _ _ _ _ _ _ => z35) (fun _ _ _ _ _ _ => (z09 z5G (z2t (z00 (pv 1) z02)) (pv 2)))) z02)))
    (z03 (z0B (i := 5) sc_law.nd rfl (Or.inl rfl) (z0R (z00 (z0H (z1Z rfl) rfl B.f_min boot_min (z00 z01 (z00 (z09 z0T (pv 1) (z0C O_lawdraw hr rfl (z00 (pv 0) (z00 z01 (z00 z01 (z00 z01 z02)))))) z02))) (z00 (z0H (z1Z rfl) rfl B.f_min boot_min (z00 z01 (z00 (z09 z0T (pv 2) (z0C O_lawdraw hr rfl (z00 (pv 0) (z00 z01 (z00 z01 (z00 z01 z02)))))) z02))) z02))))
    (z03 (z0B (i := 6) sc_law.nd rfl (Or.inl rfl) (z0R (z00 (z09 z0n (z0G z08 (pv 5) z01 (fun _ _ => rfl)) (pv 1)) (z00 (z09 z0n (z0G z08 (pv 5) z01 (fun _ _ => rfl)) (pv 2)) z02))))
    (z03 (z0B (i := 7) sc_law.nd rfl (Or.inl rfl) (z0C O_lawdraw hr rfl (z00 (pv 0) (z00 z01 (z00 z01 (z00 (z09 z0T (z0G z08 (pv 6) z01 (fun _ _ => rfl)) z01) z02))))))
    (z03 (z0B (i := 8) sc_law.nd rfl (Or.inl rfl) (z0C O_lawdraw hr rfl (z00 (pv 0) (z00 z01 (z00 z01 (z00 (z09 z0T (z0G z08 (pv 6) z01 (fun _ _ => rfl)) z01) z02))))))
    (z03 (z0B (i := 9) sc_law.nd rfl (Or.inl rfl) (z0R (z00 (pv 4) (z00 (pv 7) (z00 (pv 8) (z00 (z0C O_lawspeed hr rfl (z00 (pv 0) (z00 z01 z02))) (z00 (z0C O_lawspeed hr rfl (z00 (pv 0) (z00 z01 z02))) z02)))))))
    (z03 (z0B (i := 10) sc_law.nd rfl (Or.inl rfl) (z0C O_lawdraw hr rfl (z00 (pv 0) (z00 z01 (z00 z01 (z00 z01 z02))))))
    (z1F (z0h (z0F z0m (z0C O_lawdraw hr rfl (z00 (pv 0) (z00 z01 (z00 z01 (z00 z01 z02))))) z01 (z0N _)) (z06 (z0B (i := 10) sc_law.nd rfl (Or.inl rfl) (z0C O_lawgreat hr rfl (z00 (pv 0) (z00 z01 (z00 (z09 z1N z01 z01) z02)))))) z0I)
    (z03 (z0h (z1B (z1X (z0C O_lawright hr rfl (z00 (pv 9) (z00 (pv 6) (z00 (pv 5) (z00 (pv 10) z02))))))) (z06 (z0J z3d)) z0I)
    (z03 (z0B (i := 11) sc_law.nd rfl (Or.inl rfl) (z0C O_lawoff hr rfl (z00 (pv 0) (z00 (pv 9) (z00 (pv 6) (z00 (pv 5) z02))))))
    (z03 (z0h (PW.pt (z2K (z1B (z1X (z0C O_lawrefused hr rfl (z00 (z0G z08 (pv 11) z01 (fun _ _ => rfl)) (z00 (z0G z08 (z0G z08 (pv 11) z01 (fun _ _ => rfl)) z01 (fun _ _ => rfl)) (z00 (z0G z08 (z0G z08 (pv 11) z01 (fun _ _ => rfl)) z01 (fun _ _ => rfl)) (z00 (pv 10) z02))))))) (z20 (z1B (z1X (z0C O_lawrefused hr rfl (z00 (z0G z08 (pv 11) z01 (fun _ _ => rfl)) (z00 (z0G z08 (z0G z08 (pv 11) z01 (fun _ _ => rfl)) z01 (fun _ _ => rfl)) (z00 (z0G z08 (z0G z08 (pv 11) z01 (fun _ _ => rfl)) z01 (fun _ _ => rfl)) (z00 z01 z02)))))))))) (z06 (z0J z3d)) z0I)
    (z06 (z0J (z21 (z0C O_lawright hr rfl (z00 (pv 9) (z00 (pv 6) (z00 (pv 5) (z00 (pv 10) z02))))) (z2g (z0C O_lawright hr rfl (z00 (pv 9) (z00 (pv 6) (z00 (pv 5) (z00 (z09 z0T (pv 10) z01) z02)))))))))))))))))))))), ?_⟩
  refine ⟨_, rfl, a, ns, rfl, hS, fun wd hg t H1 s1 gt w1 w2 h1 h2 => ?_⟩
  refine ⟨t, _, rfl, SqT.of gt, rfl, _, _, rfl, _, _, rfl, rfl, ?_⟩
  walk_at "rs"
  refine ⟨a, ns, _, _, _, rfl, s1.seq hS, by decide, by decide, by decide, by decide, fun col c0 c1 => ?_⟩
  walk_at "rs"
  refine ⟨(z73 (by omega) (by omega)).1, (z73 (by omega) (by omega)).2, ?_⟩
  refine z38 (n := hg.toNat) (fun i σ zs H2 => ∃ v qs, σ = [v, some (.int col), some (.int wd)] /\ zs = qs.map V.ref /\ Made H1 H2 (fun _ => List.replicate wd.toNat (some col)) i qs) ⟨none, [], rfl, rfl, Made.nil⟩ (Nat.le_of_lt (z0o (by omega))) ?_ ?_ ?_ ?_ ?_
  . rintro i σ zs H2 ⟨v, qs, _, rfl, M⟩
    rw [List.length_map]
    exact M.len
  . rintro σ zs H2 _
    show hg.toNat <= hg.toNat
    exact Nat.le_refl _
  . intro i σ zs H2 hi _
    show i < hg.toNat
    exact hi
  . rintro i σ zs H2 x H' Z hi ⟨v, qs, rfl, rfl, M⟩ ⟨rfl, rfl⟩ hZ
    walk_at "rs"
    intro l1 n1
    walk_at "rs"
    refine ⟨l1, wd, _, rfl, rfl, z05, by have : (1000000000 : Int) < 2 ^ 63 := (by decide); omega, by have : (1000000000 : Int) < 2 ^ 63 := (by decide); omega, by show 1 * wd.toNat <= _; rw [Nat.one_mul]; exact Nat.le_of_lt (z0o (by omega)), fun p np => ?_⟩
    refine hZ _ _ _ ⟨_, qs ++ [p], rfl, by rw [List.map_append]; rfl, M.push ((Same.new n1).trans (Same.new np)) ((Same.new n1).free np) ?_⟩
    rw [z05, z28, List.map_replicate]
    rfl
  rintro σ zs H2 ⟨v, qs, rfl, rfl, M⟩ l nl
  have RB := M.rows nl
  have hc : Cell (some col) := fun z e => by cases e; omega
  have R : Rect wd.toNat hg.toNat ((List.range hg.toNat).map fun _ => List.replicate wd.toNat (some col)) := ⟨by rw [List.length_map, List.length_range], by omega, by omega, by omega, by omega, fun r hr => by
    obtain ⟨y, _, rfl⟩ := List.mem_map.mp hr
    exact ⟨List.length_replicate, z3B hc _⟩⟩
  generalize upd H2 l (.lst (qs.map V.ref)) = H3 at RB
  generalize (List.range hg.toNat).map (fun _ => List.replicate wd.toNat (some col)) = rows at RB R
  have s3 := s1.trans RB.same
  refine ⟨l, qs, rows, wd.toNat, hg.toNat, rfl, RB.rat, R, fun p H4 s4 PC => ?_⟩
  have s4' := s3.trans s4
  walk_at "rs"
  refine ⟨a, ns, _, _, _, rfl, s4'.seq hS, by decide, by decide, by decide, by decide, fun z1 a0 a1 => ?_⟩
  walk_at "rs"
  have hm : ∃ m : Int, m = (if wd + z1 < 64 then wd + z1 else 64) /\ wd <= m /\ m <= 64 := ⟨_, rfl, by split <;> omega, by split <;> omega⟩
  obtain ⟨W, eW, W0, W1⟩ := hm
  refine ⟨_, _, rfl, ?_⟩
  rw [<- eW]
  walk_at "rs"
  refine ⟨a, ns, _, _, _, rfl, s4'.seq hS, by decide, by decide, by decide, by decide, fun z2 b0 b1 => ?_⟩
  walk_at "rs"
  have hm : ∃ m : Int, m = (if hg + z2 < 64 then hg + z2 else 64) /\ hg <= m /\ m <= 64 := ⟨_, rfl, by split <;> omega, by split <;> omega⟩
  obtain ⟨Hh, eH, Hh0, Hh1⟩ := hm
  refine ⟨_, _, rfl, ?_⟩
  rw [<- eH]
  walk_at "rs"
  intro si nsi
  have s5 : Same H4 (upd H4 si (.tup [.int W, .int Hh])) := Same.new nsi
  have g5 : (upd H4 si (.tup [.int W, .int Hh])) si = some (.tup [.int W, .int Hh]) := z05
  generalize upd H4 si (.tup [.int W, .int Hh]) = H5 at s5 g5
  walk_at "rs"
  refine ⟨si, _, 0, _, rfl, rfl, SqT.of g5, rfl, ?_⟩
  walk_at "rs"
  refine ⟨si, _, 1, _, rfl, rfl, SqT.of g5, rfl, ?_⟩
  walk_at "rs"
  intro ro nro
  have s6 : Same H5 (upd H5 ro (.tup [.int (W - wd), .int (Hh - hg)])) := Same.new nro
  have g6 : (upd H5 ro (.tup [.int (W - wd), .int (Hh - hg)])) ro = some (.tup [.int (W - wd), .int (Hh - hg)]) := z05
  generalize upd H5 ro (.tup [.int (W - wd), .int (Hh - hg)]) = H6 at s6 g6
  have s6' := s4'.trans (s5.trans s6)
  walk_at "rs"
  refine ⟨ro, _, 0, _, rfl, rfl, SqT.of g6, rfl, ?_⟩
  walk_at "rs"
  refine ⟨a, ns, _, _, _, rfl, s6'.seq hS, by decide, by decide, by decide, by omega, fun gx x0 x1 => ?_⟩
  walk_at "rs"
  refine ⟨ro, _, 1, _, rfl, rfl, SqT.of g6, rfl, ?_⟩
  walk_at "rs"
  refine ⟨a, ns, _, _, _, rfl, s6'.seq hS, by decide, by decide, by decide, by omega, fun gy y0 y1 => ?_⟩
  walk_at "rs"
  refine ⟨a, ns, _, rfl, s6'.seq hS, by decide, by decide, fun dx p0 p1 => ?_⟩
  walk_at "rs"
  refine ⟨a, ns, _, rfl, s6'.seq hS, by decide, by decide, fun dy q0 q1 => ?_⟩
  walk_at "rs"
  intro go ngo
  have s7 : Same H6 (upd H6 go (.tup [.ref p, .int gx, .int gy, .int dx, .int dy])) := Same.new ngo
  have g7 : (upd H6 go (.tup [.ref p, .int gx, .int gy, .int dx, .int dy])) go = some (.tup [.ref p, .int gx, .int gy, .int dx, .int dy]) := z05
  generalize upd H6 go (.tup [.ref p, .int gx, .int gy, .int dx, .int dy]) = H7 at s7 g7
  have s7' := s6'.trans s7
  have ew : ((wd.toNat : Nat) : Int) = wd := by omega
  have eh : ((hg.toNat : Nat) : Int) = hg := by omega
  have GA : GoAt H7 go ⟨wd.toNat, hg.toNat, rows, gx, gy, dx, dy⟩ := ⟨p, g7, PC.mono (s5.trans (s6.trans s7))⟩
  have GO : (⟨wd.toNat, hg.toNat, rows, gx, gy, dx, dy⟩ : Goer).Ok := ⟨R, by show -2000000000 <= dx; omega, by show dx <= 2000000000; omega, by show -2000000000 <= dy; omega, by show dy <= 2000000000; omega⟩
  have on : (⟨wd.toNat, hg.toNat, rows, gx, gy, dx, dy⟩ : Goer).on W Hh := by
    show 0 <= gx /\ gx <= W - (wd.toNat : Nat) /\ 0 <= gy /\ gy <= Hh - (hg.toNat : Nat)
    omega
  have gr7 : H7 ro = some (.tup [.int (W - ((wd.toNat : Nat) : Int)), .int (Hh - ((hg.toNat : Nat) : Int))]) := by
    rw [ew, eh]
    exact s7 _ _ g6
  have gs7 : H7 si = some (.tup [.int W, .int Hh]) := s7 _ _ (s6 _ _ g5)
  walk_at "rs"
  refine ⟨a, ns, _, _, _, rfl, s7'.seq hS, by decide, by decide, by decide, by decide, fun z3 d0 d1 => ?_⟩
  refine ⟨fun σ' H' => H' = H7 /\ ∃ bt : Int, σ' = [some (.ref a), some (.int wd), some (.int hg), some (.int col), some (.ref p), some (.ref si), some (.ref ro), some (.int gx), some (.int gy), some (.ref go), some (.int bt), none], ?_, ?_⟩
  . walk_at "rs"
    refine ⟨a, ns, _, _, _, rfl, s7'.seq hS, by decide, by decide, by decide, by decide, fun z4 d0 d1 => ?_⟩
    walk_at "rs"
    refine z1K (fun c => ?_) (fun c => ?_)
    . walk_at "rs"
      refine ⟨a, ns, _, _, rfl, s7'.seq hS, by decide, by decide, (by decide), fun bt b0 b1 => ?_⟩
      exact ⟨rfl, bt, rfl⟩
    . exact ⟨rfl, z3, rfl⟩
  rintro σ8 H8 ⟨rfl, bt, rfl⟩
  walk_at "rs"
  refine ⟨go, ro, si, _, W, Hh, bt, rfl, GA, GO, by omega, by omega, on, gr7, gs7, fun H9 s9 => ?_⟩
  walk_at "rs"
  refine ⟨a, go, ro, si, ns, _, W, Hh, rfl, (s7'.trans s9).seq hS, GA.mono s9, GO, by omega, by omega, on, s9 _ _ gr7, s9 _ _ gs7, fun bd t' s' g' W' Hh' H10 s10 gb GA' GO' gs' w' h' off => ?_⟩
  walk_at "rs"
  refine ⟨bd, _, 0, _, rfl, rfl, SqT.of gb, rfl, ?_⟩
  walk_at "rs"
  refine ⟨bd, _, 1, _, rfl, rfl, SqT.of gb, rfl, s', _, 0, _, rfl, rfl, SqT.of gs', rfl, ?_⟩
  walk_at "rs"
  refine ⟨bd, _, 1, _, rfl, rfl, SqT.of gb, rfl, s', _, 1, _, rfl, rfl, SqT.of gs', rfl, ?_⟩
  walk_at "rs"
  refine ⟨t', g', W', Hh', bt, rfl, GA', GO', w', h', off, fun H11 s11 => ?_⟩
  walk_at "rs"
  refine ⟨bd, _, 0, _, rfl, rfl, SqT.of (s11 _ _ gb), rfl, ?_⟩
  walk_at "rs"
  refine ⟨bd, _, 1, _, rfl, rfl, SqT.of (s11 _ _ gb), rfl, s', _, 0, _, rfl, rfl, SqT.of (s11 _ _ gs'), rfl, ?_⟩
  walk_at "rs"
  refine ⟨bd, _, 1, _, rfl, rfl, SqT.of (s11 _ _ gb), rfl, s', _, 1, _, rfl, rfl, SqT.of (s11 _ _ gs'), rfl, ?_⟩
  walk_at "rs"
  refine ⟨t', g', W', Hh', 0, rfl, GA'.mono s11, GO', w', h', off, fun H12 s12 => ?_⟩
  have t12 := s9.trans (s10.trans (s11.trans s12))
  walk_at "rs"
  refine ⟨go, ro, si, _, W, Hh, bt, rfl, GA.mono t12, GO, by omega, by omega, on, t12 _ _ gr7, t12 _ _ gs7, fun H13 s13 => ?_⟩
  have t13 := t12.trans s13
  walk_at "rs"
  refine ⟨go, ro, si, _, W, Hh, bt + 1, rfl, GA.mono t13, GO, by omega, by omega, on, t13 _ _ gr7, t13 _ _ gs7, fun H14 s14 => ?_⟩
  exact q _
end
theorem all_mk {l : PySem.W.OpenLaw} {w : World} {K : PySem.W.Frag} {h : Heap} {mg : Str -> Option Value} {fa f1 f2 f3 f4 f5 f6 f7 f8 f9 f10 f11 f12 f13 : Addr} (X : K.In h) (G : h.Ns mainGlobals mg) (hfa : mg "law" = some (.ref fa))
    {od1 an1 : Option Addr} {sl1 : Array (Option Value)} {oc1 kV1 dc1 pm1 cd1 ct1 : Value}
    {od2 an2 : Option Addr} {sl2 : Array (Option Value)} {oc2 kV2 dc2 pm2 cd2 ct2 : Value}
    {od3 an3 : Option Addr} {sl3 : Array (Option Value)} {oc3 kV3 dc3 pm3 cd3 ct3 : Value}
    {od4 an4 : Option Addr} {sl4 : Array (Option Value)} {oc4 kV4 dc4 pm4 cd4 ct4 : Value}
    {od5 an5 : Option Addr} {sl5 : Array (Option Value)} {oc5 kV5 dc5 pm5 cd5 ct5 : Value}
    {od6 an6 : Option Addr} {sl6 : Array (Option Value)} {oc6 kV6 dc6 pm6 cd6 ct6 : Value}
    {od7 an7 : Option Addr} {sl7 : Array (Option Value)} {oc7 kV7 dc7 pm7 cd7 ct7 : Value}
    {od8 an8 : Option Addr} {sl8 : Array (Option Value)} {oc8 kV8 dc8 pm8 cd8 ct8 : Value}
    {od9 an9 : Option Addr} {sl9 : Array (Option Value)} {oc9 kV9 dc9 pm9 cd9 ct9 : Value}
    {od10 an10 : Option Addr} {sl10 : Array (Option Value)} {oc10 kV10 dc10 pm10 cd10 ct10 : Value}
    {od11 an11 : Option Addr} {sl11 : Array (Option Value)} {oc11 kV11 dc11 pm11 cd11 ct11 : Value}
    {od12 an12 : Option Addr} {sl12 : Array (Option Value)} {oc12 kV12 dc12 pm12 cd12 ct12 : Value}
    {od13 an13 : Option Addr} {sl13 : Array (Option Value)} {oc13 kV13 dc13 pm13 cd13 ct13 : Value}
    {c_GlowError c_NoSpot c_NoSign : Addr}
    {ia_NoSign : Addr} {iod_NoSign ian_NoSign : Option Addr} {isl_NoSign : Array (Option Value)} {ioc_NoSign ikV_NoSign idc_NoSign ipm_NoSign icd_NoSign ict_NoSign : Value}
    (a1 : PySem.W.nsIn K mainGlobals "bounced" = some (some (.ref f1))) (l1 : K.lookup f1 = some ⟨oc1, od1, .func (PySem.W.fnOf "bounced" "bounced" (z0K z0c) (z0D z0c) (z04 z0c) .none kV1 dc1 pm1 an1 cd1 ct1), sl1⟩) (c1 : PySem.W.codeIn K cd1 "bounced" = true) (k1 : PySem.W.keepIn K (.ref f1) = true)
    (a2 : PySem.W.nsIn K mainGlobals "spot_of" = some (some (.ref f2))) (l2 : K.lookup f2 = some ⟨oc2, od2, .func (PySem.W.fnOf "spot_of" "spot_of" (z0K z0j) (z0D z0j) (z04 z0j) .none kV2 dc2 pm2 an2 cd2 ct2), sl2⟩) (c2 : PySem.W.codeIn K cd2 "spot_of" = true) (k2 : PySem.W.keepIn K (.ref f2) = true)
    (a3 : PySem.W.nsIn K mainGlobals "_law_draw" = some (some (.ref f3))) (l3 : K.lookup f3 = some ⟨oc3, od3, .func (PySem.W.fnOf "_law_draw" "_law_draw" (z0K z0d) (z0D z0d) (z04 z0d) .none kV3 dc3 pm3 an3 cd3 ct3), sl3⟩) (c3 : PySem.W.codeIn K cd3 "_law_draw" = true) (k3 : PySem.W.keepIn K (.ref f3) = true)
    (a4 : PySem.W.nsIn K mainGlobals "_law_great" = some (some (.ref f4))) (l4 : K.lookup f4 = some ⟨oc4, od4, .func (PySem.W.fnOf "_law_great" "_law_great" (z0K z0U) (z0D z0U) (z04 z0U) .none kV4 dc4 pm4 an4 cd4 ct4), sl4⟩) (c4 : PySem.W.codeIn K cd4 "_law_great" = true) (k4 : PySem.W.keepIn K (.ref f4) = true)
    (a5 : PySem.W.nsIn K mainGlobals "_law_whole" = some (some (.ref f5))) (l5 : K.lookup f5 = some ⟨oc5, od5, .func (PySem.W.fnOf "_law_whole" "_law_whole" (z0K z0V) (z0D z0V) (z04 z0V) .none kV5 dc5 pm5 an5 cd5 ct5), sl5⟩) (c5 : PySem.W.codeIn K cd5 "_law_whole" = true) (k5 : PySem.W.keepIn K (.ref f5) = true)
    (a6 : PySem.W.nsIn K mainGlobals "_law_bits" = some (some (.ref f6))) (l6 : K.lookup f6 = some ⟨oc6, od6, .func (PySem.W.fnOf "_law_bits" "_law_bits" (z0K z0e) (z0D z0e) (z04 z0e) .none kV6 dc6 pm6 an6 cd6 ct6), sl6⟩) (c6 : PySem.W.codeIn K cd6 "_law_bits" = true) (k6 : PySem.W.keepIn K (.ref f6) = true)
    (a7 : PySem.W.nsIn K mainGlobals "_law_due" = some (some (.ref f7))) (l7 : K.lookup f7 = some ⟨oc7, od7, .func (PySem.W.fnOf "_law_due" "_law_due" (z0K z0k) (z0D z0k) (z04 z0k) .none kV7 dc7 pm7 an7 cd7 ct7), sl7⟩) (c7 : PySem.W.codeIn K cd7 "_law_due" = true) (k7 : PySem.W.keepIn K (.ref f7) = true)
    (a8 : PySem.W.nsIn K mainGlobals "_law_speed" = some (some (.ref f8))) (l8 : K.lookup f8 = some ⟨oc8, od8, .func (PySem.W.fnOf "_law_speed" "_law_speed" (z0K z0W) (z0D z0W) (z04 z0W) .none kV8 dc8 pm8 an8 cd8 ct8), sl8⟩) (c8 : PySem.W.codeIn K cd8 "_law_speed" = true) (k8 : PySem.W.keepIn K (.ref f8) = true)
    (a9 : PySem.W.nsIn K mainGlobals "_law_sides" = some (some (.ref f9))) (l9 : K.lookup f9 = some ⟨oc9, od9, .func (PySem.W.fnOf "_law_sides" "_law_sides" (z0K z0X) (z0D z0X) (z04 z0X) .none kV9 dc9 pm9 an9 cd9 ct9), sl9⟩) (c9 : PySem.W.codeIn K cd9 "_law_sides" = true) (k9 : PySem.W.keepIn K (.ref f9) = true)
    (a10 : PySem.W.nsIn K mainGlobals "_law_refused" = some (some (.ref f10))) (l10 : K.lookup f10 = some ⟨oc10, od10, .func (PySem.W.fnOf "_law_refused" "_law_refused" (z0K z0P) (z0D z0P) (z04 z0P) .none kV10 dc10 pm10 an10 cd10 ct10), sl10⟩) (c10 : PySem.W.codeIn K cd10 "_law_refused" = true) (k10 : PySem.W.keepIn K (.ref f10) = true)
    (a11 : PySem.W.nsIn K mainGlobals "_law_right" = some (some (.ref f11))) (l11 : K.lookup f11 = some ⟨oc11, od11, .func (PySem.W.fnOf "_law_right" "_law_right" (z0K z0S) (z0D z0S) (z04 z0S) .none kV11 dc11 pm11 an11 cd11 ct11), sl11⟩) (c11 : PySem.W.codeIn K cd11 "_law_right" = true) (k11 : PySem.W.keepIn K (.ref f11) = true)
    (a12 : PySem.W.nsIn K mainGlobals "_law_off" = some (some (.ref f12))) (l12 : K.lookup f12 = some ⟨oc12, od12, .func (PySem.W.fnOf "_law_off" "_law_off" (z0K z0l) (z0D z0l) (z04 z0l) .none kV12 dc12 pm12 an12 cd12 ct12), sl12⟩) (c12 : PySem.W.codeIn K cd12 "_law_off" = true) (k12 : PySem.W.keepIn K (.ref f12) = true)
    (a13 : PySem.W.nsIn K mainGlobals "law" = some (some (.ref f13))) (l13 : K.lookup f13 = some ⟨oc13, od13, .func (PySem.W.fnOf "law" "law" (z0K z1J) (z0D z1J) (z04 z1J) .none kV13 dc13 pm13 an13 cd13 ct13), sl13⟩) (c13 : PySem.W.codeIn K cd13 "law" = true) (k13 : PySem.W.keepIn K (.ref f13) = true)
    (z1 : PySem.W.nsIn K mainGlobals "ValueError" = some none)
    (z2 : PySem.W.nsIn K mainGlobals "len" = some none)
    (z3 : PySem.W.nsIn K mainGlobals "range" = some none)
    (z4 : PySem.W.nsIn K mainGlobals "reversed" = some none)
    (z5 : PySem.W.nsIn K mainGlobals "isinstance" = some none)
    (z6 : PySem.W.nsIn K mainGlobals "int" = some none)
    (z7 : PySem.W.nsIn K mainGlobals "bool" = some none)
    (z8 : PySem.W.nsIn K mainGlobals "tuple" = some none)
    (z9 : PySem.W.nsIn K mainGlobals "all" = some none)
    (z10 : PySem.W.nsIn K mainGlobals "min" = some none)
    (cm_GlowError : PySem.W.nsIn K mainGlobals "GlowError" = some (some (.ref c_GlowError)))
    (cm_NoSpot : PySem.W.nsIn K mainGlobals "NoSpot" = some (some (.ref c_NoSpot)))
    (cm_NoSign : PySem.W.nsIn K mainGlobals "NoSign" = some (some (.ref c_NoSign)))
    (gs : PySem.W.specialIn K (.ref c_GlowError) "__getattribute__" = some (some (.builtin "type.__getattribute__"))) (gr : PySem.W.readsIn K c_GlowError (.type "type") = true) (gf : PySem.W.findCls K (.ref c_GlowError) (.type "type") "__init__" = some (.val (.builtin "ValueError.__init__")))
    (fi_NoSpot : PySem.W.findIn K (.ref c_NoSpot) "__init__" = some (some (.builtin "ValueError.__init__")))
    (fi_NoSign : PySem.W.findIn K (.ref c_NoSign) "__init__" = some (some (.ref ia_NoSign))) (il_NoSign : K.lookup ia_NoSign = some ⟨ioc_NoSign, iod_NoSign, .func (PySem.W.fnOf "__init__" "NoSign.__init__" (z0K z0t) (z0D z0t) (z04 z0t) .none ikV_NoSign idc_NoSign ipm_NoSign ian_NoSign icd_NoSign ict_NoSign), isl_NoSign⟩) (ic_NoSign : PySem.W.codeIn K icd_NoSign "NoSign.__init__" = true) (ik_NoSign : PySem.W.keepIn K (.ref ia_NoSign) = true) (it_NoSign : PySem.W.typeIn K (.ref ia_NoSign) = some (.type "function"))
    (ff_NoSign_sign : PySem.W.findIn K (.ref c_NoSign) "sign" = some none)
    (ff_NoSign_at : PySem.W.findIn K (.ref c_NoSign) "at" = some none)
    (xall : ([c_GlowError, c_NoSpot, c_NoSign] : List Addr).all (xeB K) = true) (kall : z4E K [c_NoSpot, c_NoSign] c_GlowError = true) (k_tup : PySem.W.kitOne K (.type "tuple") (.ref c_GlowError) = some false) (aball : (([c_NoSpot, c_NoSign] : List Addr).all fun c => PySem.W.mroIn K c (.ref c_GlowError) == some true) = true)
    : ∃ fd : FuncData, (∀ (s : Shared) (v : Value), BindsTo s fd ⟨[v], []⟩ [("_law_script", v)]) /\ ∀ base : Heap, K.In base -> base.Ns mainGlobals mg -> FnOk l.prog w K mg base CX0 4 fa fd ["_law_script"] (z3l K) := by
  have e := hfa.symm.trans (PySem.W.mg_of X G a13)
  cases e
  have B : Blt mg := ⟨PySem.W.mg_none_of X G z1, PySem.W.mg_none_of X G z2, PySem.W.mg_none_of X G z3, PySem.W.mg_none_of X G z4, PySem.W.mg_none_of X G z5, PySem.W.mg_none_of X G z6, PySem.W.mg_none_of X G z7, PySem.W.mg_none_of X G z8, PySem.W.mg_none_of X G z9, PySem.W.mg_none_of X G z10⟩
  have xa := List.all_eq_true.mp xall
  have xk_NoSpot := z3N (xa c_NoSpot (by simp))
  have xk_NoSign := z3N (xa c_NoSign (by simp))
  have Z : Cl K mg c_GlowError c_NoSpot c_NoSign := ⟨PySem.W.mg_of X G cm_GlowError, ⟨gs, gr, gf⟩, (z3N (xa c_GlowError (by simp))).1, k_tup, (fun c hc => by simpa using List.all_eq_true.mp aball c hc), PySem.W.mg_of X G cm_NoSpot, xk_NoSpot.1, PySem.W.mg_of X G cm_NoSign, xk_NoSign.1, ff_NoSign_sign, ff_NoSign_at, z3O kall⟩
  have FI_NoSign := z0f (st := z0t) il_NoSign ic_NoSign ik_NoSign
  have F1 := z0f (st := z0c) l1 c1 k1
  have D1 : Df K mg "bounced" z0c ["start", "speed", "room", "beat"] _ _ := ⟨F1, F1.binds (ps := ["start", "speed", "room", "beat"]) fun _ _ _ _ _ _ us hl => match us, hl with | [_, _, _, _], _ => rfl, PySem.W.mg_of X G a1⟩
  have F2 := z0f (st := z0j) l2 c2 k2
  have D2 : Df K mg "spot_of" z0j ["goer", "wide", "high", "beat"] _ _ := ⟨F2, F2.binds (ps := ["goer", "wide", "high", "beat"]) fun _ _ _ _ _ _ us hl => match us, hl with | [_, _, _, _], _ => rfl, PySem.W.mg_of X G a2⟩
  have F3 := z0f (st := z0d) l3 c3 k3
  have D3 : Df K mg "_law_draw" z0d ["_law_script", "_law_k", "_law_prime", "_law_many"] _ _ := ⟨F3, F3.binds (ps := ["_law_script", "_law_k", "_law_prime", "_law_many"]) fun _ _ _ _ _ _ us hl => match us, hl with | [_, _, _, _], _ => rfl, PySem.W.mg_of X G a3⟩
  have F4 := z0f (st := z0U) l4 c4 k4
  have D4 : Df K mg "_law_great" z0U ["_law_script", "_law_k", "_law_many"] _ _ := ⟨F4, F4.binds (ps := ["_law_script", "_law_k", "_law_many"]) fun _ _ _ _ _ _ us hl => match us, hl with | [_, _, _], _ => rfl, PySem.W.mg_of X G a4⟩
  have F5 := z0f (st := z0V) l5 c5 k5
  have D5 : Df K mg "_law_whole" z0V ["_law_found"] _ _ := ⟨F5, F5.binds (ps := ["_law_found"]) fun _ _ _ _ _ _ us hl => match us, hl with | [_], _ => rfl, PySem.W.mg_of X G a5⟩
  have F6 := z0f (st := z0e) l6 c6 k6
  have D6 : Df K mg "_law_bits" z0e ["_law_rows"] _ _ := ⟨F6, F6.binds (ps := ["_law_rows"]) fun _ _ _ _ _ _ us hl => match us, hl with | [_], _ => rfl, PySem.W.mg_of X G a6⟩
  have F7 := z0f (st := z0k) l7 c7 k7
  have D7 : Df K mg "_law_due" z0k ["_law_start", "_law_speed_here", "_law_room", "_law_beat"] _ _ := ⟨F7, F7.binds (ps := ["_law_start", "_law_speed_here", "_law_room", "_law_beat"]) fun _ _ _ _ _ _ us hl => match us, hl with | [_, _, _, _], _ => rfl, PySem.W.mg_of X G a7⟩
  have F8 := z0f (st := z0W) l8 c8 k8
  have D8 : Df K mg "_law_speed" z0W ["_law_script", "_law_k"] _ _ := ⟨F8, F8.binds (ps := ["_law_script", "_law_k"]) fun _ _ _ _ _ _ us hl => match us, hl with | [_, _], _ => rfl, PySem.W.mg_of X G a8⟩
  have F9 := z0f (st := z0X) l9 c9 k9
  have D9 : Df K mg "_law_sides" z0X ["_law_script"] _ _ := ⟨F9, F9.binds (ps := ["_law_script"]) fun _ _ _ _ _ _ us hl => match us, hl with | [_], _ => rfl, PySem.W.mg_of X G a9⟩
  have F10 := z0f (st := z0P) l10 c10 k10
  have D10 : Df K mg "_law_refused" z0P ["_law_goer", "_law_wide", "_law_high", "_law_beat"] _ _ := ⟨F10, F10.binds (ps := ["_law_goer", "_law_wide", "_law_high", "_law_beat"]) fun _ _ _ _ _ _ us hl => match us, hl with | [_, _, _, _], _ => rfl, PySem.W.mg_of X G a10⟩
  have F11 := z0f (st := z0S) l11 c11 k11
  have D11 : Df K mg "_law_right" z0S ["_law_goer", "_law_rooms", "_law_sides_here", "_law_beat"] _ _ := ⟨F11, F11.binds (ps := ["_law_goer", "_law_rooms", "_law_sides_here", "_law_beat"]) fun _ _ _ _ _ _ us hl => match us, hl with | [_, _, _, _], _ => rfl, PySem.W.mg_of X G a11⟩
  have F12 := z0f (st := z0l) l12 c12 k12
  have D12 : Df K mg "_law_off" z0l ["_law_script", "_law_goer", "_law_rooms", "_law_sides_here"] _ _ := ⟨F12, F12.binds (ps := ["_law_script", "_law_goer", "_law_rooms", "_law_sides_here"]) fun _ _ _ _ _ _ us hl => match us, hl with | [_, _, _, _], _ => rfl, PySem.W.mg_of X G a12⟩
  have F13 := z0f (st := z1J) l13 c13 k13
  have D13 : Df K mg "law" z1J ["_law_script"] _ _ := ⟨F13, F13.binds (ps := ["_law_script"]) fun _ _ _ _ _ _ us hl => match us, hl with | [_], _ => rfl, PySem.W.mg_of X G a13⟩
  refine ⟨PySem.W.fnOf "law" "law" (z0K z1J) (z0D z1J) (z04 z1J) .none kV13 dc13 pm13 an13 cd13 ct13, fun s v => .of_eq rfl, fun base _ _ => ?_⟩
  have E_NoSpot : Oo K mg "NoSpot" c_NoSpot := ⟨PySem.W.mg_of X G cm_NoSpot, ⟨xk_NoSpot.1, xk_NoSpot.2, fi_NoSpot⟩⟩
  have E_NoSign : Oe l.prog w K mg base "NoSign" c_NoSign ["self", "sign", "at"] 1 (z7M c_NoSign "sign" "at") := ⟨ia_NoSign, _, PySem.W.mg_of X G cm_NoSign, ⟨xk_NoSign.1, xk_NoSign.2, fi_NoSign, it_NoSign⟩, FI_NoSign.binds (ps := ["self", "sign", "at"]) fun _ _ _ _ _ _ us hl => match us, hl with | [_, _, _], _ => rfl, z3W Z FI_NoSign⟩
  have O_bounced := z2Y (P := l.prog) (w := w) (base := base) D1  B
  have O_spotof := z3Y (P := l.prog) (w := w) (base := base) D2 Z O_bounced E_NoSpot B
  have O_lawdraw := z2W (P := l.prog) (w := w) (base := base) D3  B
  have O_lawgreat := z1t (P := l.prog) (w := w) (base := base) D4  B
  have O_lawwhole := z1v (P := l.prog) (w := w) (base := base) D5  B
  have O_lawbits := z2X (P := l.prog) (w := w) (base := base) D6  B
  have O_lawdue := z3X (P := l.prog) (w := w) (base := base) D7  B
  have O_lawspeed := z1x (P := l.prog) (w := w) (base := base) D8 O_lawdraw O_lawgreat B
  have O_lawsides := z1y (P := l.prog) (w := w) (base := base) D9 O_lawdraw B
  have O_lawrefused := z1V (P := l.prog) (w := w) (base := base) D10 Z O_spotof B
  have O_lawright := z1z (P := l.prog) (w := w) (base := base) D11 O_spotof O_lawwhole O_lawdue B
  have O_lawoff := z3Z (P := l.prog) (w := w) (base := base) D12 O_lawdraw O_lawgreat B
  exact z5d D13 O_lawdraw O_lawgreat O_lawbits O_lawspeed O_lawsides O_lawrefused O_lawright O_lawoff B
theorem walk {l : PySem.W.OpenLaw} {q : Program} {loose : List Str} {XP : (Str -> Option Value) -> Heap -> Prop} {YP : World -> Heap -> Prop} {d : DefRec} {K : Params -> PySem.W.Frag} (hn : l.most = some 63) (hdf : d.params.defaults = [])
    (hY : ∀ (w : World) (h : Heap), YP w h -> (K w.params).In h)
    (F : ∀ (w : World) (mg : Str -> Option Value) (fa : Addr) (h : Heap), (K w.params).In h -> h.Ns mainGlobals mg -> mg d.name = some (.ref fa) ->
      ∃ fd : FuncData, (∀ (s : Shared) (u : Value), BindsTo s fd ⟨[u], []⟩ [("_law_script", u)]) /\ ∀ base : Heap, (K w.params).In base -> base.Ns mainGlobals mg -> FnOk l.prog w (K w.params) mg base CX0 4 fa fd ["_law_script"] (z3l (K w.params))) :
    PySem.W.WalkO q loose XP YP l.row.toRowW d [] (fun f vs => PySem.call f vs) :=
  L2.walk_of (n := 63) (k := 4) (x := "_law_script") (CX := fun _ => CX0) (sp := fun w => z3l (K w.params)) hn (by decide) hdf ⟨rfl, by decide, by decide⟩ hY F (fun _ _ a ns hl _ hS => ⟨a, ns, rfl, hS, hl, fun _ => rfl⟩) fun _ _ _ _ _ z => z
end K41
namespace PySem.W.Fast
theorem tw3601856732828629501 : True := trivial
theorem tw15708840884288420834 : True := trivial
theorem tw17904537964731752264 : True := trivial
theorem tw5088097237614414827 : True := trivial
theorem tw14038343543299697036 : True := trivial
theorem tw7284649066461930125 : True := trivial
theorem tw8413995887412010190 : True := trivial
theorem tw11488144418397281972 : True := trivial
theorem tw6205323492422497303 : True := trivial
end PySem.W.Fast
open PySem PySem.W PyProof.Rows
set_option maxRecDepth 100000 in
set_option maxHeartbeats 0 in
theorem PySem.Challenge.cw_glowboard_k41_where_goers_are_holds : PySem.Challenge.rw_glowboard_k41_where_goers_are.Holds := by
  w_on; o_law; k_head; (case hw => w_witness2)
  k_fill
  refine K41.walk (l := PySem.Challenge.rw_glowboard_k41_where_goers_are) rfl rfl (fun w h Y => PySem.W.kIn_of Y) ?F
  case F =>
    intro w mg fa h KX G hmg
    refine' K41.all_mk KX G hmg ?a1 ?l1 ?c1 ?k1 ?a2 ?l2 ?c2 ?k2 ?a3 ?l3 ?c3 ?k3 ?a4 ?l4 ?c4 ?k4 ?a5 ?l5 ?c5 ?k5 ?a6 ?l6 ?c6 ?k6 ?a7 ?l7 ?c7 ?k7 ?a8 ?l8 ?c8 ?k8 ?a9 ?l9 ?c9 ?k9 ?a10 ?l10 ?c10 ?k10 ?a11 ?l11 ?c11 ?k11 ?a12 ?l12 ?c12 ?k12 ?a13 ?l13 ?c13 ?k13 ?z1 ?z2 ?z3 ?z4 ?z5 ?z6 ?z7 ?z8 ?z9 ?z10 ?cm_GlowError ?cm_NoSpot ?cm_NoSign ?gs ?gr ?gf ?fi_NoSpot ?fi_NoSign ?il_NoSign ?ic_NoSign ?ik_NoSign ?it_NoSign ?ff_NoSign_sign ?ff_NoSign_at ?xall ?kall ?k_tup ?aball
    (case a1 => k_is); (case l1 => k_is); (case c1 => k_is); (case k1 => k_is)
    (case a2 => k_is); (case l2 => k_is); (case c2 => k_is); (case k2 => k_is)
    (case a3 => k_is); (case l3 => k_is); (case c3 => k_is); (case k3 => k_is)
    (case a4 => k_is); (case l4 => k_is); (case c4 => k_is); (case k4 => k_is)
    (case a5 => k_is); (case l5 => k_is); (case c5 => k_is); (case k5 => k_is)
    (case a6 => k_is); (case l6 => k_is); (case c6 => k_is); (case k6 => k_is)
    (case a7 => k_is); (case l7 => k_is); (case c7 => k_is); (case k7 => k_is)
    (case a8 => k_is); (case l8 => k_is); (case c8 => k_is); (case k8 => k_is)
    (case a9 => k_is); (case l9 => k_is); (case c9 => k_is); (case k9 => k_is)
    (case a10 => k_is); (case l10 => k_is); (case c10 => k_is); (case k10 => k_is)
    (case a11 => k_is); (case l11 => k_is); (case c11 => k_is); (case k11 => k_is)
    (case a12 => k_is); (case l12 => k_is); (case c12 => k_is); (case k12 => k_is)
    (case a13 => k_is); (case l13 => k_is); (case c13 => k_is); (case k13 => k_is)
    (case z1 => k_is); (case z2 => k_is); (case z3 => k_is); (case z4 => k_is)
    (case z5 => k_is); (case z6 => k_is); (case z7 => k_is); (case z8 => k_is)
    (case z9 => k_is); (case z10 => k_is); (case cm_GlowError => k_is); (case cm_NoSpot => k_is)
    (case cm_NoSign => k_is); (case gs => k_is); (case gr => k_is); (case gf => k_is)
    (case fi_NoSpot => k_is); (case fi_NoSign => k_is); (case il_NoSign => k_is); (case ic_NoSign => k_is)
    (case ik_NoSign => k_is); (case it_NoSign => k_is); (case ff_NoSign_sign => k_is); (case ff_NoSign_at => k_is)
    (case xall => kernel_rfl); (case kall => kernel_rfl); (case k_tup => kit_is); (case aball => kernel_rfl)
#print axioms PySem.Challenge.cw_glowboard_k41_where_goers_are_holds