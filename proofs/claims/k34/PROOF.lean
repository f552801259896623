import PyProof.Rows.All
import Wide.All
import OpenK.AllK
import Wide.FinOn
import Lean
import PyProof.EqAt
import PyProof.EqKinds
import PyProof.TupleCall
import PySem.Challenge.RW_glowboard_k34_views_of_a_page
set_option Elab.async false
set_option linter.all false
set_option maxRecDepth 100000
namespace L2
open PySem PySem.Spec PyProof.Rows
abbrev Key := Sum Int Str
def z6x : Key -> Value -> Bool
  | .inl k, v => Value.isInt k v
  | .inr x, v => Value.isStrOf x v
def zDl (w : World) : Key -> Int
  | .inl k => hashInt k
  | .inr x => hashStr w x
theorem z0a : ∀ {k : Key} {v : Value}, z6x k v = true -> (∃ i t, k = Sum.inl i /\ v = Value.int i t) \/ (∃ x t, k = Sum.inr x /\ v = Value.str x t)
  | .inl i, v, h => by
    obtain ⟨t, e⟩ := Value.isInt_shape (k := i) (v := v) h
    exact .inl ⟨i, t, rfl, e⟩
  | .inr x, v, h => by
    obtain ⟨t, e⟩ := Value.isStrOf_shape (x := x) (v := v) h
    exact .inr ⟨x, t, rfl, e⟩
theorem z7l (i : Int) (t : Tok) : z6x (.inl i) (.int i t) = true := by simp [z6x, Value.isInt]
theorem z7m (x : Str) (t : Tok) : z6x (.inr x) (.str x t) = true := by simp [z6x, Value.isStrOf]
theorem zC4 (a b : Int) : decide ((Sum.inl a : Key) = Sum.inl b) = (a == b) := by
  by_cases e : a = b
  . subst e; simp
  . have h : ¬ (Sum.inl a : Key) = Sum.inl b := fun q => e (Sum.inl.inj q)
    rw [decide_eq_false h]
    exact (beq_eq_false_iff_ne.mpr e).symm
theorem zC5 (a b : Str) : decide ((Sum.inr a : Key) = Sum.inr b) = decide (a = b) := by
  by_cases e : a = b
  . subst e; simp
  . have h : ¬ (Sum.inr a : Key) = Sum.inr b := fun q => e (Sum.inr.inj q)
    rw [decide_eq_false h, decide_eq_false e]
theorem zC6 (a : Int) (b : Str) : decide ((Sum.inl a : Key) = Sum.inr b) = false := decide_eq_false (fun q => nomatch q)
theorem zC7 (a : Str) (b : Int) : decide ((Sum.inr a : Key) = Sum.inl b) = false := decide_eq_false (fun q => nomatch q)
def z0c (prog : Program) (w : World) : PySem.KeyKind prog w Key where
  is := z6x
  hash := zDl w
  inj := fun v a b ha hb => by
    rcases z0a ha with ⟨i, t, rfl, rfl⟩ | ⟨x, t, rfl, rfl⟩
    . rcases z0a hb with ⟨j, u, rfl, e⟩ | ⟨y, u, rfl, e⟩
      . injection e with e1 _; rw [e1]
      . exact nomatch e
    . rcases z0a hb with ⟨j, u, rfl, e⟩ | ⟨y, u, rfl, e⟩
      . exact nomatch e
      . injection e with e1 _; rw [e1]
  byValue := fun k v h => by
    rcases z0a h with ⟨i, t, rfl, rfl⟩ | ⟨x, t, rfl, rfl⟩ <;> rfl
  pyHash := fun hv h => by
    rcases z0a hv with ⟨i, t, rfl, rfl⟩ | ⟨x, t, rfl, rfl⟩
    . exact wpAny_pyHash_int h
    . exact wpAny_pyHash_str h
  eqBool := fun hu hv h => by
    rcases z0a hu with ⟨i, t, rfl, rfl⟩ | ⟨x, t, rfl, rfl⟩
    . rcases z0a hv with ⟨j, u, rfl, rfl⟩ | ⟨y, u, rfl, rfl⟩
      . rw [zC4] at h; exact wpAny_eqBool_int h
      . rw [zC6] at h; exact SeqAt.EqAt.int_str i t y u _ _ _ _ h
    . rcases z0a hv with ⟨j, u, rfl, rfl⟩ | ⟨y, u, rfl, rfl⟩
      . rw [zC7] at h; exact SeqAt.EqAt.str_int x t j u _ _ _ _ h
      . rw [zC5] at h; exact wpAny_eqBool_str h
  «strs» := fun k x t v h => by
    rcases z0a h with ⟨i, u, rfl, e⟩ | ⟨y, u, rfl, e⟩
    . exact nomatch e
    . injection e with e1 _
      subst e1
      cases v <;> rfl
theorem z5W (prog : Program) (w : World) (i : Int) (t : Tok) : (z0c prog w).is (.inl i) (.int i t) = true := z7l i t
theorem z5X (prog : Program) (w : World) (x : Str) (t : Tok) : (z0c prog w).is (.inr x) (.str x t) = true := z7m x t
inductive V where
  | non | bl (b : Bool) | int (i : Int) | str (x : Str) | byt (b : Array UInt8) | flt (b : UInt64) | ref (a : Addr) | ty (n : String)
  deriving DecidableEq
def RelV : V -> Value -> Prop
  | .non, u => u = Value.none
  | .bl b, u => u = Value.bool b
  | .int i, u => ∃ t, u = Value.int i t
  | .str x, u => ∃ t, u = Value.str x t
  | .byt b, u => ∃ t, u = Value.bytes b t
  | .flt b, u => ∃ t, u = Value.float b t
  | .ref a, u => u = Value.ref a
  | .ty n, u => u = Value.type n
abbrev Vals : List V -> List Value -> Prop := Paired RelV
theorem Vals.length {xs : List V} {us : List Value} (r : Vals xs us) : xs.length = us.length := Paired.length r
theorem Vals.get : ∀ {xs : List V} {us : List Value} {i : Nat} {x : V}, Vals xs us -> xs[i]? = some x -> ∃ u, us[i]? = some u /\ RelV x u
  | _, _, _, _, .nil, e => by simp at e
  | _, _, 0, _, .cons r _, e => by simp at e; subst e; exact ⟨_, rfl, r⟩
  | _, _, i + 1, x, .cons _ t, e => by
    obtain ⟨u, h1, h2⟩ := Vals.get (i := i) (x := x) t (by simpa using e)
    exact ⟨u, by simpa using h1, h2⟩
theorem Vals.set {x : V} {u : Value} (r : RelV x u) : ∀ {xs : List V} {us : List Value} (i : Nat), Vals xs us -> Vals (xs.set i x) (us.set i u)
  | _, _, _, .nil => .nil
  | _, _, 0, .cons _ t => .cons r t
  | _, _, i + 1, .cons q t => .cons q (Vals.set r i t)
theorem Vals.append : ∀ {xs ys : List V} {us ws : List Value}, Vals xs us -> Vals ys ws -> Vals (xs ++ ys) (us ++ ws)
  | _, _, _, _, .nil, s => s
  | _, _, _, _, .cons r t, s => .cons r (Vals.append t s)
def RelO : Option V -> Option Value -> Prop
  | some v, some u => RelV v u
  | none, none => True
  | _, _ => False
def KV {κ : Type} : List (κ × V) -> List (κ × Value) -> Prop := Paired fun (p : κ × V) (q : κ × Value) => p.1 = q.1 /\ RelV p.2 q.2
def kV : Key -> V
  | .inl i => .int i
  | .inr x => .str x
inductive HO where
  | lst (xs : List V)
  | tup (xs : List V)
  | dK (kvs : List (Key × V)) | dT (kvs : List (List Key × V))
  | set (S : Int -> Bool) (n : Nat)
  | ins (C dx : Addr) (fs : List (Str × V))
  | own (x : Addr)
  | xd (fs : List (Str × V))
  | met (f x : Addr)
  | rng (lo hi : Int)
  | frz (o : Obj) (u : HO)
  | tbl (ps : Array Value)
  | ext (φ : Heap -> Prop)
abbrev Hp := Addr -> Option HO
def upd (H : Hp) (a : Addr) (o : HO) : Hp := fun b => if b = a then some o else H b
theorem upd_same {H : Hp} {a : Addr} {o : HO} : upd H a o a = some o := by unfold upd; rw [if_pos rfl]
theorem z07 {H : Hp} {a b : Addr} {o : HO} (h : b ≠ a) : upd H a o b = H b := by unfold upd; rw [if_neg h]
theorem z5Y {H : Hp} {a : Addr} {o u : HO} : upd (upd H a o) a u = upd H a u := by
  funext b; unfold upd; split <;> rfl
theorem z2P {H : Hp} {a b : Addr} {o u : HO} (h : H a = some o) (h' : H b = some u) (d : o ≠ u) : a ≠ b := by
  intro e; subst e; rw [h] at h'; exact d (Option.some.inj h')
theorem z08 {H : Hp} {a b : Addr} {o : HO} (h : H a = some o) (h' : H b = none) : a ≠ b := by
  intro e; subst e; rw [h] at h'; cases h'
section
variable (P : Program) (w : World)
def ObjOk (H : Hp) (h : Heap) (a : Addr) : HO -> Prop
  | .lst xs => xs.length <= sizeLine /\ ∃ (its : List Value) (n : Nat), Vals xs its /\ h.get? a = some { cls := .type "list", data := .seq its.toArray n }
  | .tup xs => xs.length <= sizeLine /\ ∃ its : List Value, Vals xs its /\ IsTup h a its.toArray
  | .dK kvs => kvs.length <= sizeLine /\ (a == sysModules) = false /\ ∃ vs, KV kvs vs /\ h.DictOf (z0c P w) a vs
  | .dT kvs => kvs.length <= sizeLine /\ (a == sysModules) = false /\ ∃ xs : List (List Key × Addr × Value),
      Paired (fun (p : List Key × V) (q : List Key × Addr × Value) => p.1 = q.1 /\ H q.2.1 = some (.tup (p.1.map kV)) /\ RelV p.2 q.2.2) kvs xs /\
      ∃ o es ep, h.get? a = some o /\ o.ExactDict /\ o.data = .dict es ep /\ es.toList = xs.map (entryOfKey (tupleKind (z0c P w))) /\ (xs.map (·.1)).Nodup
  | .set S n => h.SetOf (intKind P w) a S n
  | .ins C dx fs => H dx = some (.own a) /\ fs.length <= 1000 /\ dx ≠ a /\ h.get? a = some (PySem.W.instObj C dx) /\
      ∃ mA, h.Ns1 dx mA /\ (∀ f, RelO (fs.lookup f) (mA f)) /\ PySem.Within mA (fs.map (·.1))
  | .own _ => ∃ o, h.get? a = some o
  | .xd fs => ∃ mA, h.Ns1 a mA /\ ∀ f, RelO (fs.lookup f) (mA f)
  | .rng lo hi => ∃ t u v, h.get? a = some { cls := .type "range", data := .fields #[.int lo t, .int hi u, .int 1 v] }
  | .frz o u => h.get? a = some o /\ ObjOk H h a u
  | .tbl ps => h.get? a = some { cls := .none, data := .fields ps }
  | .met f x => h.get? a = some (PySem.W.methodObj (.ref f) (.ref x))
  | .ext φ => φ h /\ (∃ o, h.get? a = some o) /\ ∀ h1 h2 : Heap, φ h1 -> (∀ o, h1.get? a = some o -> h2.get? a = some o) -> φ h2
def HOk (H : Hp) (h : Heap) : Prop := ∀ a o, H a = some o -> ObjOk P w H h a o
end
section
variable {P : Program} {w : World} {H H' : Hp} {h h' : Heap} {a : Addr} {o : HO}
theorem ObjOk.lt (x : ObjOk P w H h a o) : a < h.objs.size := by
  cases o with
  | lst xs => obtain ⟨_, _, _, _, e⟩ := x; exact Heap.lt_size e
  | tup xs => obtain ⟨_, _, _, p⟩ := x; exact p.lt
  | dK kvs => obtain ⟨_, _, _, _, o, _, _, e, _⟩ := x; exact Heap.lt_size e
  | dT kvs => obtain ⟨_, _, _, _, o, _, _, e, _⟩ := x; exact Heap.lt_size e
  | set S n => obtain ⟨o, _, _, _, e, _⟩ := x; exact Heap.lt_size e
  | ins C dx fs => obtain ⟨_, _, _, e, _⟩ := x; exact Heap.lt_size e
  | own y => obtain ⟨_, e⟩ := x; exact Heap.lt_size e
  | xd fs => obtain ⟨_, ⟨_, _, _, e, _⟩, _⟩ := x; exact Heap.lt_size e
  | rng lo hi => obtain ⟨_, _, _, e⟩ := x; exact Heap.lt_size e
  | frz ob u => obtain ⟨e, _⟩ := x; exact Heap.lt_size e
  | tbl ps => exact Heap.lt_size (show h.get? a = some _ from x)
  | met f y => exact Heap.lt_size (show h.get? a = some _ from x)
  | ext φ => obtain ⟨_, ⟨_, e⟩, _⟩ := x; exact Heap.lt_size e
theorem Paired.mapP {α β : Type} {F G : α -> β -> Prop} : ∀ {l₁ : List α} {l₂ : List β}, Paired F l₁ l₂ -> (∀ a b, F a b -> G a b) -> Paired G l₁ l₂
  | _, _, .nil, _ => .nil
  | _, _, .cons r t, f => .cons (f _ _ r) (Paired.mapP t f)
theorem ObjOk.stay (x : ObjOk P w H h a o) (k : ∀ b u, (b = a \/ H b = some (.own a)) -> h.get? b = some u -> h'.get? b = some u)
    (ho : ∀ b, H b = some (.own a) -> H' b = some (.own a)) (ht : ∀ b xs, H b = some (.tup xs) -> H' b = some (.tup xs)) : ObjOk P w H' h' a o := by
  induction o with
  | lst xs => obtain ⟨z, its, n, r, e⟩ := x; exact ⟨z, its, n, r, k _ _ (.inl rfl) e⟩
  | tup xs => obtain ⟨z, its, r, ob, e, c⟩ := x; exact ⟨z, its, r, ob, k _ _ (.inl rfl) e, c⟩
  | dK kvs => obtain ⟨z, y, vs, r, ob, es, ep, e, c⟩ := x; exact ⟨z, y, vs, r, ob, es, ep, k _ _ (.inl rfl) e, c⟩
  | dT kvs =>
    obtain ⟨z, y, xs, r, ob, es, ep, e, c⟩ := x
    exact ⟨z, y, xs, Paired.mapP r fun p q z => ⟨z.1, ht _ _ z.2.1, z.2.2⟩, ob, es, ep, k _ _ (.inl rfl) e, c⟩
  | set S n => obtain ⟨ob, es, ep, t, e, c⟩ := x; exact ⟨ob, es, ep, t, k _ _ (.inl rfl) e, c⟩
  | ins C dx fs =>
    obtain ⟨d, z, ne, e, mA, ⟨od, es, ep, e2, c⟩, r⟩ := x
    exact ⟨ho _ d, z, ne, k _ _ (.inl rfl) e, mA, ⟨od, es, ep, k _ _ (.inr d) e2, c⟩, r⟩
  | own y => obtain ⟨ob, e⟩ := x; exact ⟨ob, k _ _ (.inl rfl) e⟩
  | xd fs => obtain ⟨mA, ⟨od, es, ep, e, c⟩, r⟩ := x; exact ⟨mA, ⟨od, es, ep, k _ _ (.inl rfl) e, c⟩, r⟩
  | rng lo hi => obtain ⟨t, u, v, e⟩ := x; exact ⟨t, u, v, k _ _ (.inl rfl) e⟩
  | frz ob u ih => obtain ⟨e, q⟩ := x; exact ⟨k _ _ (.inl rfl) e, ih q⟩
  | tbl ps =>
    have e : h.get? a = some { cls := .none, data := .fields ps } := x
    show h'.get? a = some { cls := .none, data := .fields ps }
    exact k a _ (.inl rfl) e
  | met f y =>
    have e : h.get? a = some (PySem.W.methodObj (.ref f) (.ref y)) := x
    show h'.get? a = some (PySem.W.methodObj (.ref f) (.ref y))
    exact k a _ (.inl rfl) e
  | ext φ => obtain ⟨p, ⟨o, e⟩, st⟩ := x; exact ⟨st _ _ p fun o q => k _ _ (.inl rfl) q, ⟨o, k _ _ (.inl rfl) e⟩, st⟩
theorem HOk.lt (x : HOk P w H h) (e : H a = some o) : a < h.objs.size := (x a o e).lt
theorem HOk.fresh (x : HOk P w H h) (e : h.objs.size <= a) : H a = none := by
  cases q : H a with
  | none => rfl
  | some u => exact absurd (Nat.lt_of_lt_of_le (x.lt q) e) (Nat.lt_irrefl _)
theorem HOk.kept (x : HOk P w H h) (k : ∀ b u, h.get? b = some u -> h'.get? b = some u) : HOk P w H h' := fun a o e =>
  (x a o e).stay (fun b u _ q => k b u q) (fun _ q => q) fun _ _ q => q
theorem HOk.laid (x : HOk P w H h) (k : ∀ b u, h.get? b = some u -> h'.get? b = some u) (hp : h.objs.size <= a) (new : ObjOk P w (upd H a o) h' a o) : HOk P w (upd H a o) h' := fun b u e => by
  have hn := x.fresh hp
  by_cases hb : b = a
  . subst hb; rw [upd_same] at e; cases e; exact new
  . rw [z07 hb] at e
    exact (x b u e).stay (fun c v _ q => k c v q) (fun c q => by rw [z07 (z08 q hn)]; exact q) fun c xs q => by rw [z07 (z08 q hn)]; exact q
end
def Rd (H : Hp) (a : Addr) (u : HO) : Prop := H a = some u \/ ∃ o, H a = some (.frz o u)
theorem Rd.ok {P : Program} {w : World} {H : Hp} {h : Heap} {a : Addr} {u : HO} (r : Rd H a u) (x : HOk P w H h) : ObjOk P w H h a u := by
  rcases r with r | ⟨o, r⟩
  . exact x a u r
  . obtain ⟨_, q⟩ := x a _ r
    exact q
def Mut : Option HO -> Prop
  | some (.lst _) => True
  | some (.dK _) => True
  | some (.dT _) => True
  | some (.set _ _) => True
  | some (.ins _ _ _) => True
  | some (.ext _) => True
  | _ => False
section
variable {P : Program} {w : World} {H : Hp} {h h' : Heap} {x e : Addr} {o' : HO}
theorem HOk.write (ok : HOk P w H h) (mu : Mut (H x)) (he : e = x \/ H e = some (.own x)) (k : ∀ b u, b ≠ e -> h.get? b = some u -> h'.get? b = some u) (heo : ∃ u, h'.get? e = some u)
    (new : ObjOk P w (upd H x o') h' x o') : HOk P w (upd H x o') h' := fun b u q => by
  have nown : ∀ c y, H c = some (.own y) -> c ≠ x := fun c y r z => by subst z; rw [r] at mu; exact mu
  have ntup : ∀ c xs, H c = some (.tup xs) -> c ≠ x := fun c xs r z => by subst z; rw [r] at mu; exact mu
  by_cases hb : b = x
  . subst hb; rw [upd_same] at q; cases q; exact new
  . rw [z07 hb] at q
    by_cases hbe : b = e
    . have q' : H b = some (.own x) := by
        rcases he with z | z
        . exact absurd (hbe.trans z) hb
        . rw [hbe]; exact z
      rw [q] at q'; cases q'
      obtain ⟨v, hv⟩ := heo
      exact ⟨v, by rw [hbe]; exact hv⟩
    . refine (ok b u q).stay (fun c v hc r => k c v ?_ r) (fun c r => by rw [z07 (nown c b r)]; exact r) fun c xs r => by rw [z07 (ntup c xs r)]; exact r
      rcases hc with rfl | hc
      . exact hbe
      . rintro rfl
        rcases he with z | z
        . exact nown c b hc z
        . rw [hc] at z; cases z; exact hb rfl
end
structure Un (fs ex : List Addr) (H H' : Hp) (h h' : Heap) : Prop where
  keep : ∀ b o, h.get? b = some o -> H b = none -> b ∉ fs -> b ∉ ex -> h'.get? b = some o
  slot : ∀ b o, h.get? b = some o -> H b = none -> b ∈ fs -> b ∉ ex -> ∃ sl, h'.get? b = some { o with slots := sl }
  free : ∀ b o, h.get? b = some o -> H b = none -> b ∉ ex -> H' b = none
  there : ∀ b o, h.get? b = some o -> b ∉ ex -> ∃ o', h'.get? b = some o'
  tups : ∀ b xs, H b = some (.tup xs) -> H' b = some (.tup xs)
  frzs : ∀ b o u, H b = some (.frz o u) -> H' b = some (.frz o u)
  tbls : ∀ b ps, H b = some (.tbl ps) -> ∃ more, H' b = some (.tbl (ps ++ more))
section
variable {fs fs' ex ex' : List Addr} {H H1 H2 : Hp} {h h1 h2 h' : Heap} {a x e : Addr} {o : HO}
theorem Un.any (u : Un fs ex H H1 h h1) {b : Addr} {ob : Obj} (q : h.get? b = some ob) (n : H b = none) (hx : b ∉ ex) : ∃ sl, h1.get? b = some { ob with slots := sl } := by
  by_cases hb : b ∈ fs
  . exact u.slot b ob q n hb hx
  . exact ⟨ob.slots, u.keep b ob q n hb hx⟩
theorem Un.trans (a : Un fs ex H H1 h h1) (b : Un fs ex H1 H2 h1 h2) : Un fs ex H H2 h h2 where
  keep := fun c ob q n hc hx => b.keep c ob (a.keep c ob q n hc hx) (a.free c ob q n hx) hc hx
  slot := fun c ob q n hc hx => by
    obtain ⟨sl, e1⟩ := a.slot c ob q n hc hx
    obtain ⟨sl', e2⟩ := b.slot c _ e1 (a.free c ob q n hx) hc hx
    exact ⟨sl', e2⟩
  free := fun c ob q n hx => by
    obtain ⟨o', e1⟩ := a.there c ob q hx
    exact b.free c o' e1 (a.free c ob q n hx) hx
  there := fun c ob q hx => by
    obtain ⟨o', e1⟩ := a.there c ob q hx
    exact b.there c o' e1 hx
  tups := fun c xs q => b.tups c xs (a.tups c xs q)
  frzs := fun c ob xs q => b.frzs c ob xs (a.frzs c ob xs q)
  tbls := fun c ps q => by
    obtain ⟨m1, e1⟩ := a.tbls c ps q
    obtain ⟨m2, e2⟩ := b.tbls c _ e1
    exact ⟨m1 ++ m2, by rw [e2, Array.append_assoc]⟩
theorem Un.kept (k : ∀ b u, h.get? b = some u -> h'.get? b = some u) : Un fs ex H H h h' :=
  ⟨fun b ob q _ _ _ => k b ob q, fun b ob q _ _ _ => ⟨ob.slots, k b ob q⟩, fun _ _ _ n _ => n, fun b ob q _ => ⟨ob, k b ob q⟩, fun _ _ q => q, fun _ _ _ q => q, fun _ ps q => ⟨#[], by rw [q]; simp⟩⟩
theorem Un.refl : Un fs ex H H h h := Un.kept fun _ _ q => q
theorem Un.laid (k : ∀ b u, h.get? b = some u -> h'.get? b = some u) (hp : h.objs.size <= a) (hn : H a = none) : Un fs ex H (upd H a o) h h' where
  keep := fun b u q _ _ _ => k b u q
  slot := fun b u q _ _ _ => ⟨u.slots, k b u q⟩
  free := fun b u q n _ => by rw [z07 (Nat.ne_of_lt (Nat.lt_of_lt_of_le (Heap.lt_size q) hp))]; exact n
  there := fun b u q _ => ⟨u, k b u q⟩
  tups := fun b xs q => by rw [z07 (z08 q hn)]; exact q
  frzs := fun b u xs q => by rw [z07 (z08 q hn)]; exact q
  tbls := fun b ps q => ⟨#[], by rw [z07 (z08 q hn), q]; simp⟩
theorem Un.write (mu : Mut (H x)) (he : e = x \/ H e = some (.own x)) (k : ∀ b u, b ≠ e -> h.get? b = some u -> h'.get? b = some u) (heo : ∃ u, h'.get? e = some u) : Un fs ex H (upd H x o) h h' := by
  have hx : ∀ b, H b = none -> b ≠ x := fun b n z => by subst z; rw [n] at mu; exact mu
  have hb : ∀ b, H b = none -> b ≠ e := fun b n z => by
    subst z
    rcases he with r | r
    . exact hx b n r
    . rw [n] at r; cases r
  have hm : ∀ b u, H b = some u -> ¬ Mut (some u) -> b ≠ x := fun b u q nm z => by subst z; rw [q] at mu; exact nm mu
  refine ⟨fun b u q n _ _ => k b u (hb b n) q, fun b u q n _ _ => ⟨u.slots, k b u (hb b n) q⟩, fun b u q n _ => by rw [z07 (hx b n)]; exact n, fun b u q _ => ?_,
    fun b xs q => by rw [z07 (hm b _ q fun z => z)]; exact q, fun b u xs q => by rw [z07 (hm b _ q fun z => z)]; exact q, fun b ps q => ⟨#[], by rw [z07 (hm b _ q fun z => z), q]; simp⟩⟩
  by_cases hbe : b = e
  . subst hbe; exact heo
  . exact ⟨u, k b u hbe q⟩
end
def trk (h : Heap) (H : Hp) : List Addr := (List.range h.objs.size).filter fun a => (H a).isSome
def z9Z (h : Heap) (H : Hp) : Heap := PySem.W.hideAll h (trk h H)
theorem z7n (h : Heap) (H : Hp) : (z9Z h H).objs.size = h.objs.size := PySem.W.hideAll_size _ _
theorem z9a {h : Heap} {H : Hp} {b : Addr} {o : Obj} (e : h.get? b = some o) (n : H b = none) : (z9Z h H).get? b = some o :=
  PySem.W.hideAll_get _ e fun hm => by
    have q : (H b).isSome = true := (List.mem_filter.mp hm).2
    rw [n] at q; simp at q
theorem zB3 {h : Heap} {H : Hp} {b : Addr} {o : Obj} (e : (z9Z h H).get? b = some o) : h.get? b = some o /\ H b = none := by
  have e' : h.get? b = some o := PySem.W.of_hideAll (trk h H) e
  refine ⟨e', ?_⟩
  cases q : H b with
  | none => rfl
  | some x =>
    have hm : b ∈ trk h H := List.mem_filter.mpr ⟨List.mem_range.mpr (Heap.lt_size e'), by simp [q]⟩
    have z : (z9Z h H).get? b = none := PySem.W.hideAll_none (trk h H) hm
    rw [z] at e; cases e
def zB4 (g h : Heap) (L : Addr) : List (Addr × Obj) := (List.range h.objs.size).filterMap fun a => if a = L \/ (g.get? a).isSome = true then none else (h.get? a).map fun o => (a, o)
def rest (g h : Heap) (L d : Addr) : List (Addr × Obj) := (zB4 g h L).filter fun p => decide (p.1 ≠ d)
structure Mod (K : PySem.W.Frag) (mg : Str -> Option Value) (base : Heap) : Prop where
  kin : K.In base
  glob : base.Ns mainGlobals mg
  blt : ∃ mb, base.Ns builtinsNs mb /\ ∀ x : Str, x ≠ "__name__" -> mb x = bootBuiltins x
  nolimit : base.NoLimit
structure Cx where
  prog : Program
  w : World
  K : PySem.W.Frag
  mg : Str -> Option Value
  base : Heap
  A : Around
  N : List Str
  s₀ : Shared
  H₀ : Hp
  env : Env
  outer : List Env
  stack : List Env
  ex : List Addr
  fn : Str -> Bool
  calm : Bool
  pn : List (Addr × Obj)
  xe : Value -> Shared -> Prop
def frs (l : List Env) : List Addr := l.filterMap (·.frame)
abbrev Cx.fs (X : Cx) : List Addr := frs X.outer
def Vis (sc : Scope) (x : Str) : Prop := sc.names.lookup x = some .local \/ sc.names.lookup x = some .cell \/ sc.names.lookup x = some .free
def Loc (sc : Scope) (x : Str) : Prop := sc.names.lookup x = some .local \/ sc.names.lookup x = some .cell
def Look (env : Env) (h : Heap) (m : Str -> Option Value) (x : Str) (u : Value) : Prop :=
  (env.kindOf x = some .local /\ m x = some u) \/ ((env.kindOf x = some .cell \/ env.kindOf x = some .free) /\ ∃ c, env.cells.lookup x = some c /\ h.IsCell c (some u))
structure Cx.Ok (X : Cx) : Prop where
  mod : Mod X.K X.mg X.base
  kind : X.env.scope.kind = .function
  glob : X.env.globals = mainGlobals
  blt : X.env.builtins = builtinsNs
  above : X.s₀.heap.objs.size <= X.env.locals
  inj : ∀ x y c, X.env.cells.lookup x = some c -> X.env.cells.lookup y = some c -> x = y
  has : ∀ x, (X.env.kindOf x = some .cell \/ X.env.kindOf x = some .free) -> ∃ c, X.env.cells.lookup x = some c
  cab : ∀ x c, X.fn x = true -> X.env.cells.lookup x = some c -> X.s₀.heap.objs.size <= c
  hd : X.calm = true -> X.A.handled = none
  frames : X.A.frames = some X.stack
  stk : X.stack = X.outer \/ (X.stack = X.env :: X.outer /\ X.env.frame = some X.env.locals)
  exf : ∀ b ∈ X.ex, b ≠ X.env.locals /\ ∀ x c, X.env.cells.lookup x = some c -> c ≠ b
  bs : ∀ b o, X.base.get? b = some o -> X.s₀.heap.get? b = some o /\ X.H₀ b = none
  bsz : X.base.objs.size <= X.s₀.heap.objs.size
  noex : ∀ b o, X.base.get? b = some o -> b ∉ X.ex
  exfs : ∀ b ∈ X.ex, b ∉ X.fs
  funs : X.s₀.heap.FunFrames X.base X.outer
  frf : ∀ b ∈ X.fs, X.H₀ b = none
structure Inv (X : Cx) (pins : List (Addr × Obj)) (σ : List (Option V)) (H : Hp) (s : Shared) : Prop where
  ok : X.Ok
  os : s.os = X.s₀.os
  bare : AllBare s.gens
  base : Un X.fs X.ex X.H₀ H X.s₀.heap s.heap
  loc : ∃ m, s.heap.Ns X.env.locals m /\ ∀ (i : Nat) (x : Str) (v : V), X.N[i]? = some x -> σ[i]? = some (some v) -> Vis X.env.scope x -> ∃ u, RelV v u /\ Look X.env s.heap m x u
  cell : ∀ x c, X.env.cells.lookup x = some c -> ∃ v, s.heap.IsCell c v
  free : H X.env.locals = none
  freeC : ∀ x c, X.env.cells.lookup x = some c -> H c = none
  pin : ∀ p ∈ X.pn ++ pins, s.heap.get? p.1 = some p.2 /\ H p.1 = none /\ p.1 ≠ X.env.locals /\ p.1 ∉ X.fs /\ ∀ v, p.2.data ≠ .cell v
  hok : HOk X.prog X.w H s.heap
  len : σ.length = X.N.length
section
variable {X : Cx} {pins : List (Addr × Obj)} {σ : List (Option V)} {H H' : Hp} {s : Shared} {h' : Heap}
theorem Cx.Ok.nofr (ok : X.Ok) {b : Addr} {o : Obj} (e : X.base.get? b = some o) : b ∉ X.fs := fun hb => by
  have := (ok.funs.mem hb).1
  rw [e] at this; cases this
theorem Inv.bs (I : Inv X pins σ H s) : ∀ b o, X.base.get? b = some o -> s.heap.get? b = some o /\ H b = none := fun b o e =>
  ⟨I.base.keep b o (I.ok.bs b o e).1 (I.ok.bs b o e).2 (I.ok.nofr e) (I.ok.noex b o e), I.base.free b o (I.ok.bs b o e).1 (I.ok.bs b o e).2 (I.ok.noex b o e)⟩
theorem Inv.bk (I : Inv X pins σ H s) : ∀ b o, X.base.get? b = some o -> s.heap.get? b = some o := fun b o e => (I.bs b o e).1
theorem Inv.mod (I : Inv X pins σ H s) : Mod X.K X.mg X.base := I.ok.mod
theorem Inv.kIn (I : Inv X pins σ H s) : X.K.In s.heap := I.ok.mod.kin.keeps I.bk
theorem Inv.fr (I : Inv X pins σ H s) : ∃ m, Fr X.base X.env.locals s.heap m :=
  let ⟨m, hn, _⟩ := I.loc
  ⟨m, hn, I.bk, Nat.le_trans I.ok.bsz I.ok.above⟩
theorem Inv.lt (I : Inv X pins σ H s) : X.env.locals < s.heap.objs.size := let ⟨_, hn, _⟩ := I.loc; hn.lt
theorem Inv.sz (I : Inv X pins σ H s) : X.s₀.heap.objs.size <= s.heap.objs.size := Nat.le_trans I.ok.above (Nat.le_of_lt I.lt)
theorem Inv.nofs (I : Inv X pins σ H s) {a : Addr} (h : s.heap.objs.size <= a) : a ∉ X.fs := fun hb => by
  obtain ⟨_, o, ho, _⟩ := I.ok.funs.mem hb
  exact absurd (Nat.lt_of_lt_of_le (Heap.lt_size ho) (Nat.le_trans I.sz h)) (Nat.lt_irrefl _)
theorem Inv.cne (I : Inv X pins σ H s) : ∀ x c, X.env.cells.lookup x = some c -> c ≠ X.env.locals := fun x c e z => by
  obtain ⟨v, o, ho, hd⟩ := I.cell x c e
  obtain ⟨m, ⟨o', es, ep, ho', hd', _⟩, _⟩ := I.loc
  rw [z, ho'] at ho; cases ho; rw [hd'] at hd; cases hd
theorem Inv.funs (I : Inv X pins σ H s) : s.heap.FunFrames X.base X.outer := by
  have all : ∀ (l : List Env), (∀ b ∈ frs l, b ∈ X.fs) -> X.s₀.heap.FunFrames X.base l -> s.heap.FunFrames X.base l := by
    intro l
    induction l with
    | nil => intro _ _; trivial
    | cons env r ih =>
      intro hs hl
      obtain ⟨hk, ⟨L, o, hf, hn, ho, hd⟩, hr⟩ := hl
      have hL : L ∈ X.fs := hs L (by unfold frs; rw [List.filterMap_cons, hf]; exact List.mem_cons_self)
      obtain ⟨sl, e⟩ := I.base.slot L o ho (I.ok.frf L hL) hL fun z => I.ok.exfs L z hL
      exact ⟨hk, ⟨L, _, hf, hn, e, hd⟩, ih (fun b hb => hs b (by unfold frs; rw [List.filterMap_cons, hf]; exact List.mem_cons_of_mem _ hb)) hr⟩
  exact all X.outer (fun _ hb => hb) I.ok.funs
theorem Inv.stack (I : Inv X pins σ H s) : s.heap.FunFrames X.base X.stack := by
  rcases I.ok.stk with e | ⟨e, hf⟩
  . rw [e]; exact I.funs
  . rw [e]
    obtain ⟨m, hn, _⟩ := I.loc
    refine .cons (by rw [I.ok.kind]; decide) hf hn ?_ I.funs
    exact Heap.get?_none_of_le (Nat.le_trans I.ok.bsz I.ok.above)
theorem Inv.stkSub (I : Inv X pins σ H s) : ∀ b ∈ frs X.stack, b ∈ X.env.locals :: X.fs := fun b hb => by
  rcases I.ok.stk with e | ⟨e, hf⟩
  . rw [e] at hb; exact List.mem_cons_of_mem _ hb
  . rw [e] at hb
    unfold frs at hb
    rw [List.filterMap_cons, hf] at hb
    exact hb
theorem Inv.stkFree (I : Inv X pins σ H s) : ∀ b ∈ frs X.stack, H b = none := fun b hb => by
  rcases List.mem_cons.mp (I.stkSub b hb) with e | hb
  . rw [e]; exact I.free
  . obtain ⟨_, o, ho, _⟩ := I.ok.funs.mem hb
    exact I.base.free b o ho (I.ok.frf b hb) fun z => I.ok.exfs b z hb
theorem Inv.step {g' : Array GenState} {t' : Nat} {d' : Drawn} {ch : List Addr} (I : Inv X pins σ H s)
    (hch : ∀ b ∈ ch, (b ∈ X.ex \/ X.s₀.heap.objs.size <= b) /\ b ≠ X.env.locals /\ (∀ x c, X.env.cells.lookup x = some c -> c ≠ b) /\ ∀ p ∈ X.pn ++ pins, p.1 ≠ b)
    (keep : ∀ b o, b ≠ X.env.locals -> b ∉ X.fs -> b ∉ ch -> s.heap.get? b = some o -> H b = none -> h'.get? b = some o)
    (slot : ∀ b o, b ≠ X.env.locals -> b ∈ X.fs -> b ∉ ch -> s.heap.get? b = some o -> H b = none -> ∃ sl, h'.get? b = some { o with slots := sl }) (free : ∀ b o, b ∉ ch -> s.heap.get? b = some o -> H b = none -> H' b = none)
    (there : ∀ b o, b ∉ ch -> s.heap.get? b = some o -> ∃ o', h'.get? b = some o')
    (tups : ∀ b xs, H b = some (.tup xs) -> H' b = some (.tup xs)) (frzs : ∀ b o u, H b = some (.frz o u) -> H' b = some (.frz o u)) (tbls : ∀ b ps, H b = some (.tbl ps) -> ∃ more, H' b = some (.tbl (ps ++ more)))
    (ns : ∀ m, s.heap.Ns X.env.locals m -> h'.Ns X.env.locals m) (hok : HOk X.prog X.w H' h') (hg : AllBare g') :
    Inv X pins σ H' { s with heap := h', gens := g', drawn := d', toks := t' } := by
  have neL : ∀ b o, X.s₀.heap.get? b = some o -> b ≠ X.env.locals := fun b o e => Nat.ne_of_lt (Nat.lt_of_lt_of_le (Heap.lt_size e) I.ok.above)
  have neC : ∀ b o, X.s₀.heap.get? b = some o -> b ∉ X.ex -> b ∉ ch := fun b o e hx hb => by
    rcases (hch b hb).1 with z | z
    . exact hx z
    . exact absurd (Nat.lt_of_lt_of_le (Heap.lt_size e) z) (Nat.lt_irrefl _)
  have cellK : ∀ x c, X.env.cells.lookup x = some c -> ∀ v, s.heap.IsCell c v -> h'.IsCell c v := fun x c e v ⟨o, ho, hd⟩ => by
    have nch : c ∉ ch := fun z => (hch c z).2.2.1 x c e rfl
    by_cases hc : c ∈ X.fs
    . obtain ⟨sl, q⟩ := slot c o (I.cne x c e) hc nch ho (I.freeC x c e)
      exact ⟨_, q, hd⟩
    . exact ⟨o, keep c o (I.cne x c e) hc nch ho (I.freeC x c e), hd⟩
  refine ⟨I.ok, I.os, hg, ⟨fun b o e n hb hx => ?_, fun b o e n hb hx => ?_, fun b o e n hx => ?_, fun b o e hx => ?_, fun b xs e => tups b xs (I.base.tups b xs e), fun b o xs e => frzs b o xs (I.base.frzs b o xs e), fun b ps e => ?_⟩, ?_, fun x c e => ?_, ?_, fun x c e => ?_, fun p hp => ?_, hok, I.len⟩
  . exact keep b o (neL b o e) hb (neC b o e hx) (I.base.keep b o e n hb hx) (I.base.free b o e n hx)
  . obtain ⟨sl, e1⟩ := I.base.slot b o e n hb hx
    obtain ⟨sl', e2⟩ := slot b _ (neL b o e) hb (neC b o e hx) e1 (I.base.free b o e n hx)
    exact ⟨sl', e2⟩
  . obtain ⟨o', e1⟩ := I.base.there b o e hx
    exact free b o' (neC b o e hx) e1 (I.base.free b o e n hx)
  . obtain ⟨o', e1⟩ := I.base.there b o e hx
    exact there b o' (neC b o e hx) e1
  . obtain ⟨m1, e1⟩ := I.base.tbls b ps e
    obtain ⟨m2, e2⟩ := tbls b _ e1
    exact ⟨m1 ++ m2, by rw [e2, Array.append_assoc]⟩
  . obtain ⟨m, hn, hl⟩ := I.loc
    refine ⟨m, ns m hn, fun i x v e1 e2 e3 => ?_⟩
    obtain ⟨u, r, l⟩ := hl i x v e1 e2 e3
    refine ⟨u, r, ?_⟩
    rcases l with l | ⟨k, c, e, z⟩
    . exact .inl l
    . exact .inr ⟨k, c, e, cellK x c e _ z⟩
  . obtain ⟨v, z⟩ := I.cell x c e
    exact ⟨v, cellK x c e v z⟩
  . obtain ⟨m, ⟨o, _, _, ho, _⟩, _⟩ := I.loc
    exact free _ o (fun z => (hch _ z).2.1 rfl) ho I.free
  . obtain ⟨v, o, ho, hd⟩ := I.cell x c e
    exact free c o (fun z => (hch c z).2.2.1 x c e rfl) ho (I.freeC x c e)
  . obtain ⟨e, n, ne, nf, d⟩ := I.pin p hp
    have nch : p.1 ∉ ch := fun z => (hch p.1 z).2.2.2 p hp rfl
    exact ⟨keep p.1 p.2 ne nf nch e n, free p.1 p.2 nch e n, ne, nf, d⟩
theorem Inv.un {t' : Nat} (I : Inv X pins σ H s) (u : Un X.fs [] H H' s.heap h') (hok : HOk X.prog X.w H' h') : Inv X pins σ H' { s with heap := h', toks := t' } := by
  obtain ⟨m, ⟨o, es, ep, ho, r⟩, _⟩ := id I.loc
  obtain ⟨sl, hL⟩ := u.any ho I.free (by simp)
  exact I.step (g' := s.gens) (d' := s.drawn) (ch := []) (fun _ z => nomatch z) (fun b o _ hb _ e n => u.keep b o e n hb (by simp)) (fun b o _ hb _ e n => u.slot b o e n hb (by simp)) (fun b o _ e n => u.free b o e n (by simp)) (fun b o _ e => u.there b o e (by simp)) u.tups u.frzs u.tbls (fun m' hm => by
    obtain ⟨o', es', ep', ho', r'⟩ := hm
    rw [ho] at ho'; cases ho'
    exact ⟨_, es', ep', hL, r'⟩) hok I.bare
theorem Inv.call {g' : Array GenState} {t' : Nat} {d' : Drawn} {ch : List Addr} (I : Inv X pins σ H s) (u : Un (frs X.stack) ch H H' s.heap h') (hok : HOk X.prog X.w H' h') (hg : AllBare g')
    (hch : ∀ b ∈ ch, (b ∈ X.ex \/ X.s₀.heap.objs.size <= b) /\ b ≠ X.env.locals /\ (∀ x c, X.env.cells.lookup x = some c -> c ≠ b) /\ ∀ p ∈ X.pn ++ pins, p.1 ≠ b) :
    Inv X pins σ H' { s with heap := h', gens := g', drawn := d', toks := t' } := by
  obtain ⟨m, ⟨o, es, ep, ho, r⟩, _⟩ := id I.loc
  obtain ⟨sl, hL⟩ := u.any ho I.free fun z => (hch _ z).2.1 rfl
  exact I.step (ch := ch) hch (fun b o hL hb hc e n => u.keep b o e n (fun z => (List.mem_cons.mp (I.stkSub b z)).elim hL hb) hc) (fun b o _ _ hc e n => u.any e n hc) (fun b o hc e n => u.free b o e n hc) (fun b o hc e => u.there b o e hc) u.tups u.frzs u.tbls (fun m' hm => by
    obtain ⟨o', es', ep', ho', r'⟩ := hm
    rw [ho] at ho'; cases ho'
    exact ⟨_, es', ep', hL, r'⟩) hok hg
theorem Inv.turned {t' : Nat} {it : Addr} (I : Inv X pins σ H s) (k : ∀ b o, b ≠ it -> s.heap.get? b = some o -> h'.get? b = some o) (hn : H it = none) (hL : it ≠ X.env.locals)
    (h1 : it ∈ X.ex \/ X.s₀.heap.objs.size <= it) (h2 : ∀ x c, X.env.cells.lookup x = some c -> c ≠ it) (h3 : ∀ p ∈ X.pn ++ pins, p.1 ≠ it) : Inv X pins σ H { s with heap := h', toks := t' } := by
  have nit : ∀ b u, H b = some u -> b ≠ it := fun b u e z => by rw [z, hn] at e; cases e
  refine I.step (g' := s.gens) (d' := s.drawn) (ch := [it]) (fun b hb => ?_) (fun b o _ _ hc e _ => k b o (fun z => hc (by simp [z])) e) (fun b o _ _ hc e _ => ⟨o.slots, k b o (fun z => hc (by simp [z])) e⟩) (fun _ _ _ _ n => n)
    (fun b o hc e => ⟨o, k b o (fun z => hc (by simp [z])) e⟩) (fun _ _ e => e) (fun _ _ _ e => e) (fun b ps e => ⟨#[], by rw [e]; simp⟩) (fun m hm => ?_) (fun b u e => ?_) I.bare
  . have e : b = it := by simpa using hb
    subst e
    exact ⟨h1, hL, h2, h3⟩
  . obtain ⟨o, es, ep, ho, r⟩ := hm
    exact ⟨o, es, ep, k _ o (Ne.symm hL) ho, r⟩
  . refine (I.hok b u e).stay (fun c v hc q => k c v ?_ q) (fun _ q => q) fun _ _ q => q
    rcases hc with z | z
    . rw [z]; exact nit b u e
    . exact nit c _ z
theorem Inv.tok (I : Inv X pins σ H s) (t : Nat) : Inv X pins σ H { s with toks := t } := I.un (h' := s.heap) (t' := t) Un.refl I.hok
theorem Inv.kept {t' : Nat} (I : Inv X pins σ H s) (k : ∀ b u, s.heap.get? b = some u -> h'.get? b = some u) : Inv X pins σ H { s with heap := h', toks := t' } := I.un (Un.kept k) (I.hok.kept k)
theorem Inv.laid {a : Addr} {o : HO} {t' : Nat} (I : Inv X pins σ H s) (k : ∀ b u, s.heap.get? b = some u -> h'.get? b = some u) (hp : s.heap.objs.size <= a) (new : ObjOk X.prog X.w (upd H a o) h' a o) :
    Inv X pins σ (upd H a o) { s with heap := h', toks := t' } := I.un (Un.laid k hp (I.hok.fresh hp)) (I.hok.laid k hp new)
theorem Inv.write {x e : Addr} {o : HO} {t' : Nat} (I : Inv X pins σ H s) (mu : Mut (H x)) (he : e = x \/ H e = some (.own x)) (k : ∀ b u, b ≠ e -> s.heap.get? b = some u -> h'.get? b = some u) (heo : ∃ u, h'.get? e = some u)
    (new : ObjOk X.prog X.w (upd H x o) h' x o) : Inv X pins σ (upd H x o) { s with heap := h', toks := t' } := I.un (Un.write mu he k heo) (I.hok.write mu he k heo new)
theorem Inv.pins_of {pins' : List (Addr × Obj)} (I : Inv X pins σ H s) (h : ∀ p ∈ pins', s.heap.get? p.1 = some p.2 /\ H p.1 = none /\ p.1 ≠ X.env.locals /\ p.1 ∉ X.fs /\ ∀ v, p.2.data ≠ .cell v) : Inv X pins' σ H s :=
  ⟨I.ok, I.os, I.bare, I.base, I.loc, I.cell, I.free, I.freeC, fun p hp => (List.mem_append.mp hp).elim (fun z => I.pin p (List.mem_append_left _ z)) (h p), I.hok, I.len⟩
theorem z44 {N : List Str} (hN : N.Nodup) {i j : Nat} {x : Str} (a : N[i]? = some x) (b : N[j]? = some x) : i = j := by
  obtain ⟨h1, e1⟩ := List.getElem?_eq_some_iff.mp a
  obtain ⟨h2, e2⟩ := List.getElem?_eq_some_iff.mp b
  exact (List.getElem_inj hN).mp (e1.trans e2.symm)
theorem z4b {M : Model} {A : Around} {E : Value -> Shared -> Prop} {i : Nat} {x : Str} {v : V} {u : Value} {Q : Unit -> Shared -> Prop} (I : Inv X pins σ H s) (hN : X.N.Nodup) (hi : X.N[i]? = some x) (hx : Loc X.env.scope x) (r : RelV v u)
    (h : ∀ s', Inv X pins (σ.set i (some v)) H s' -> (∃ a, Heap.SameBut a s.heap s'.heap /\ (a = X.env.locals \/ X.env.cells.lookup x = some a)) -> Q () s') (hf : X.fn x = true \/ X.env.scope.names.lookup x = some .local := by first | exact .inl rfl | exact .inr rfl | assumption) : wpAny M A (storeName X.env x u) Q E s := by
  obtain ⟨m, hn, hl⟩ := id I.loc
  have hcls : (X.env.scope.kind == .class || (X.env.scope.kind == .module && X.env.locals != X.env.globals)) = false := by rw [I.ok.kind]; rfl
  have hiσ : i < σ.length := by rw [I.len]; exact (List.getElem?_eq_some_iff.mp hi).1
  have cne := I.cne
  have tracked : ∀ {a : Addr} {h' : Heap}, (∃ o, s.heap.get? a = some o /\ H a = none) -> Heap.SameBut a s.heap h' -> HOk X.prog X.w H h' := fun {a h'} ha hs b ob e => by
    obtain ⟨_, _, hfree⟩ := ha
    refine (I.hok b ob e).stay (fun c w' hc q => (hs.2 c ?_).trans q) (fun _ q => q) fun _ _ q => q
    rintro rfl
    rcases hc with rfl | hc
    . rw [hfree] at e; cases e
    . rw [hfree] at hc; cases hc
  rcases hx with hk | hk
  . refine wpAny_storeName_local hk hn (fun h' hn' hs => ?_) hcls
    obtain ⟨oL, _, _, hoL, _⟩ := id hn
    refine h _ ⟨I.ok, I.os, I.bare, ⟨fun b o e n hb hx => ?_, fun b o e n hb hx => ?_, I.base.free, fun b o e hx => ?_, I.base.tups, I.base.frzs, I.base.tbls⟩, ⟨_, hn', fun j y v' e1 e2 e3 => ?_⟩, fun y c e => ?_, I.free, I.freeC, fun p hp => ?_, tracked ⟨oL, hoL, I.free⟩ hs, by simpa using I.len⟩ ⟨_, hs, .inl rfl⟩
    . exact (hs.2 b (Nat.ne_of_lt (Nat.lt_of_lt_of_le (Heap.lt_size e) I.ok.above))).trans (I.base.keep b o e n hb hx)
    . obtain ⟨sl, e1⟩ := I.base.slot b o e n hb hx
      exact ⟨sl, (hs.2 b (Nat.ne_of_lt (Nat.lt_of_lt_of_le (Heap.lt_size e) I.ok.above))).trans e1⟩
    . obtain ⟨o', e1⟩ := I.base.there b o e hx
      exact ⟨o', (hs.2 b (Nat.ne_of_lt (Nat.lt_of_lt_of_le (Heap.lt_size e) I.ok.above))).trans e1⟩
    . by_cases hj : j = i
      . subst hj
        rw [hi] at e1; cases e1
        rw [List.getElem?_set_self hiσ] at e2
        cases e2
        exact ⟨u, r, .inl ⟨hk, by simp⟩⟩
      . rw [List.getElem?_set_ne (Ne.symm hj)] at e2
        obtain ⟨u', r', q⟩ := hl j y v' e1 e2 e3
        refine ⟨u', r', ?_⟩
        rcases q with ⟨k, e⟩ | ⟨k, c, e, z⟩
        . refine .inl ⟨k, ?_⟩
          have : y ≠ x := fun e => hj (z44 hN e1 (e ▸ hi))
          simp [this, e]
        . exact .inr ⟨k, c, e, z.sameBut hs (cne y c e)⟩
    . obtain ⟨w', z⟩ := I.cell y c e
      exact ⟨w', z.sameBut hs (cne y c e)⟩
    . obtain ⟨e, n, ne, nf, d⟩ := I.pin p hp
      exact ⟨(hs.2 p.1 ne).trans e, n, ne, nf, d⟩
  . have hfn : X.fn x = true := by
      rcases hf with z | z
      . exact z
      . rw [z] at hk; cases hk
    obtain ⟨c, hc⟩ := I.ok.has x (.inl hk)
    obtain ⟨w', z⟩ := I.cell x c hc
    refine wpAny_storeName_cell I.ok.kind hk hc z (fun h' hc' hs => ?_)
    obtain ⟨oc, hoc, hocd⟩ := id z
    refine h { s with heap := h' } ⟨I.ok, I.os, I.bare, ⟨fun b o e n hb hx => ?_, fun b o e n hb hx => ?_, I.base.free, fun b o e hx => ?_, I.base.tups, I.base.frzs, I.base.tbls⟩, ⟨m, hn.sameBut hs (Ne.symm (cne x c hc)), fun j y v' e1 e2 e3 => ?_⟩, fun y c' e => ?_, I.free, I.freeC, fun p hp => ?_, tracked ⟨oc, hoc, I.freeC x c hc⟩ hs, by simpa using I.len⟩ ⟨c, hs, .inr hc⟩
    . exact (hs.2 b (Nat.ne_of_lt (Nat.lt_of_lt_of_le (Heap.lt_size e) (I.ok.cab x c hfn hc)))).trans (I.base.keep b o e n hb hx)
    . obtain ⟨sl, e1⟩ := I.base.slot b o e n hb hx
      exact ⟨sl, (hs.2 b (Nat.ne_of_lt (Nat.lt_of_lt_of_le (Heap.lt_size e) (I.ok.cab x c hfn hc)))).trans e1⟩
    . obtain ⟨o', e1⟩ := I.base.there b o e hx
      exact ⟨o', (hs.2 b (Nat.ne_of_lt (Nat.lt_of_lt_of_le (Heap.lt_size e) (I.ok.cab x c hfn hc)))).trans e1⟩
    . by_cases hj : j = i
      . subst hj
        rw [hi] at e1; cases e1
        rw [List.getElem?_set_self hiσ] at e2
        cases e2
        exact ⟨u, r, .inr ⟨.inl hk, c, hc, hc'⟩⟩
      . rw [List.getElem?_set_ne (Ne.symm hj)] at e2
        obtain ⟨u', r', q⟩ := hl j y v' e1 e2 e3
        refine ⟨u', r', ?_⟩
        rcases q with q | ⟨k, c', e, z'⟩
        . exact .inl q
        . refine .inr ⟨k, c', e, z'.sameBut hs ?_⟩
          rintro rfl
          exact hj (z44 hN e1 (I.ok.inj _ _ _ e hc ▸ hi))
    . by_cases hcc : c' = c
      . subst hcc; exact ⟨_, hc'⟩
      . obtain ⟨w2, z2⟩ := I.cell y c' e
        exact ⟨w2, z2.sameBut hs hcc⟩
    . obtain ⟨e, n, ne, nf, d⟩ := I.pin p hp
      refine ⟨(hs.2 p.1 ?_).trans e, n, ne, nf, d⟩
      intro q
      rw [q, hoc] at e
      have q' : oc = p.2 := Option.some.inj e
      exact d w' (by rw [<- q']; exact hocd)
theorem z45 {M : Model} {A : Around} {E : Value -> Shared -> Prop} {i : Nat} {x : Str} {v : V} {u : Value} {Q : Unit -> Shared -> Prop} (I : Inv X pins σ H s) (hN : X.N.Nodup) (hi : X.N[i]? = some x) (hx : Loc X.env.scope x) (r : RelV v u)
    (h : ∀ s', Inv X pins (σ.set i (some v)) H s' -> Q () s') (hf : X.fn x = true \/ X.env.scope.names.lookup x = some .local := by first | exact .inl rfl | exact .inr rfl | assumption) : wpAny M A (storeName X.env x u) Q E s :=
  z4b I hN hi hx r (fun s' I' _ => h s' I') hf
theorem Inv.call' {s' : Shared} {ch : List Addr} (I : Inv X pins σ H s) (ho : s'.os = s.os) (u : Un (frs X.stack) ch H H' s.heap s'.heap) (hok : HOk X.prog X.w H' s'.heap) (hg : AllBare s'.gens)
    (hch : ∀ b ∈ ch, (b ∈ X.ex \/ X.s₀.heap.objs.size <= b) /\ b ≠ X.env.locals /\ (∀ x c, X.env.cells.lookup x = some c -> c ≠ b) /\ ∀ p ∈ X.pn ++ pins, p.1 ≠ b) : Inv X pins σ H' s' := by
  obtain ⟨h', g', d', t', o'⟩ := s'
  have e : o' = s.os := ho
  subst e
  exact I.call (g' := g') (t' := t') (d' := d') u hok hg hch
end
abbrev XK := Value -> Option Addr -> Hp -> Prop
abbrev St := List (Option V)
abbrev VK := V -> Hp -> Prop
abbrev TE := St -> Hp -> VK -> Prop
abbrev TT := St -> Hp -> (Bool -> Hp -> Prop) -> Prop
abbrev TA := St -> Hp -> (List V -> Hp -> Prop) -> Prop
structure Ends where
  nx : St -> Hp -> Prop
  rt : VK
  bk : St -> Hp -> Prop := fun _ _ => False
  ct : St -> Hp -> Prop := fun _ _ => False
abbrev TS := Ends -> St -> Hp -> Prop
def EP (X : Cx) (pins : List (Addr × Obj)) (σ : St) (Q : VK) (u : Value) (s' : Shared) : Prop := ∃ v H', Inv X pins σ H' s' /\ RelV v u /\ Q v H'
def TP (X : Cx) (pins : List (Addr × Obj)) (σ : St) (Q : Bool -> Hp -> Prop) (b : Bool) (s' : Shared) : Prop := ∃ H', Inv X pins σ H' s' /\ Q b H'
def AP (X : Cx) (pins : List (Addr × Obj)) (σ : St) (Q : List V -> Hp -> Prop) (us : List Value) (s' : Shared) : Prop := ∃ vs H', Inv X pins σ H' s' /\ Vals vs us /\ Q vs H'
def SP (X : Cx) (pins : List (Addr × Obj)) (D : Ends) (f : Flow) (s' : Shared) : Prop :=
  match f with
  | .next => ∃ σ' H', Inv X pins σ' H' s' /\ D.nx σ' H'
  | .brk => ∃ σ' H', Inv X pins σ' H' s' /\ D.bk σ' H'
  | .cont => ∃ σ' H', Inv X pins σ' H' s' /\ D.ct σ' H'
  | .ret u => ∃ v σ' H', Inv X pins σ' H' s' /\ RelV v u /\ D.rt v H'
def PE (X : Cx) (e : Expr) (t : TE) : Prop :=
  ∀ (pins : List (Addr × Obj)) (s : Shared) (σ : St) (H : Hp) (Q : VK), Inv X pins σ H s -> t σ H Q -> wpAny (model X.prog X.w) X.A (eval e X.env) (EP X pins σ Q) X.xe s
def PT (X : Cx) (e : Expr) (t : TT) : Prop :=
  ∀ (pins : List (Addr × Obj)) (s : Shared) (σ : St) (H : Hp) (Q : Bool -> Hp -> Prop), Inv X pins σ H s -> t σ H Q -> wpAny (model X.prog X.w) X.A (isTrue e X.env (eval e X.env)) (TP X pins σ Q) X.xe s
def PW (X : Cx) (e : Expr) (t : TT) : Prop :=
  ∀ (whole : Sem Value) (pins : List (Addr × Obj)) (s : Shared) (σ : St) (H : Hp) (Q : Bool -> Hp -> Prop), Inv X pins σ H s -> t σ H Q -> wpAny (model X.prog X.w) X.A (isTrue e X.env whole) (TP X pins σ Q) X.xe s
theorem PW.pt {X : Cx} {e : Expr} {t : TT} (h : PW X e t) : PT X e t := h _
def PA (X : Cx) (es : List Expr) (t : TA) : Prop :=
  ∀ (pos : Pos) (pins : List (Addr × Obj)) (s : Shared) (σ : St) (H : Hp) (Q : List V -> Hp -> Prop), Inv X pins σ H s -> t σ H Q -> wpAny (model X.prog X.w) X.A (spliced (backTo pos (starEach es X.env))) (AP X pins σ Q) X.xe s
def PS (X : Cx) (st : Stmt) (t : TS) : Prop :=
  ∀ (pins : List (Addr × Obj)) (s : Shared) (σ : St) (H : Hp) (D : Ends), Inv X pins σ H s -> t D σ H -> wpAny (model X.prog X.w) X.A (exec st X.env) (SP X pins D) X.xe s
def PSs (X : Cx) (st : List Stmt) (t : TS) : Prop :=
  ∀ (pins : List (Addr × Obj)) (s : Shared) (σ : St) (H : Hp) (D : Ends), Inv X pins σ H s -> t D σ H -> wpAny (model X.prog X.w) X.A (execs st X.env) (SP X pins D) X.xe s
theorem thn {α : Type} {t : Sem α} {Q Q' : α -> Shared -> Prop} {M : Model} {A : Around} {E : Value -> Shared -> Prop} {s : Shared} (h : wpAny M A t Q E s) (hQ : ∀ a s, Q a s -> Q' a s) : wpAny M A t Q' E s := wpAny_mono h hQ fun _ _ x => x
section
variable {X : Cx}
def zCn (i : Nat) : TE := fun σ H Q => ∃ v, σ[i]? = some (some v) /\ Q v H
def tC (v : V) : TE := fun _ H Q => Q v H
theorem zC8 {i : Nat} {x : Str} {pos : Pos} (hN : X.N[i]? = some x) (hv : Vis X.env.scope x) (hd : (x == ("__debug__" : Str)) = false := by decide) (hcd : (x == ("__classdict__" : Str)) = false := by decide) : PE X (.Name x pos) (zCn i) := by
  intro pins s σ H Q I h
  obtain ⟨v, e, h⟩ := h
  obtain ⟨m, hn, hl⟩ := I.loc
  obtain ⟨u, r, l⟩ := hl i x v hN e hv
  have fin : EP X pins σ Q u s := ⟨v, H, I, r, h⟩
  rcases l with ⟨hk, hm⟩ | ⟨hk, c, hc, hcell⟩
  . exact wpAny_Name (wpAny_loadName_local I.ok.kind hk hn hm fin) hd
  . rcases hk with hk | hk
    . exact wpAny_Name (wpAny_loadName_cell I.ok.kind hk hc hcell fin) hd
    . exact wpAny_Name (wpAny_loadName_free I.ok.kind hk hc hcell fin hcd) hd
theorem z01 {i j pos} : PE X (.Constant (.int i) j pos) (tC (.int i)) := fun _ _ _ H _ I h => wpAny_Constant_int ⟨.int i, H, I.tok _, ⟨_, rfl⟩, h⟩
theorem z2Q {b j pos} : PE X (.Constant (.bool b) j pos) (tC (.bl b)) := fun _ _ _ H _ I h => Constant_bool ⟨.bl b, H, I, rfl, h⟩
theorem z2p {j pos} : PE X (.Constant .none j pos) (tC .non) := fun _ _ _ H _ I h => Constant_none ⟨.non, H, I, rfl, h⟩
theorem z2q {x j pos} : PE X (.Constant (.str x) j pos) (tC (.str x)) := fun _ _ _ H _ I h => Calls.Constant_str ⟨.str x, H, I.tok _, ⟨_, rfl⟩, h⟩
def Gl (X : Cx) (x : Str) : Prop := X.env.kindOf x = some .globalImplicit
theorem z1v {E : Value -> Shared -> Prop} {pins : List (Addr × Obj)} {s : Shared} {σ : St} {H : Hp} {x : Str} {u : Value} {pos : Pos} {Q : Value -> Shared -> Prop} (I : Inv X pins σ H s) (hg : Gl X x) (hm : X.mg x = some u) (h : Q u s)
    (hd : (x == ("__debug__" : Str)) = false := by decide) : wpAny (model X.prog X.w) X.A (eval (.Name x pos) X.env) Q E s :=
  Calls.Name_function_global I.ok.kind hg (Calls.loadGlobal_global (by rw [I.ok.glob]; exact I.mod.glob.keeps I.bk) hm h) hd
theorem z1w {E : Value -> Shared -> Prop} {pins : List (Addr × Obj)} {s : Shared} {σ : St} {H : Hp} {x : Str} {u : Value} {pos : Pos} {Q : Value -> Shared -> Prop} (I : Inv X pins σ H s) (hg : Gl X x) (hm : X.mg x = none) (hv : bootBuiltins x = some u) (h : Q u s)
    (hn : x ≠ "__name__" := by decide) (hd : (x == ("__debug__" : Str)) = false := by decide) : wpAny (model X.prog X.w) X.A (eval (.Name x pos) X.env) Q E s := by
  obtain ⟨mb, h1, h2⟩ := I.mod.blt
  exact Calls.Name_function_global I.ok.kind hg (Calls.loadGlobal_builtin (by rw [I.ok.glob]; exact I.mod.glob.keeps I.bk) hm (by rw [I.ok.blt]; exact h1.keeps I.bk) ((h2 x hn).trans hv) h) hd
theorem zB5 {x : Str} {v : V} {u : Value} {pos : Pos} (hg : Gl X x) (hm : X.mg x = some u) (r : RelV v u) (hd : (x == ("__debug__" : Str)) = false := by decide) : PE X (.Name x pos) (tC v) :=
  fun _ _ _ H _ I h => z1v I hg hm ⟨v, H, I, r, h⟩ hd
theorem z1A {x : Str} {v : V} {u : Value} {pos : Pos} (hg : Gl X x) (hm : X.mg x = none) (hv : bootBuiltins x = some u) (r : RelV v u) (hn : x ≠ "__name__" := by decide) (hd : (x == ("__debug__" : Str)) = false := by decide) : PE X (.Name x pos) (tC v) :=
  fun _ _ _ H _ I h => z1w I hg hm hv ⟨v, H, I, r, h⟩ hn hd
variable {a b : Expr} {ta tb : TE} {pos : Pos}
def PC (X : Cx) (op : CmpOp) (a b : Expr) (t : TE) : Prop :=
  ∀ (pins : List (Addr × Obj)) (s : Shared) (σ : St) (H : Hp) (Q : VK), Inv X pins σ H s -> t σ H Q ->
    wpAny (model X.prog X.w) X.A (eval a X.env) (fun v s₁ => wpAny (model X.prog X.w) X.A (eval b X.env) (fun u s₂ => wpAny (model X.prog X.w) X.A (compareOp op v u) (EP X pins σ Q) X.xe s₂) X.xe s₁) X.xe s
theorem z9b (b : Expr) {op : CmpOp} (h : op ≠ .In) (h2 : op ≠ .NotIn) : behindInMarks op b = false := by
  have e1 : (op == CmpOp.In) = false := by cases op <;> first | rfl | exact absurd rfl h
  have e2 : (op == CmpOp.NotIn) = false := by cases op <;> first | rfl | exact absurd rfl h2
  cases b <;> simp [behindInMarks, e1, e2]
def tB (t : TE) : TT := fun σ H Q => t σ H fun x H1 => ∃ c, x = .bl c /\ Q c H1
theorem zC9 {op : CmpOp} {t : TE} (h : PC X op a b t) (h1 : behindInMarks op b = false := by first | exact z9b _ (by decide) (by decide) | rfl) : PT X (.Compare a [op] [b] pos) (tB t) := by
  intro pins s σ H Q I hw
  refine wpAny_isTrue_Compare1 (thn (h pins s σ H _ I hw) fun v s1 h1 => thn h1 fun u s2 h2 => thn h2 fun c s3 ⟨x, H1, I1, r1, q1⟩ => ?_) h1
  obtain ⟨d, rfl, q⟩ := q1
  cases r1
  exact wpAny_truthy_bool ⟨H1, I1, q⟩
theorem z0o {e : Expr} {t : TE} (h : PE X e t) (he : ∀ whole, isTrue e X.env whole = (do let v <- whole; standAt e.pos; holding [v] (truthy v)) := by intro _; rfl) : PT X e (tB t) := by
  intro pins s σ H Q I hw
  refine isTrue_plain (thn (h pins s σ H _ I hw) fun v s1 ⟨x, H1, I1, r1, q1⟩ => ?_) (he _)
  obtain ⟨d, rfl, q⟩ := q1
  cases r1
  exact wpAny_truthy_bool ⟨H1, I1, q⟩
variable {tA tB' : TT} {rest : List Expr}
def zDm (t u : TT) : TT := fun σ H Q => t σ H fun c H1 => if c = true then u σ H1 Q else Q false H1
def tOr (t u : TT) : TT := fun σ H Q => t σ H fun c H1 => if c = true then Q true H1 else u σ H1 Q
def zDn (t : TT) : TT := fun σ H Q => t σ H fun c H1 => Q (!c) H1
theorem zB6 (ha : PT X a tA) : PW X (.BoolOp .And [a] pos) tA := by
  intro wh pins s σ H Q I h
  refine isTrue_and (thn (ha pins s σ H Q I h) fun c s1 e => ?_)
  cases c with
  | true => exact isTrue_and_nil e
  | false => exact e
theorem z1t (ha : PT X a tA) : PW X (.BoolOp .Or [a] pos) tA := by
  intro wh pins s σ H Q I h
  refine isTrue_or (thn (ha pins s σ H Q I h) fun c s1 e => ?_)
  cases c with
  | false => exact isTrue_or_nil e
  | true => exact e
theorem zAU (ha : PT X a tA) (hb : PW X (.BoolOp .And (b :: rest) pos) tB') : PW X (.BoolOp .And (a :: b :: rest) pos) (zDm tA tB') := by
  intro wh pins s σ H Q I h
  refine isTrue_and (thn (ha pins s σ H _ I h) fun c s1 ⟨H1, I1, q1⟩ => ?_)
  cases c with
  | true => exact hb wh pins s1 σ H1 Q I1 q1
  | false => exact ⟨H1, I1, q1⟩
theorem z2x (ha : PT X a tA) (hb : PW X (.BoolOp .Or (b :: rest) pos) tB') : PW X (.BoolOp .Or (a :: b :: rest) pos) (tOr tA tB') := by
  intro wh pins s σ H Q I h
  refine isTrue_or (thn (ha pins s σ H _ I h) fun c s1 ⟨H1, I1, q1⟩ => ?_)
  cases c with
  | true => exact ⟨H1, I1, q1⟩
  | false => exact hb wh pins s1 σ H1 Q I1 q1
theorem z0w (ha : PT X a tA) : PT X (.UnaryOp .Not a pos) (zDn tA) := by
  intro pins s σ H Q I h
  exact isTrue_not (ha pins s σ H (fun c H1 => Q (!c) H1) I h)
def zCs (ta tb : TE) : TE := fun σ H Q => ta σ H fun x H1 => ∃ c, x = .bl c /\ if c = true then tb σ H1 Q else Q (.bl false) H1
def zCt (ta : TE) : TE := fun σ H Q => ta σ H fun x H1 => ∃ c, x = .bl c /\ Q (.bl (!c)) H1
theorem z2r {op} {t : TE} (h : PE X a t) : PE X (.BoolOp op [a] pos) t := fun pins s σ H Q I hw => BoolOp_one (h pins s σ H Q I hw)
theorem z2s (ha : PE X a ta) (hb : PE X (.BoolOp .And (b :: rest) pos) tb) : PE X (.BoolOp .And (a :: b :: rest) pos) (zCs ta tb) := by
  intro pins s σ H Q I h
  refine BoolOp_and (thn (ha pins s σ H _ I h) fun v s1 ⟨x, H1, I1, r1, q1⟩ => ?_)
  obtain ⟨c, rfl, q1⟩ := q1
  cases r1
  refine wpAny_truthy_bool ?_
  cases c with
  | true => exact hb pins s1 σ H1 Q I1 q1
  | false => exact ⟨.bl false, H1, I1, rfl, q1⟩
theorem zAV (ha : PE X a ta) : PE X (.UnaryOp .Not a pos) (zCt ta) := by
  intro pins s σ H Q I h
  refine UnaryOp_ (thn (ha pins s σ H _ I h) fun v s1 ⟨x, H1, I1, r1, q1⟩ => ?_)
  obtain ⟨c, rfl, q1⟩ := q1
  cases r1
  exact not_of (wpAny_truthy_bool ⟨.bl (!c), H1, I1, rfl, q1⟩)
def tIf (t : TT) (ta tb : TE) : TE := fun σ H Q => t σ H fun c H1 => if c = true then ta σ H1 Q else tb σ H1 Q
theorem z6L {c : Expr} (hc : PT X c tA) (ha : PE X a ta) (hb : PE X b tb) : PE X (.IfExp c a b pos) (tIf tA ta tb) := by
  intro pins s σ H Q I h
  refine wpAny_IfExp (thn (hc pins s σ H _ I h) fun d s1 ⟨H1, I1, q1⟩ => ?_)
  cases d with
  | true => exact ha pins s1 σ H1 Q I1 q1
  | false => exact hb pins s1 σ H1 Q I1 q1
end
def SqL (K : PySem.W.Frag) (H : Hp) (a : Addr) (xs : List V) : Prop :=
  Rd H a (.lst xs) \/
    ∃ (o : Obj) (its : Array Value) (n : Nat), K.lookup a = some o /\ o.cls = .type "list" /\ o.dict = none /\ o.data = .seq its n /\ its.size <= sizeLine /\ Vals xs its.toList
def SqT (K : PySem.W.Frag) (H : Hp) (a : Addr) (xs : List V) : Prop :=
  Rd H a (.tup xs) \/
    ∃ (o : Obj) (its : Array Value) (n : Nat), K.lookup a = some o /\ o.cls = .type "tuple" /\ o.data = .seq its n /\ its.size <= sizeLine /\ Vals xs its.toList
def zDo : Value -> Option V
  | .none => some .non
  | .bool b => some (.bl b)
  | .int i _ => some (.int i)
  | .str x _ => some (.str x)
  | .bytes b _ => some (.byt b)
  | .float b _ => some (.flt b)
  | .ref a => some (.ref a)
  | .type n => some (.ty n)
  | _ => none
theorem RelV.abs {x : V} {u : Value} (r : RelV x u) : zDo u = some x := by
  cases x with
  | non => cases r; rfl
  | bl _ => cases r; rfl
  | int _ => obtain ⟨t, rfl⟩ := r; rfl
  | str _ => obtain ⟨t, rfl⟩ := r; rfl
  | byt _ => obtain ⟨t, rfl⟩ := r; rfl
  | flt _ => obtain ⟨t, rfl⟩ := r; rfl
  | ref _ => cases r; rfl
  | ty _ => cases r; rfl
theorem RelV.inj {x y : V} {u : Value} (r : RelV x u) (q : RelV y u) : x = y := Option.some.inj (r.abs.symm.trans q.abs)
theorem Vals.inj : ∀ {xs ys : List V} {us : List Value}, Vals xs us -> Vals ys us -> xs = ys
  | _, _, _, .nil, .nil => rfl
  | _, _, _, .cons r t, .cons r' t' => by rw [r.inj r', Vals.inj t t']
section
variable {X : Cx} {pins : List (Addr × Obj)} {σ : St} {H : Hp} {s : Shared} {a : Addr} {xs ys : List V}
theorem SqL.of {K : PySem.W.Frag} (h : H a = some (.lst xs)) : SqL K H a xs := .inl (.inl h)
theorem SqT.of {K : PySem.W.Frag} (h : H a = some (.tup xs)) : SqT K H a xs := .inl (.inl h)
theorem Inv.list (I : Inv X pins σ H s) (h : SqL X.K H a xs) : ∃ its : List Value, Vals xs its /\ PlainL s.heap a its.toArray /\ xs.length <= sizeLine := by
  rcases h with h | ⟨o, its, n, hk, hc, hd, hs, hz, r⟩
  . obtain ⟨z, its, n, r, e⟩ := h.ok I.hok
    exact ⟨its, r, ⟨_, n, e, rfl, rfl, rfl⟩, z⟩
  . refine ⟨its.toList, r, ⟨o, n, I.kIn a o hk, hc, hd, by simpa using hs⟩, ?_⟩
    have e := r.length
    simp only [Array.length_toList] at e
    omega
theorem Inv.tuple (I : Inv X pins σ H s) (h : SqT X.K H a xs) : ∃ its : List Value, Vals xs its /\ IsTup s.heap a its.toArray /\ xs.length <= sizeLine := by
  rcases h with h | ⟨o, its, n, hk, hc, hs, hz, r⟩
  . obtain ⟨z, its, r, p⟩ := h.ok I.hok
    exact ⟨its, r, p, z⟩
  . refine ⟨its.toList, r, ⟨o, I.kIn a o hk, hc, n, by simpa using hs⟩, ?_⟩
    have e := r.length
    simp only [Array.length_toList] at e
    omega
theorem Inv.list_inj (I : Inv X pins σ H s) (h : SqL X.K H a xs) (h' : SqL X.K H a ys) : xs = ys := by
  obtain ⟨its, r, ⟨o, n, e, _, _, d⟩, _⟩ := I.list h
  obtain ⟨its', r', ⟨o', n', e', _, _, d'⟩, _⟩ := I.list h'
  rw [e] at e'; cases e'
  rw [d] at d'
  injection d' with d1 _
  have : its = its' := by simpa using congrArg Array.toList d1
  subst this
  exact r.inj r'
theorem Inv.tuple_inj (I : Inv X pins σ H s) (h : SqT X.K H a xs) (h' : SqT X.K H a ys) : xs = ys := by
  obtain ⟨its, r, ⟨o, e, _, n, d⟩, _⟩ := I.tuple h
  obtain ⟨its', r', ⟨o', e', _, n', d'⟩, _⟩ := I.tuple h'
  rw [e] at e'; cases e'
  rw [d] at d'
  injection d' with d1 _
  have : its = its' := by simpa using congrArg Array.toList d1
  subst this
  exact r.inj r'
end
abbrev Cx.wish (X : Cx) (E : Value -> Shared -> Prop) : Cx := { X with xe := E }
abbrev Cx.nox (X : Cx) : Cx := X.wish fun _ _ => False
theorem Cx.Ok.wish {X : Cx} (ok : X.Ok) (E : Value -> Shared -> Prop) : (X.wish E).Ok :=
  ⟨ok.mod, ok.kind, ok.glob, ok.blt, ok.above, ok.inj, ok.has, ok.cab, ok.hd, ok.frames, ok.stk, ok.exf, ok.bs, ok.bsz, ok.noex, ok.exfs, ok.funs, ok.frf⟩
theorem Cx.Ok.unwish {X : Cx} {E : Value -> Shared -> Prop} (ok : (X.wish E).Ok) : X.Ok :=
  ⟨ok.mod, ok.kind, ok.glob, ok.blt, ok.above, ok.inj, ok.has, ok.cab, ok.hd, ok.frames, ok.stk, ok.exf, ok.bs, ok.bsz, ok.noex, ok.exfs, ok.funs, ok.frf⟩
section
variable {X : Cx} {pins : List (Addr × Obj)} {σ : St} {H : Hp} {s : Shared} {E : Value -> Shared -> Prop}
theorem Inv.wish (I : Inv X pins σ H s) (E : Value -> Shared -> Prop) : Inv (X.wish E) pins σ H s := ⟨I.ok.wish E, I.os, I.bare, I.base, I.loc, I.cell, I.free, I.freeC, I.pin, I.hok, I.len⟩
theorem Inv.unwish (I : Inv (X.wish E) pins σ H s) : Inv X pins σ H s := ⟨I.ok.unwish, I.os, I.bare, I.base, I.loc, I.cell, I.free, I.freeC, I.pin, I.hok, I.len⟩
theorem SP.unwish {D : Ends} {f : Flow} {s' : Shared} (h : SP (X.wish E) pins D f s') : SP X pins D f s' := by
  cases f with
  | next => obtain ⟨σ', H', I, q⟩ := h; exact ⟨σ', H', I.unwish, q⟩
  | brk => obtain ⟨σ', H', I, q⟩ := h; exact ⟨σ', H', I.unwish, q⟩
  | cont => obtain ⟨σ', H', I, q⟩ := h; exact ⟨σ', H', I.unwish, q⟩
  | ret u => obtain ⟨v, σ', H', I, r, q⟩ := h; exact ⟨v, σ', H', I.unwish, r, q⟩
theorem PSs.nox {st : List Stmt} {t : TS} (h : PSs X.nox st t) : PSs X st t := fun pins s σ H D I hw =>
  wpAny_mono (h pins s σ H D (I.wish _) hw) (fun _ _ q => q.unwish) fun _ _ z => False.elim z
end
section
variable {X : Cx} {st : Stmt} {rest : List Stmt} {t u : TS} {e : Expr} {te : TE} {pos : Pos}
def zCu : TS := fun D σ H => D.nx σ H
def zDp (t u : TS) : TS := fun D σ H => t { D with nx := u D } σ H
theorem z0M : PSs X [] zCu := fun _ _ σ H _ I h => wpAny_execs_nil ⟨σ, H, I, h⟩
theorem z04 (h1 : PS X st t) (h2 : PSs X rest u) : PSs X (st :: rest) (zDp t u) := by
  intro pins s σ H D I h
  refine wpAny_execs_cons (thn (h1 pins s σ H { D with nx := u D } I h) fun f s1 q => ?_)
  cases f with
  | next =>
    obtain ⟨σ', H', I', q⟩ := q
    exact h2 pins s1 σ' H' D I' q
  | ret v => exact q
  | brk => exact q
  | cont => exact q
theorem z05 (h1 : PS X st t) : PSs X [st] t := by
  intro pins s σ H D I h
  refine wpAny_execs_cons (thn (h1 pins s σ H D I h) fun f s1 q => ?_)
  cases f with
  | next => exact wpAny_execs_nil q
  | ret v => exact q
  | brk => exact q
  | cont => exact q
theorem Inv.quiet {pins : List (Addr × Obj)} {σ : St} {H : Hp} {s : Shared} (I : Inv X pins σ H s) : interactive X.env = false := by simp [interactive, I.ok.kind]
def zCv (te : TE) : TS := fun D σ H => te σ H fun _ H1 => D.nx σ H1
theorem z1L (he : PE X e te) (hs : swapsWith e none pos.line X.env = pure false := by rfl) : PS X (.Expr e pos) (zCv te) := by
  intro pins s σ H D I h
  exact wpAny_Expr_any (thn (he pins s σ H _ I h) fun v s1 ⟨x, H1, I1, r1, q1⟩ => ⟨σ, H1, I1, q1⟩) I.quiet hs
def zDY (te : TE) : TS := fun D σ H => te σ H D.rt
theorem z0I (he : PE X e te) : PS X (.Return (some e) pos) (zDY te) := by
  intro pins s σ H D I h
  exact wpAny_Return_some (thn (he pins s σ H _ I h) fun v s1 ⟨x, H1, I1, r1, q1⟩ => ⟨x, σ, H1, I1, r1, q1⟩)
def zDq (c : TT) (t u : TS) : TS := fun D σ H => c σ H fun b H1 => if b = true then t D σ H1 else u D σ H1
theorem z0b {c : Expr} {a b : List Stmt} {tc : TT} (hc : PT X c tc) (ha : PSs X a t) (hb : PSs X b u) : PS X (.If c a b pos) (zDq tc t u) := by
  intro pins s σ H D I h
  refine wpAny_If (thn (hc pins s σ H _ I h) fun d s1 ⟨H1, I1, q1⟩ => ?_)
  cases d with
  | true => exact ha pins s1 σ H1 D I1 q1
  | false => exact hb pins s1 σ H1 D I1 q1
end
abbrev TG := V -> St -> Hp -> (St -> Hp -> Prop) -> Prop
abbrev TGs := List V -> St -> Hp -> (St -> Hp -> Prop) -> Prop
def PG (X : Cx) (target : Expr) (t : TG) : Prop :=
  ∀ (pins : List (Addr × Obj)) (s : Shared) (σ : St) (H : Hp) (v : V) (u : Value) (Q : St -> Hp -> Prop), Inv X pins σ H s -> RelV v u -> t v σ H Q ->
    wpAny (model X.prog X.w) X.A (assign target X.env u) (fun _ s' => ∃ σ' H', Inv X pins σ' H' s' /\ Q σ' H') X.xe s
def PGs (X : Cx) (ts : List Expr) (t : TGs) : Prop :=
  ∀ (pins : List (Addr × Obj)) (s : Shared) (σ : St) (H : Hp) (vs : List V) (us : List Value) (Q : St -> Hp -> Prop), Inv X pins σ H s -> Vals vs us -> t vs σ H Q ->
    wpAny (model X.prog X.w) X.A (assignInOrder ((assignEach ts X.env).map (·.2)) us) (fun _ s' => ∃ σ' H', Inv X pins σ' H' s' /\ Q σ' H') X.xe s
abbrev zCw := V -> V -> V -> Hp -> (Hp -> Prop) -> Prop
def zDZ (X : Cx) (t : zCw) : Prop :=
  ∀ (pins : List (Addr × Obj)) (s : Shared) (σ : St) (H : Hp) (o i v : V) (ov iv u : Value) (Q : Hp -> Prop), Inv X pins σ H s -> RelV o ov -> RelV i iv -> RelV v u -> t o i v H Q ->
    wpAny (model X.prog X.w) X.A (setItem ov iv u) (fun _ s' => ∃ H', Inv X pins σ H' s' /\ Q H') X.xe s
section
variable {X : Cx} {pos : Pos}
def zCA (i : Nat) : TG := fun v σ H Q => Q (σ.set i (some v)) H
theorem z0J {i : Nat} {x : Str} (hN : X.N.Nodup) (hi : X.N[i]? = some x) (hx : Loc X.env.scope x) (hf : X.fn x = true \/ X.env.scope.names.lookup x = some .local := by first | exact .inl rfl | exact .inr rfl | assumption) : PG X (.Name x pos) (zCA i) := by
  intro pins s σ H v u Q I r h
  exact wpAny_assign_Name (z45 I hN hi hx r (fun s' I' => ⟨_, H, I', h⟩) hf)
def zDr : TGs := fun vs σ H Q => vs = [] /\ Q σ H
def zCx (t : TG) (u : TGs) : TGs := fun vs σ H Q => ∃ v r, vs = v :: r /\ t v σ H fun σ' H' => u r σ' H' Q
theorem z1x : PGs X [] zDr := by
  intro pins s σ H vs us Q I r h
  obtain ⟨e, h⟩ := h
  subst e
  cases r
  exact assignInOrder_nil ⟨σ, H, I, h⟩
theorem z0W {e : Expr} {es : List Expr} {t : TG} {u : TGs} (h1 : PG X e t) (h2 : PGs X es u)
    (hs : (assignEach (e :: es) X.env).map (·.2) = assign e X.env :: (assignEach es X.env).map (·.2) := by rfl) : PGs X (e :: es) (zCx t u) := by
  intro pins s σ H vs us Q I r h
  obtain ⟨v, vr, e1, h⟩ := h
  subst e1
  cases r with
  | cons r rr =>
    rw [hs]
    refine assignInOrder_cons (thn (h1 pins s σ H _ _ _ I r h) fun _ s1 ⟨σ1, H1, I1, q1⟩ => ?_)
    exact h2 pins s1 σ1 H1 _ _ Q I1 rr q1
def zDa (K : PySem.W.Frag) (n : Nat) (t : TGs) : TG := fun v σ H Q => ∃ a xs, v = .ref a /\ SqT K H a xs /\ xs.length = n /\ t xs σ H Q
theorem z4c {es : List Expr} {k : Nat} {t : TGs} {n : Nat} (hc : X.calm = true) (h : PGs X es t)
    (hn : (assignEach es X.env).length = n := by rfl) (hst : (assignEach es X.env).findIdx? (·.1) = none := by rfl) : PG X (.Tuple es k pos) (zDa X.K n t) := by
  intro pins s σ H v u Q I r hw
  obtain ⟨a, xs, e1, hq, hl, hw⟩ := hw
  subst e1
  cases r
  obtain ⟨its, rv, ht, hz⟩ := I.tuple hq
  refine assign_Tuple_tuple (I.ok.hd hc) ht (by simp [hn, <- hl, rv.length]) hst fun h' hx => ?_
  have I1 : Inv X pins σ H { s with heap := h' } := I.kept (t' := s.toks) fun b o e => hx b o (Nat.ne_of_lt (Heap.lt_size e)) e
  exact h pins _ σ H xs _ Q I1 (by simpa using rv) hw
def zDs (to ti : TE) (t : zCw) : TG := fun v σ H Q => to σ H fun o H1 => ti σ H1 fun i H2 => t o i v H2 fun H3 => Q σ H3
theorem zCB {o i : Expr} {to ti : TE} {t : zCw} (ho : PE X o to) (hi : PE X i ti) (hs : zDZ X t)
    (ha : ∀ v, assign (.Subscript o i pos) X.env v = (do
      let ov <- holding [v] (eval o X.env)
      let iv <- holding [v, ov] (eval i X.env)
      standAt pos
      holding [v, ov, iv] (setItem ov iv v)
      release [v, ov, iv] []) := by intro _; rfl) : PG X (.Subscript o i pos) (zDs to ti t) := by
  intro pins s σ H v u Q I r h
  rw [ha]
  refine wpAny_bind (wpAny_holding (thn (ho pins s σ H _ I h) fun ov s1 ⟨x, H1, I1, r1, q1⟩ => ?_))
  refine wpAny_bind (wpAny_holding (thn (hi pins s1 σ H1 _ I1 q1) fun iv s2 ⟨y, H2, I2, r2, q2⟩ => ?_))
  refine wpAny_bind (wpAny_standAt (wpAny_bind (wpAny_holding (thn (hs pins s2 σ H2 x y v ov iv u _ I2 r1 r2 r q2) fun _ s3 ⟨H3, I3, q3⟩ => ?_))))
  exact wpAny_release ⟨σ, H3, I3, q3⟩
def zDb (te : TE) (g : TG) : TS := fun D σ H => te σ H fun x H1 => g x σ H1 D.nx
theorem zCC {tg e : Expr} {te : TE} {g : TG} (he : PE X e te) (hg : PG X tg g) (hs : swapsWithSole [tg] e pos.line X.env = pure false := by rfl) (hw : swappedStores [tg] e X.env = pure none := by rfl)
    (h1 : (assignEach [tg] X.env).map (·.2) = [assign tg X.env] := by rfl) : PS X (.Assign [tg] e pos) (zDb te g) := by
  intro pins s σ H D I h
  refine wpAny_Assign_stores (thn (he pins s σ H _ I h) fun v s1 ⟨x, H1, I1, r1, q1⟩ => ?_) hs hw
  rw [h1]
  exact thn (hg pins s1 σ H1 x v _ I1 r1 q1) fun _ s2 q => q
theorem z0G {i : Nat} {x : Str} {e : Expr} {te : TE} {pos' : Pos} (hN : X.N.Nodup) (hi : X.N[i]? = some x) (hx : Loc X.env.scope x) (he : PE X e te) (hs : swapsWith e (some (.Name x pos')) pos.line X.env = pure false := by rfl) (hf : X.fn x = true \/ X.env.scope.names.lookup x = some .local := by first | exact .inl rfl | exact .inr rfl | assumption) :
    PS X (.Assign [.Name x pos'] e pos) (zDb te (zCA i)) := by
  intro pins s σ H D I h
  refine wpAny_Assign_Name (thn (he pins s σ H _ I h) fun v s1 ⟨y, H1, I1, r1, q1⟩ => ?_) hs
  exact z45 I1 hN hi hx r1 (fun s2 I2 => ⟨_, H1, I2, q1⟩) hf
end
section
variable {X : Cx} {pos : Pos}
end
structure It where
  go : Nat -> Hp -> Prop
  yld : Nat -> Hp -> V -> Hp -> Prop
  stop : Nat -> Hp -> Prop
def z7j (X : Cx) (pins : List (Addr × Obj)) (H : Hp) (b : Addr) : Prop :=
  H b = none /\ b ≠ X.env.locals /\ b ∉ X.fs /\ (b ∈ X.ex \/ X.s₀.heap.objs.size <= b) /\ (∀ x c, X.env.cells.lookup x = some c -> c ≠ b) /\ ∀ p ∈ X.pn ++ pins, p.1 ≠ b
theorem Inv.fpOk {X : Cx} {pins : List (Addr × Obj)} {σ : St} {H H' : Hp} {s : Shared} {b : Addr} (I : Inv X pins σ H s) (hb : s.heap.objs.size <= b) (hn : H' b = none) : z7j X pins H' b := by
  refine ⟨hn, Nat.ne_of_gt (Nat.lt_of_lt_of_le I.lt hb), I.nofs hb, .inr (Nat.le_trans I.sz hb), fun x c e z => ?_, fun p hp z => ?_⟩
  . obtain ⟨v, q⟩ := I.cell x c e
    exact absurd (Nat.lt_of_lt_of_le q.lt (by rw [z]; exact hb)) (Nat.lt_irrefl _)
  . exact absurd (Nat.lt_of_lt_of_le (Heap.lt_size (I.pin p hp).1) (by rw [z]; exact hb)) (Nat.lt_irrefl _)
structure Turn (P : Program) (w : World) (K : PySem.W.Frag) (tg : Expr) (J : It) (fp : List Addr) (it : Addr) (tn : Nat -> Heap -> Prop) : Prop where
  mem : it ∈ fp
  obj : ∀ i h, tn i h -> ∀ b ∈ fp, ∃ o, h.get? b = some o /\ ∀ v, o.data ≠ .cell v
  keep : ∀ i h h', tn i h -> (∀ b ∈ fp, ∀ o, h.get? b = some o -> h'.get? b = some o) -> tn i h'
  item : ∀ (X : Cx), X.prog = P -> X.w = w -> X.K = K -> X.calm = true -> ∀ (i : Nat) (pins : List (Addr × Obj)) (s : Shared) (σ : St) (H : Hp) (E : Value -> Shared -> Prop), Inv X pins σ H s -> (∀ b ∈ fp, z7j X pins H b) -> tn i s.heap -> J.go i H ->
    wpAny (model P w) X.A (pyNext (.ref it)) (fun r s1 => ∃ u, r = some u /\
      wpAny (model P w) X.A (letOwnedTupleGo tg (.ref it) u) (fun _ s2 => ∃ x H', Inv X pins σ H' s2 /\ RelV x u /\ J.yld i H x H' /\ tn (i + 1) s2.heap /\ ∀ b ∈ fp, H' b = none) E s1) E s
  done : ∀ (X : Cx), X.prog = P -> X.w = w -> X.K = K -> X.calm = true -> ∀ (i : Nat) (pins : List (Addr × Obj)) (s : Shared) (σ : St) (H : Hp) (E : Value -> Shared -> Prop), Inv X pins σ H s -> (∀ b ∈ fp, z7j X pins H b) -> tn i s.heap -> J.stop i H ->
    wpAny (model P w) X.A (pyNext (.ref it)) (fun r s1 => r = none /\ Inv X pins σ H s1) E s
  self : ∀ (A : Around) (i : Nat) (s : Shared) (Q : Value -> Shared -> Prop) (E : Value -> Shared -> Prop), tn i s.heap -> Q (.ref it) s -> wpAny (model P w) A (pyIter (.ref it)) Q E s
abbrev TI := St -> Hp -> (It -> Hp -> Prop) -> Prop
def PIE (X : Cx) (pins : List (Addr × Obj)) (σ : St) (tg : Expr) (R : It -> Hp -> Prop) (itv : Value) (s2 : Shared) : Prop :=
  ∃ (it : Addr) (fp : List Addr) (tn : Nat -> Heap -> Prop) (J : It) (H' : Hp), itv = .ref it /\ Inv X pins σ H' s2 /\ Turn X.prog X.w X.K tg J fp it tn /\ tn 0 s2.heap /\ (∀ b ∈ fp, z7j X pins H' b) /\ R J H'
def PI (X : Cx) (tg iter : Expr) (wi : TI) : Prop :=
  ∀ (pins : List (Addr × Obj)) (s : Shared) (σ : St) (H : Hp) (R : It -> Hp -> Prop), Inv X pins σ H s -> wi σ H R ->
    wpAny (model X.prog X.w) X.A (eval iter X.env) (fun v s1 => wpAny (model X.prog X.w) X.A (pyIter v) (PIE X pins σ tg R) X.xe s1) X.xe s
theorem z6y {M : Model} {A : Around} {E : Value -> Shared -> Prop} {s : Shared} {tg : Expr} {it : Addr} {u : Value} {o : Obj} {n : String} {vs : Array Value} {Q : Unit -> Shared -> Prop} (ho : s.heap.get? it = some o) (hc : o.cls = .type n) (hd : o.data = .fields vs)
    (hn : ["enumerate", "zip", "dict_itemiterator", "dict_reverseitemiterator", "odict_iterator", "itertools.zip_longest", "itertools.pairwise"].contains n = false) (hQ : Q () s) : wpAny M A (letOwnedTupleGo tg (.ref it) u) Q E s := by
  unfold letOwnedTupleGo
  cases tg <;> first
    | exact wpAny_pure hQ
    | (cases u <;> first
        | exact wpAny_pure hQ
        | (refine wpAny_bind (wpAny_load ho ?_)
           rw [hc, hd]
           show wpAny M A (if (["enumerate", "zip", "dict_itemiterator", "dict_reverseitemiterator", "odict_iterator", "itertools.zip_longest", "itertools.pairwise"].contains n && vs[0]? == some (rawInt _)) = true then _ else _) Q E s
           rw [if_neg (by intro h; rw [hn, Bool.false_and] at h; cases h)]
           exact wpAny_pure hQ))
def Itl (K : PySem.W.Frag) (a : Addr) : It :=
  ⟨fun i H => ∃ xs x, SqL K H a xs /\ xs[i]? = some x, fun i H x H' => H' = H /\ ∀ xs, SqL K H a xs -> xs[i]? = some x, fun i H => ∃ xs, SqL K H a xs /\ xs.length <= i⟩
def Itt (K : PySem.W.Frag) (a : Addr) : It :=
  ⟨fun i H => ∃ xs x, SqT K H a xs /\ xs[i]? = some x, fun i H x H' => H' = H /\ ∀ xs, SqT K H a xs -> xs[i]? = some x, fun i H => ∃ xs, SqT K H a xs /\ xs.length <= i⟩
def Itr (lo : Int) (n : Nat) : It := ⟨fun i _ => i < n, fun i H x H' => H' = H /\ x = .int (lo + i), fun i _ => n <= i⟩
theorem z7o {P : Program} {w : World} {K : PySem.W.Frag} {tg : Expr} (a it : Addr) : Turn P w K tg (Itl K a) [it] it (fun i h => h.IsListIter it a i) where
  mem := by simp
  obj := fun i h st b hb => by
    have e : b = it := by simpa using hb
    subst e
    obtain ⟨o, e, c, d⟩ := st
    exact ⟨o, e, fun v z => by rw [d] at z; cases z⟩
  keep := fun i h h' st k => st.at fun o e => k it (by simp) o e
  item := by
    intro X hP hw hK hc i pins s σ H E I hf st hg
    subst hP hw hK
    obtain ⟨xs, x, hq, hx⟩ := hg
    obtain ⟨its, rv, p, hz⟩ := I.list hq
    obtain ⟨u, hu, ru⟩ := rv.get hx
    obtain ⟨f0, f1, f2, f3, f4, f5⟩ := hf it (by simp)
    refine wpAny_pyNext_list_item st p.isList (x := u) (by simpa using hu) fun h' st' sb => ?_
    have I1 : Inv X pins σ H { s with heap := h' } := I.turned (t' := s.toks) (fun b o hb e => (sb.2 b hb).trans e) f0 f1 f3 f4 f5
    obtain ⟨o, e, c, d⟩ := id st'
    exact ⟨u, rfl, z6y (s := { s with heap := h' }) e c d (by decide) ⟨x, H, I1, ru, ⟨rfl, fun ys hy => by rw [I.list_inj hy hq]; exact hx⟩, st', fun b hb => (hf b hb).1⟩⟩
  done := by
    intro X hP hw hK hc i pins s σ H E I hf st hg
    subst hP hw hK
    obtain ⟨xs, hq, hx⟩ := hg
    obtain ⟨its, rv, p, hz⟩ := I.list hq
    obtain ⟨f0, f1, f2, f3, f4, f5⟩ := hf it (by simp)
    have hl := rv.length
    exact wpAny_pyNext_list_end (I.ok.hd hc) st p.isList (by simp; omega) fun h' eb => ⟨rfl, I.turned (t' := s.toks) (fun b o hb e => eb b o hb e) f0 f1 f3 f4 f5⟩
  self := fun _ _ _ _ _ st h => wpAny_pyIter_listiter st h
theorem z6z {P : Program} {w : World} {K : PySem.W.Frag} {tg : Expr} (a it : Addr) : Turn P w K tg (Itt K a) [it] it (fun i h => h.IsTupleIter it a i) where
  mem := by simp
  obj := fun i h st b hb => by
    have e : b = it := by simpa using hb
    subst e
    obtain ⟨o, e, c, d⟩ := st
    exact ⟨o, e, fun v z => by rw [d] at z; cases z⟩
  keep := fun i h h' st k => st.at fun o e => k it (by simp) o e
  item := by
    intro X hP hw hK hc i pins s σ H E I hf st hg
    subst hP hw hK
    obtain ⟨xs, x, hq, hx⟩ := hg
    obtain ⟨its, rv, p, hz⟩ := I.tuple hq
    obtain ⟨u, hu, ru⟩ := rv.get hx
    obtain ⟨f0, f1, f2, f3, f4, f5⟩ := hf it (by simp)
    refine wpAny_pyNext_tuple_item st (show s.heap.IsTuple a its.toArray from p) (x := u) (by simpa using hu) fun h' st' sb => ?_
    have I1 : Inv X pins σ H { s with heap := h' } := I.turned (t' := s.toks) (fun b o hb e => (sb.2 b hb).trans e) f0 f1 f3 f4 f5
    obtain ⟨o, e, c, d⟩ := id st'
    exact ⟨u, rfl, z6y (s := { s with heap := h' }) e c d (by decide) ⟨x, H, I1, ru, ⟨rfl, fun ys hy => by rw [I.tuple_inj hy hq]; exact hx⟩, st', fun b hb => (hf b hb).1⟩⟩
  done := by
    intro X hP hw hK hc i pins s σ H E I hf st hg
    subst hP hw hK
    obtain ⟨xs, hq, hx⟩ := hg
    obtain ⟨its, rv, p, hz⟩ := I.tuple hq
    obtain ⟨f0, f1, f2, f3, f4, f5⟩ := hf it (by simp)
    have hl := rv.length
    exact wpAny_pyNext_tuple_end (I.ok.hd hc) st (show s.heap.IsTuple a its.toArray from p) (by simp; omega) fun h' eb => ⟨rfl, I.turned (t' := s.toks) (fun b o hb e => eb b o hb e) f0 f1 f3 f4 f5⟩
  self := fun _ _ _ _ _ st h => wpAny_pyIter_tupleiter st h
theorem z70 {P : Program} {w : World} {K : PySem.W.Frag} {tg : Expr} (it : Addr) (lo : Int) (n : Nat) : Turn P w K tg (Itr lo n) [it] it (fun i h => IsRangeIter h it (lo + (i : Nat) * 1) ((n : Int) - (i : Nat)) 1) where
  mem := by simp
  obj := fun i h st b hb => by
    have e : b = it := by simpa using hb
    subst e
    exact ⟨_, st, fun v z => by
      have z' : Data.fields _ = Data.cell v := z
      cases z'⟩
  keep := fun i h h' st k => k it (by simp) _ st
  item := by
    intro X hP hw hK hc i pins s σ H E I hf st hg
    subst hP hw hK
    obtain ⟨f0, f1, f2, f3, f4, f5⟩ := hf it (by simp)
    have W := Walks.range (prog := X.prog) (w := X.w) (I.ok.hd hc) it lo 1 n
    refine W.item i s _ _ hg st fun v h' tk hv st' kk => ?_
    obtain ⟨t, rfl⟩ := hv
    have I1 : Inv X pins σ H { s with heap := h', toks := tk } := I.turned (fun b o hb e => kk b o (by simpa using hb) e) f0 f1 f3 f4 f5
    refine ⟨_, rfl, z6y (s := { s with heap := h', toks := tk }) (n := "range_iterator") st' rfl rfl (by decide) ⟨.int (lo + i), H, I1, ⟨t, ?_⟩, ⟨rfl, rfl⟩, st', fun b hb => (hf b hb).1⟩⟩
    rw [Int.mul_one]
  done := by
    intro X hP hw hK hc i pins s σ H E I hf st hg
    subst hP hw hK
    obtain ⟨f0, f1, f2, f3, f4, f5⟩ := hf it (by simp)
    exact wpAny_pyNext_range_end (I.ok.hd hc) st (by have : n <= i := hg; omega) fun h' eb => ⟨rfl, I.turned (t' := s.toks) (fun b o hb e => eb b o hb e) f0 f1 f3 f4 f5⟩
  self := fun _ _ _ _ _ st h => wpAny_pyIter_rangeiter st h
section
variable {X : Cx} {tg : Expr}
def zCy (K : PySem.W.Frag) (tl : TE) : TI := fun σ H R => tl σ H fun x H1 => ∃ a, x = .ref a /\ (∃ xs, SqL K H1 a xs) /\ R (Itl K a) H1
def zDt (K : PySem.W.Frag) (tl : TE) : TI := fun σ H R => tl σ H fun x H1 => ∃ a, x = .ref a /\ (∃ xs, SqT K H1 a xs) /\ R (Itt K a) H1
theorem z1h {l : Expr} {tl : TE} (hl : PE X l tl) : PI X tg l (zCy X.K tl) := by
  intro pins s σ H R I h
  refine thn (hl pins s σ H _ I h) fun v s1 ⟨x, H1, I1, r1, q1⟩ => ?_
  obtain ⟨a, e, ⟨xs, hq⟩, q⟩ := q1
  subst e
  cases r1
  obtain ⟨its, rv, p, hz⟩ := I1.list hq
  refine wpAny_pyIter_list p.isList ?_
  refine ⟨s1.heap.objs.size, [s1.heap.objs.size], _, _, H1, rfl, I1.kept (t' := s1.toks) fun b o e => Heap.get?_push_of_some _ e, z7o a _, ⟨_, Heap.get?_push_size _ rfl, rfl, rfl⟩, fun b hb => ?_, q⟩
  have e : b = s1.heap.objs.size := by simpa using hb
  subst e
  exact I1.fpOk (Nat.le_refl _) (I1.hok.fresh (Nat.le_refl _))
theorem zCD {l : Expr} {tl : TE} (hl : PE X l tl) : PI X tg l (zDt X.K tl) := by
  intro pins s σ H R I h
  refine thn (hl pins s σ H _ I h) fun v s1 ⟨x, H1, I1, r1, q1⟩ => ?_
  obtain ⟨a, e, ⟨xs, hq⟩, q⟩ := q1
  subst e
  cases r1
  obtain ⟨its, rv, p, hz⟩ := I1.tuple hq
  refine wpAny_pyIter_tuple (show s1.heap.IsTuple a its.toArray from p) ?_
  refine ⟨s1.heap.objs.size, [s1.heap.objs.size], _, _, H1, rfl, I1.kept (t' := s1.toks) fun b o e => Heap.get?_push_of_some _ e, z6z a _, ⟨_, Heap.get?_push_size _ rfl, rfl, rfl⟩, fun b hb => ?_, q⟩
  have e : b = s1.heap.objs.size := by simpa using hb
  subst e
  exact I1.fpOk (Nat.le_refl _) (I1.hok.fresh (Nat.le_refl _))
theorem z6M {pins : List (Addr × Obj)} {σ : St} {H : Hp} {s : Shared} {R : It -> Hp -> Prop} {E : Value -> Shared -> Prop} {lo hi : Int} {t u v : Tok} {tk : Nat} (I : Inv X pins σ H s) (h1 : -(2 ^ 62) <= lo) (h2 : lo < 2 ^ 62) (h3 : -(2 ^ 62) <= hi) (h4 : hi < 2 ^ 62)
    (q : R (Itr lo (hi - lo).toNat) H) : wpAny (model X.prog X.w) X.A (pyIter (.ref s.heap.objs.size)) (PIE X pins σ tg R) E { s with heap := s.heap.push { cls := .type "range", data := .fields #[.int lo t, .int hi u, .int 1 v] }, toks := tk } := by
  refine wpAny_pyIter_range (IsRange.new ..) (small_one h1 h2 h3 h4) ?_
  have I1 : Inv X pins σ H { s with heap := s.heap.push { cls := .type "range", data := .fields #[.int lo t, .int hi u, .int 1 v] }, toks := tk } := I.kept fun b o e => Heap.get?_push_of_some _ e
  refine ⟨(s.heap.push { cls := .type "range", data := .fields #[.int lo t, .int hi u, .int 1 v] }).objs.size, [(s.heap.push { cls := .type "range", data := .fields #[.int lo t, .int hi u, .int 1 v] }).objs.size], _, _, H, rfl,
    I1.kept (t' := tk) fun b o e => Heap.get?_push_of_some _ e, z70 _ lo (hi - lo).toNat, ?_, fun b hb => ?_, q⟩
  . have e1 : lo + ((0 : Nat) : Int) * 1 = lo := by simp
    have e2 : (((hi - lo).toNat : Nat) : Int) - ((0 : Nat) : Int) = Builtin.Range.rangeSize lo hi 1 := by rw [rangeSize_one]; split <;> omega
    show IsRangeIter _ _ (lo + ((0 : Nat) : Int) * 1) ((((hi - lo).toNat : Nat) : Int) - ((0 : Nat) : Int)) 1
    rw [e1, e2]
    exact Heap.get?_push_size _ rfl
  . have e : b = (s.heap.push { cls := .type "range", data := .fields #[.int lo t, .int hi u, .int 1 v] }).objs.size := by simpa using hb
    subst e
    exact I1.fpOk (Nat.le_refl _) (I1.hok.fresh (Nat.le_refl _))
def zCz (ta : TA) : TI := fun σ H R => ta σ H fun vs H1 => ∃ j : Int, vs = [.int j] /\ -(2 ^ 62) <= j /\ j < 2 ^ 62 /\ R (Itr 0 j.toNat) H1
def zD0 (ta : TA) : TI := fun σ H R => ta σ H fun vs H1 => ∃ i j : Int, vs = [.int i, .int j] /\ (-(2 ^ 62) <= i /\ i < 2 ^ 62 /\ -(2 ^ 62) <= j /\ j < 2 ^ 62) /\ R (Itr i (j - i).toNat) H1
theorem z0U {a : Expr} {ta : TA} {p pos : Pos} (hg : Gl X "range") (hm : X.mg "range" = none) (ha : PA X [a] ta) (hs : starEach [a] X.env = [(false, eval a X.env)] := by rfl) : PI X tg (.Call (.Name "range" p) [a] [] pos) (zCz ta) := by
  intro pins s σ H R I h
  refine Call_ (z1w I hg hm boot_range (PyProof.Rows.callWith_type1 (thn (ha pos pins s σ H _ I h) fun us s1 ⟨vs, H1, I1, r1, q1⟩ => ?_) hs rfl))
  obtain ⟨j, e, q1, q2, q⟩ := q1
  subst e
  cases r1 with
  | cons r rr =>
    cases rr
    obtain ⟨t, rfl⟩ := r
    exact call_range_1 (z6M I1 (by omega) (by omega) q1 q2 (by simpa using q))
theorem z7p {a b : Expr} {ta : TA} {p pos : Pos} (hg : Gl X "range") (hm : X.mg "range" = none) (ha : PA X [a, b] ta) (hs : starEach [a, b] X.env = [(false, eval a X.env), (false, eval b X.env)] := by rfl) (hs2 : starEach [b] X.env = [(false, eval b X.env)] := by rfl) :
    PI X tg (.Call (.Name "range" p) [a, b] [] pos) (zD0 ta) := by
  intro pins s σ H R I h
  refine Call_ (z1w I hg hm boot_range (PyProof.Rows.callWith_type1 (thn (ha pos pins s σ H _ I h) fun us s1 ⟨vs, H1, I1, r1, q1⟩ => ?_) (by rw [hs, hs2]) (by rw [hs2]; rfl)))
  obtain ⟨i, j, e, ⟨q1, q2, q3, q4⟩, q⟩ := q1
  subst e
  cases r1 with
  | cons r rr =>
    cases rr with
    | cons r' rr =>
      cases rr
      obtain ⟨t, rfl⟩ := r
      obtain ⟨t', rfl⟩ := r'
      exact call_range_2 (z6M I1 q1 q2 q3 q4 q)
def zDu (wi : TI) (g : TG) (tb : TS) : TS := fun D σ H => wi σ H fun J H1 => ∃ W : Nat -> Nat -> St -> Hp -> Prop, (∃ m, W 0 m σ H1) /\ ∀ i m σ H, W i m σ H ->
  (J.stop i H /\ D.nx σ H) \/ (J.go i H /\ ∃ N : St -> Hp -> Prop, (∀ σ' H', N σ' H' -> ∃ m', m' < m /\ W (i + 1) m' σ' H') /\ ∀ x H', J.yld i H x H' -> g x σ H' fun σ2 H2 => tb { D with nx := N, ct := N, bk := D.nx } σ2 H2)
def z4d (fp : List Addr) (h : Heap) : List (Addr × Obj) := fp.filterMap fun b => (h.get? b).map fun o => (b, o)
theorem z26 {fp : List Addr} {h : Heap} {b : Addr} {o : Obj} (hb : b ∈ fp) (e : h.get? b = some o) : (b, o) ∈ z4d fp h := List.mem_filterMap.mpr ⟨b, hb, by rw [e]; rfl⟩
theorem z7q {fp : List Addr} {h : Heap} {p : Addr × Obj} (hp : p ∈ z4d fp h) : p.1 ∈ fp /\ h.get? p.1 = some p.2 := by
  obtain ⟨b, hb, e⟩ := List.mem_filterMap.mp hp
  cases q : h.get? b with
  | none => rw [q] at e; cases e
  | some o =>
    rw [q] at e
    have e' : (b, o) = p := Option.some.inj e
    subst e'
    exact ⟨hb, q⟩
theorem Inv.pinned {pins : List (Addr × Obj)} {σ : St} {H : Hp} {s : Shared} {fp : List Addr} (I : Inv X pins σ H s) (hf : ∀ b ∈ fp, z7j X pins H b) (ho : ∀ b ∈ fp, ∃ o, s.heap.get? b = some o /\ ∀ v, o.data ≠ .cell v) : Inv X (pins ++ z4d fp s.heap) σ H s :=
  I.pins_of fun p hp => (List.mem_append.mp hp).elim (fun z => I.pin p (List.mem_append_right _ z)) fun z => by
    obtain ⟨hb, e⟩ := z7q z
    obtain ⟨f0, f1, f2, _⟩ := hf p.1 hb
    obtain ⟨o, e', d⟩ := ho p.1 hb
    rw [e] at e'; cases e'
    exact ⟨e, f0, f1, f2, d⟩
theorem Inv.unpinned {pins pl : List (Addr × Obj)} {σ : St} {H : Hp} {s : Shared} (I : Inv X (pins ++ pl) σ H s) : Inv X pins σ H s := I.pins_of fun p hp => I.pin p (List.mem_append_right _ (List.mem_append_left _ hp))
theorem z16 {iter : Expr} {body : List Stmt} {wi : TI} {g : TG} {tb : TS} {pos : Pos} (hp : PassesOwn (model X.prog X.w) X.A X.env X.xe) (hc : X.calm = true) (hi : PI X tg iter wi) (hg : PG X tg g) (hb : PSs X body tb)
    (hs : ∀ x, foldedSetIterable iter X.env x = pure x := by intro _; rfl) : PS X (.For tg iter body [] pos) (zDu wi g tb) := by
  intro pins s σ H D I h
  refine wpAny_For (thn (hi pins s σ H _ I h) fun v s1 h1 => thn h1 fun itv s2 h2 => ?_) hs
  obtain ⟨it, fp, tn, J, H2, e, I2, T, st2, f2, W, ⟨m0, w0⟩, turn⟩ := h2
  subst e
  have stat : ∀ {H' : Hp}, (∀ b ∈ fp, H' b = none) -> ∀ b ∈ fp, z7j X pins H' b := fun hn b hb => ⟨hn b hb, (f2 b hb).2⟩
  refine codeAny_forLoop_any (fun n s' => ∃ i σ' H', Inv X pins σ' H' s' /\ tn i s'.heap /\ (∀ b ∈ fp, H' b = none) /\ W i n σ' H') ?_ m0 ⟨0, σ, H2, I2, st2, fun b hb => (f2 b hb).1, w0⟩
  rintro n s3 ⟨i, σ3, H3, I3, st3, fr3, w3⟩
  rcases turn i n σ3 H3 w3 with ⟨stop, qn⟩ | ⟨go, N, hN, step⟩
  . refine wpAny_passesOwn hp (thn (T.done X rfl rfl rfl hc i pins s3 σ3 H3 X.xe I3 (stat fr3) st3 stop) fun r s4 ⟨hr, I4⟩ => ?_)
    subst hr
    exact wpAny_execs_nil ⟨σ3, H3, I4, qn⟩
  . refine wpAny_passesOwn hp (thn (T.item X rfl rfl rfl hc i pins s3 σ3 H3 X.xe I3 (stat fr3) st3 go) fun r s4 ⟨u, hr, h4⟩ => ?_)
    subst hr
    refine wpAny_passesOwn hp (thn h4 fun _ s5 ⟨x, H5, I5, r5, y5, st5, fr5⟩ => ?_)
    have I5' := I5.pinned (stat fr5) (T.obj _ _ st5)
    refine wpAny_passesOwn hp (thn (hg _ s5 σ3 H5 x u _ I5' r5 (step x H5 y5)) fun _ s6 ⟨σ6, H6, I6, q6⟩ => ?_)
    refine wpAny_passesOwn hp (thn (hb _ s6 σ6 H6 _ I6 q6) fun f s7 q7 => ?_)
    have again : ∀ {σ7 : St} {H7 : Hp}, Inv X (pins ++ z4d fp s5.heap) σ7 H7 s7 -> N σ7 H7 -> ∃ m, m < n /\ ∃ i σ' H', Inv X pins σ' H' s7 /\ tn i s7.heap /\ (∀ b ∈ fp, H' b = none) /\ W i m σ' H' := fun {σ7 H7} I7 n7 => by
      obtain ⟨m', hm, w7⟩ := hN σ7 H7 n7
      refine ⟨m', hm, i + 1, σ7, H7, I7.unpinned, T.keep _ _ _ st5 fun b hb o e => (I7.pin (b, o) (List.mem_append_right _ (List.mem_append_right _ (z26 hb e)))).1, fun b hb => ?_, w7⟩
      obtain ⟨o, e, d⟩ := T.obj _ _ st5 b hb
      exact (I7.pin (b, o) (List.mem_append_right _ (List.mem_append_right _ (z26 hb e)))).2.1
    cases f with
    | next => obtain ⟨σ7, H7, I7, n7⟩ := q7; exact again I7 n7
    | cont => obtain ⟨σ7, H7, I7, n7⟩ := q7; exact again I7 n7
    | brk => obtain ⟨σ7, H7, I7, q7⟩ := q7; exact ⟨σ7, H7, I7.unpinned, q7⟩
    | ret v => obtain ⟨x7, σ7, H7, I7, r7, q7⟩ := q7; exact ⟨x7, σ7, H7, I7.unpinned, r7, q7⟩
end
theorem z32 {K : PySem.W.Frag} {a : Addr} {xs : List V} {g : TG} {tb : TS} {D : Ends} {σ : St} {H : Hp} (Pv : Nat -> St -> Hp -> Prop) (h0 : Pv 0 σ H) (hl : ∀ i σ H, i <= xs.length -> Pv i σ H -> SqL K H a xs)
    (hs : ∀ i x σ H, xs[i]? = some x -> Pv i σ H -> g x σ H fun σ2 H2 => tb { D with nx := Pv (i + 1), ct := Pv (i + 1), bk := D.nx } σ2 H2) (hd : ∀ σ H, Pv xs.length σ H -> D.nx σ H) :
    ∃ W : Nat -> Nat -> St -> Hp -> Prop, (∃ m, W 0 m σ H) /\ ∀ i m σ H, W i m σ H ->
      ((Itl K a).stop i H /\ D.nx σ H) \/ ((Itl K a).go i H /\ ∃ N : St -> Hp -> Prop, (∀ σ' H', N σ' H' -> ∃ m', m' < m /\ W (i + 1) m' σ' H') /\ ∀ x H', (Itl K a).yld i H x H' -> g x σ H' fun σ2 H2 => tb { D with nx := N, ct := N, bk := D.nx } σ2 H2) := by
  refine ⟨fun i m σ H => m = xs.length - i /\ i <= xs.length /\ Pv i σ H, ⟨xs.length, by simp, Nat.zero_le _, h0⟩, ?_⟩
  rintro i m σ H ⟨rfl, hi, p⟩
  have q := hl i σ H hi p
  by_cases hlt : i < xs.length
  . refine .inr ⟨⟨xs, xs[i], q, by simp [hlt]⟩, Pv (i + 1), fun σ' H' p' => ⟨xs.length - (i + 1), by omega, rfl, hlt, p'⟩, fun x H' y => ?_⟩
    obtain ⟨e, y⟩ := y
    subst e
    exact hs i x σ _ (y xs q) p
  . have e : i = xs.length := by omega
    subst e
    exact .inl ⟨⟨xs, q, Nat.le_refl _⟩, hd σ H p⟩
theorem z0p {lo : Int} {n : Nat} {g : TG} {tb : TS} {D : Ends} {σ : St} {H : Hp} (Pv : Nat -> St -> Hp -> Prop) (h0 : Pv 0 σ H)
    (hs : ∀ i σ H, i < n -> Pv i σ H -> g (.int (lo + i)) σ H fun σ2 H2 => tb { D with nx := Pv (i + 1), ct := Pv (i + 1), bk := D.nx } σ2 H2) (hd : ∀ σ H, Pv n σ H -> D.nx σ H) :
    ∃ W : Nat -> Nat -> St -> Hp -> Prop, (∃ m, W 0 m σ H) /\ ∀ i m σ H, W i m σ H ->
      ((Itr lo n).stop i H /\ D.nx σ H) \/ ((Itr lo n).go i H /\ ∃ N : St -> Hp -> Prop, (∀ σ' H', N σ' H' -> ∃ m', m' < m /\ W (i + 1) m' σ' H') /\ ∀ x H', (Itr lo n).yld i H x H' -> g x σ H' fun σ2 H2 => tb { D with nx := N, ct := N, bk := D.nx } σ2 H2) := by
  refine ⟨fun i m σ H => m = n - i /\ i <= n /\ Pv i σ H, ⟨n, by simp, Nat.zero_le _, h0⟩, ?_⟩
  rintro i m σ H ⟨rfl, hi, p⟩
  by_cases hlt : i < n
  . refine .inr ⟨hlt, Pv (i + 1), fun σ' H' p' => ⟨n - (i + 1), by omega, rfl, hlt, p'⟩, fun x H' y => ?_⟩
    obtain ⟨e, y⟩ := y
    subst e y
    exact hs i σ _ hlt p
  . have e : i = n := by omega
    subst e
    exact .inl ⟨Nat.le_refl _, hd σ H p⟩
abbrev R2 := V -> V -> Hp -> VK -> Prop
def OpR (X : Cx) (f : Value -> Value -> Sem Value) (r : R2) : Prop :=
  ∀ (pins : List (Addr × Obj)) (s : Shared) (σ : St) (H : Hp) (x y : V) (v u : Value) (Q : VK), Inv X pins σ H s -> RelV x v -> RelV y u -> r x y H Q ->
    wpAny (model X.prog X.w) X.A (f v u) (EP X pins σ Q) X.xe s
def UnR (X : Cx) (f : Value -> Sem Value) (r : V -> Hp -> VK -> Prop) : Prop :=
  ∀ (pins : List (Addr × Obj)) (s : Shared) (σ : St) (H : Hp) (x : V) (v : Value) (Q : VK), Inv X pins σ H s -> RelV x v -> r x H Q ->
    wpAny (model X.prog X.w) X.A (f v) (EP X pins σ Q) X.xe s
def z2G (X : Cx) (f : Value) (r : List V -> Hp -> VK -> Prop) : Prop :=
  ∀ (pins : List (Addr × Obj)) (s : Shared) (σ : St) (H : Hp) (xs : List V) (us : List Value) (Q : VK), Inv X pins σ H s -> Vals xs us -> r xs H Q ->
    wpAny (model X.prog X.w) X.A (call f us) (EP X pins σ Q) X.xe s
def tOp (r : R2) (ta tb : TE) : TE := fun σ H Q => ta σ H fun x H1 => tb σ H1 fun y H2 => r x y H2 Q
def tUn (r : V -> Hp -> VK -> Prop) (ta : TE) : TE := fun σ H Q => ta σ H fun x H1 => r x H1 Q
def rI (C : Int -> Int -> Prop) (g : Int -> Int -> V) : R2 := fun x y H Q => ∃ i j, x = .int i /\ y = .int j /\ C i j /\ Q (g i j) H
def rI0 (g : Int -> Int -> V) : R2 := fun x y H Q => ∃ i j, x = .int i /\ y = .int j /\ Q (g i j) H
def rU (g : Int -> V) : V -> Hp -> VK -> Prop := fun x H Q => ∃ i, x = .int i /\ Q (g i) H
section
variable {X : Cx} {a b c : Expr} {ta tb tc : TE} {pos : Pos}
theorem zD1 (ha : PE X a ta) (hb : PE X b tb) {pins : List (Addr × Obj)} {s : Shared} {σ : St} {H : Hp} {R : V -> V -> Hp -> Prop} (I : Inv X pins σ H s)
    (h : ta σ H fun x H1 => tb σ H1 fun y H2 => R x y H2) {Q : Value -> Shared -> Prop} {f : Value -> Value -> Sem Value}
    (hf : ∀ v u s2 x y H2, Inv X pins σ H2 s2 -> RelV x v -> RelV y u -> R x y H2 -> wpAny (model X.prog X.w) X.A (f v u) Q X.xe s2) :
    wpAny (model X.prog X.w) X.A (eval a X.env) (fun v s₁ => wpAny (model X.prog X.w) X.A (eval b X.env) (fun u s₂ => wpAny (model X.prog X.w) X.A (f v u) Q X.xe s₂) X.xe s₁) X.xe s := by
  refine thn (ha pins s σ H _ I h) fun v s1 ⟨x, H1, I1, r1, q1⟩ => ?_
  refine thn (hb pins s1 σ H1 _ I1 q1) fun u s2 ⟨y, H2, I2, r2, q2⟩ => ?_
  exact hf v u s2 x y H2 I2 r1 r2 q2
theorem z0H {op : Operator} {r : R2} (ho : OpR X (binaryOp op) r) (ha : PE X a ta) (hb : PE X b tb) : PE X (.BinOp a op b pos) (tOp r ta tb) := by
  intro pins s σ H Q I h
  exact wpAny_BinOp (zD1 ha hb I h fun v u s2 x y H2 I2 rx ry q => ho pins s2 σ H2 x y v u Q I2 rx ry q)
theorem z46 {op : UnaryOp} {r : V -> Hp -> VK -> Prop} (ho : UnR X (unaryOp op) r) (ha : PE X a ta) : PE X (.UnaryOp op a pos) (tUn r ta) := by
  intro pins s σ H Q I h
  exact UnaryOp_ (thn (ha pins s σ H _ I h) fun v s1 ⟨x, H1, I1, r1, q1⟩ => ho pins s1 σ H1 x v Q I1 r1 q1)
theorem opI {f : Value -> Value -> Sem Value} {C : Int -> Int -> Prop} {g : Int -> Int -> Int}
    (rule : ∀ (i j : Int) (t u : Tok) (s : Shared) (Q : Value -> Shared -> Prop) (E : Value -> Shared -> Prop), C i j -> Q (.int (g i j) s.toks) { s with toks := s.toks + 1 } -> wpAny (model X.prog X.w) X.A (f (.int i t) (.int j u)) Q E s) :
    OpR X f (rI C fun i j => .int (g i j)) := by
  intro pins s σ H x y v u Q I rx ry h
  obtain ⟨i, j, rfl, rfl, hc, q⟩ := h
  obtain ⟨t, rfl⟩ := rx
  obtain ⟨t', rfl⟩ := ry
  exact rule i j t t' s _ _ hc ⟨.int (g i j), H, I.tok _, ⟨_, rfl⟩, q⟩
theorem zCo {f : Value -> Value -> Sem Value} {g : Int -> Int -> Int}
    (rule : ∀ (i j : Int) (t u : Tok) (s : Shared) (Q : Value -> Shared -> Prop) (E : Value -> Shared -> Prop), Q (.int (g i j) s.toks) { s with toks := s.toks + 1 } -> wpAny (model X.prog X.w) X.A (f (.int i t) (.int j u)) Q E s) :
    OpR X f (rI0 fun i j => .int (g i j)) := by
  intro pins s σ H x y v u Q I rx ry h
  obtain ⟨i, j, rfl, rfl, q⟩ := h
  obtain ⟨t, rfl⟩ := rx
  obtain ⟨t', rfl⟩ := ry
  exact rule i j t t' s _ _ ⟨.int (g i j), H, I.tok _, ⟨_, rfl⟩, q⟩
theorem zCp {f : Value -> Value -> Sem Value} {g : Int -> Int -> Bool}
    (rule : ∀ (i j : Int) (t u : Tok) (s : Shared) (Q : Value -> Shared -> Prop) (E : Value -> Shared -> Prop), Q (.bool (g i j)) s -> wpAny (model X.prog X.w) X.A (f (.int i t) (.int j u)) Q E s) :
    OpR X f (rI0 fun i j => .bl (g i j)) := by
  intro pins s σ H x y v u Q I rx ry h
  obtain ⟨i, j, rfl, rfl, q⟩ := h
  obtain ⟨t, rfl⟩ := rx
  obtain ⟨t', rfl⟩ := ry
  exact rule i j t t' s _ _ ⟨.bl (g i j), H, I, rfl, q⟩
def zDv (i j : Int) : Prop := 0 < j /\ j < 1073741824
def zD2 (i j : Int) : Prop := 0 <= j /\ j <= 1000000 /\ i.natAbs < 2 ^ 64
def CMul (i j : Int) : Prop := (-(2 ^ 64) < i /\ i < 2 ^ 64) \/ (-(2 ^ 64) < j /\ j < 2 ^ 64)
theorem CMul.ok {i j : Int} (h : CMul i j) : IntMulOk i j := by
  rcases h with ⟨h1, h2⟩ | ⟨h1, h2⟩
  . exact .of_left (intBits_le_64 h1 h2)
  . exact .of_right (intBits_le_64 h1 h2)
theorem z71 (k : Nat) : (0 : Int) <= 2 ^ k := by
  rw [two_pow_cast]
  exact Int.natCast_nonneg _
theorem z0O : OpR X (binaryOp .Add) (rI0 fun i j => .int (i + j)) := zCo fun _ _ _ _ _ _ _ q => add_int q
theorem z6N : OpR X (binaryOp .Sub) (rI0 fun i j => .int (i - j)) := zCo fun _ _ _ _ _ _ _ q => sub_int q
theorem z1N : OpR X (binaryOp .Mult) (rI CMul fun i j => .int (i * j)) := opI fun _ _ _ _ _ _ _ hc q => mul_int q hc.ok
theorem zB7 : OpR X (binaryOp .FloorDiv) (rI zDv fun i j => .int (i / j)) := opI fun i j _ _ _ _ _ hc q => by
  have h1 : (0 : Int) < j := hc.1
  have h2 : j < 1073741824 := hc.2
  exact floordiv_int (by omega) (by rw [Int.fdiv_eq_ediv_of_nonneg i (by omega)]; exact q) (.inl (PyProof.noPylong_small (by omega)))
theorem z2t : OpR X (binaryOp .Mod) (rI (fun _ j => 0 < j) fun i j => .int (i % j)) := opI fun i j _ _ _ _ _ hc q => by
  have h1 : (0 : Int) < j := hc
  exact mod_int' (by omega) (by rw [Int.fmod_eq_emod_of_nonneg i (by omega)]; exact q)
theorem z6O : OpR X (binaryOp .Pow) (rI zD2 fun i j => .int (i ^ j.toNat)) := opI fun _ _ _ _ _ _ _ hc q => pow_int_small hc.1 hc.2.1 hc.2.2 q
theorem z6P : OpR X (binaryOp .LShift) (rI zD2 fun i j => .int (i * 2 ^ j.toNat)) := opI fun _ _ _ _ _ _ _ hc q => lshift_int_small hc.1 hc.2.1 hc.2.2 q
theorem z7r : OpR X (binaryOp .RShift) (rI (fun _ j => 0 <= j) fun i j => .int (i / 2 ^ j.toNat)) := opI fun i j _ _ _ _ _ hc q =>
  rshift_int hc (by rw [Int.fdiv_eq_ediv_of_nonneg i (z71 _)]; exact q)
theorem z6Q : OpR X (binaryOp .BitAnd) (rI0 fun i j => .int (Builtin.bitAnd i j)) := zCo fun _ _ _ _ _ _ _ q => and_int q
theorem z7s : OpR X (binaryOp .BitOr) (rI0 fun i j => .int (Builtin.bitOr i j)) := zCo fun _ _ _ _ _ _ _ q => or_int q
theorem unI {f : Value -> Sem Value} {g : Int -> Int}
    (rule : ∀ (i : Int) (t : Tok) (s : Shared) (Q : Value -> Shared -> Prop) (E : Value -> Shared -> Prop), Q (.int (g i) s.toks) { s with toks := s.toks + 1 } -> wpAny (model X.prog X.w) X.A (f (.int i t)) Q E s) :
    UnR X f (rU fun i => .int (g i)) := by
  intro pins s σ H x v Q I rx h
  obtain ⟨i, rfl, q⟩ := h
  obtain ⟨t, rfl⟩ := rx
  exact rule i t s _ _ ⟨.int (g i), H, I.tok _, ⟨_, rfl⟩, q⟩
theorem z3G : UnR X (unaryOp .USub) (rU fun i => .int (-i)) := unI fun _ _ _ _ _ q => neg_int q
theorem zAW : UnR X (unaryOp .Invert) (rU fun i => .int (Builtin.bitNot i)) := unI fun _ _ _ _ _ q => invert_int q
end
def zDc : V -> V -> Bool
  | .non, .non => true | .non, .int _ => true | .int _, .non => true | .non, .bl _ => true | .bl _, .non => true | .non, .str _ => true | .str _, .non => true
  | .int _, .int _ => true | .bl _, .bl _ => true | .str _, .str _ => true | .byt _, .byt _ => true
  | .int _, .str _ => true | .str _, .int _ => true | .bl _, .str _ => true | .str _, .bl _ => true
  | _, _ => false
def rEq : R2 := fun x y H Q => zDc x y = true /\ Q (.bl (decide (x = y))) H
def rNe : R2 := fun x y H Q => zDc x y = true /\ Q (.bl (!decide (x = y))) H
theorem z7t {i j : Int} : decide (V.int i = V.int j) = (i == j) := by
  rw [Bool.eq_iff_iff]
  simp
theorem zAX {i j : Bool} : decide (V.bl i = V.bl j) = (i == j) := by
  rw [Bool.eq_iff_iff]
  simp
theorem z7u {i j : Str} : decide (V.str i = V.str j) = (i == j) := by
  rw [Bool.eq_iff_iff]
  simp
theorem z7v {i j : Array UInt8} : decide (V.byt i = V.byt j) = (i.toList == j.toList) := by
  rw [Bool.eq_iff_iff]
  cases i
  cases j
  simp
section
variable {X : Cx} {a b c : Expr} {ta tb tc : TE} {pos : Pos}
theorem z0V {pins : List (Addr × Obj)} {σ : St} {H : Hp} {s : Shared} {Q : VK} {k k' : Bool} (I : Inv X pins σ H s) (q : Q (.bl k) H) (e : k = k') : EP X pins σ Q (.bool k') s := by
  subst e
  exact ⟨.bl k, H, I, rfl, q⟩
theorem z2y : OpR X (compareOp .Eq) rEq := by
  intro pins s σ H x y v u Q I rx ry h
  obtain ⟨hs, q⟩ := h
  cases x with
  | non =>
    cases rx
    cases y with
    | non => cases ry; exact PySem.EqNone.eq_none_none (z0V I q (by simp))
    | bl j => cases ry; exact PySem.EqNone.eq_none_bool (z0V I q (by simp))
    | int j => obtain ⟨t', rfl⟩ := ry; exact PySem.EqNone.eq_none_int (z0V I q (by simp))
    | str j => obtain ⟨t', rfl⟩ := ry; exact PySem.EqNone.eq_none_str (z0V I q (by simp))
    | _ => exact absurd (show false = true from hs) Bool.false_ne_true
  | bl i =>
    cases rx
    cases y with
    | non => cases ry; exact PySem.EqNone.eq_bool_none (z0V I q (by simp))
    | bl j => cases ry; exact eq_bool (z0V I q zAX)
    | str j => obtain ⟨t', rfl⟩ := ry; exact PySem.EqMixed.eq_bool_str (z0V I q (by simp))
    | _ => exact absurd (show false = true from hs) Bool.false_ne_true
  | int i =>
    obtain ⟨t, rfl⟩ := rx
    cases y with
    | non => cases ry; exact PySem.EqNone.eq_int_none (z0V I q (by simp))
    | int j => obtain ⟨t', rfl⟩ := ry; exact eq_int (z0V I q z7t)
    | str j => obtain ⟨t', rfl⟩ := ry; exact PySem.EqMixed.eq_int_str (z0V I q (by simp))
    | _ => exact absurd (show false = true from hs) Bool.false_ne_true
  | str i =>
    obtain ⟨t, rfl⟩ := rx
    cases y with
    | non => cases ry; exact PySem.EqNone.eq_str_none (z0V I q (by simp))
    | bl j => cases ry; exact PySem.EqMixed.eq_str_bool (z0V I q (by simp))
    | int j => obtain ⟨t', rfl⟩ := ry; exact PySem.EqMixed.eq_str_int (z0V I q (by simp))
    | str j => obtain ⟨t', rfl⟩ := ry; exact eq_str (z0V I q z7u)
    | _ => exact absurd (show false = true from hs) Bool.false_ne_true
  | byt i =>
    obtain ⟨t, rfl⟩ := rx
    cases y with
    | byt j => obtain ⟨t', rfl⟩ := ry; exact PySem.W.eq_bytes (z0V I q z7v)
    | _ => exact absurd (show false = true from hs) Bool.false_ne_true
  | _ => cases y <;> exact absurd (show false = true from hs) Bool.false_ne_true
theorem z5Z : OpR X (compareOp .NotEq) rNe := by
  intro pins s σ H x y v u Q I rx ry h
  obtain ⟨hs, q⟩ := h
  cases x with
  | non =>
    cases rx
    cases y with
    | non => cases ry; exact PySem.EqNone.ne_none_none (z0V I q (by simp))
    | bl j => cases ry; exact PySem.EqNone.ne_none_bool (z0V I q (by simp))
    | int j => obtain ⟨t', rfl⟩ := ry; exact PySem.EqNone.ne_none_int (z0V I q (by simp))
    | str j => obtain ⟨t', rfl⟩ := ry; exact PySem.EqNone.ne_none_str (z0V I q (by simp))
    | _ => exact absurd (show false = true from hs) Bool.false_ne_true
  | bl i =>
    cases rx
    cases y with
    | non => cases ry; exact PySem.EqNone.ne_bool_none (z0V I q (by simp))
    | bl j => cases ry; exact ne_bool (z0V I q (congrArg not zAX))
    | str j => obtain ⟨t', rfl⟩ := ry; exact PySem.EqMixed.ne_bool_str (z0V I q (by simp))
    | _ => exact absurd (show false = true from hs) Bool.false_ne_true
  | int i =>
    obtain ⟨t, rfl⟩ := rx
    cases y with
    | non => cases ry; exact PySem.EqNone.ne_int_none (z0V I q (by simp))
    | int j => obtain ⟨t', rfl⟩ := ry; exact ne_int (z0V I q (congrArg not z7t))
    | str j => obtain ⟨t', rfl⟩ := ry; exact PySem.EqMixed.ne_int_str (z0V I q (by simp))
    | _ => exact absurd (show false = true from hs) Bool.false_ne_true
  | str i =>
    obtain ⟨t, rfl⟩ := rx
    cases y with
    | non => cases ry; exact PySem.EqNone.ne_str_none (z0V I q (by simp))
    | bl j => cases ry; exact PySem.EqMixed.ne_str_bool (z0V I q (by simp))
    | int j => obtain ⟨t', rfl⟩ := ry; exact PySem.EqMixed.ne_str_int (z0V I q (by simp))
    | str j => obtain ⟨t', rfl⟩ := ry; exact ne_str (z0V I q (congrArg not z7u))
    | _ => exact absurd (show false = true from hs) Bool.false_ne_true
  | byt i =>
    obtain ⟨t, rfl⟩ := rx
    cases y with
    | byt j => obtain ⟨t', rfl⟩ := ry; exact PySem.W.ne_bytes (z0V I q (congrArg not z7v))
    | _ => exact absurd (show false = true from hs) Bool.false_ne_true
  | _ => cases y <;> exact absurd (show false = true from hs) Bool.false_ne_true
theorem z47 : OpR X (compareOp .Lt) (rI0 fun i j => .bl (decide (i < j))) := zCp fun _ _ _ _ _ _ _ q => lt_int q
theorem z4e : OpR X (compareOp .LtE) (rI0 fun i j => .bl (decide (i <= j))) := zCp fun _ _ _ _ _ _ _ q => le_int q
theorem zB8 : OpR X (compareOp .Gt) (rI0 fun i j => .bl (decide (j < i))) := zCp fun _ _ _ _ _ _ _ q => gt_int q
theorem zB9 : OpR X (compareOp .GtE) (rI0 fun i j => .bl (decide (j <= i))) := zCp fun _ _ _ _ _ _ _ q => ge_int q
theorem z48 : OpR X (compareOp .IsNot) (fun x y H Q => y = .non /\ Q (.bl (!decide (x = .non))) H) := by
  intro pins s σ H x y v u Q I rx ry h
  obtain ⟨rfl, q⟩ := h
  cases ry
  refine isnot_none_gen (z0V I q ?_)
  cases x <;> first
    | (cases rx; rfl)
    | (obtain ⟨t, rfl⟩ := rx; rfl)
theorem z0R (b : Expr) {op : CmpOp} (h : op ≠ .In := by decide) (h2 : op ≠ .NotIn := by decide) : behindInMarks op b = false := by
  have e1 : (op == CmpOp.In) = false := by cases op <;> first | rfl | exact absurd rfl h
  have e2 : (op == CmpOp.NotIn) = false := by cases op <;> first | rfl | exact absurd rfl h2
  cases b <;> simp [behindInMarks, e1, e2]
theorem z1i {op : CmpOp} {r : R2} (ho : OpR X (compareOp op) r) (ha : PE X a ta) (hb : PE X b tb) (hm : behindInMarks op b = false) : PE X (.Compare a [op] [b] pos) (tOp r ta tb) := by
  intro pins s σ H Q I h
  exact wpAny_Compare1 (zD1 ha hb I h fun v u s2 x y H2 I2 rx ry q => ho pins s2 σ H2 x y v u Q I2 rx ry q) hm
def zCE (t : TE) : TT := fun σ H Q => t σ H fun x H' => ∃ k, x = .bl k /\ Q k H'
theorem z0Q {op : CmpOp} {r : R2} (ho : OpR X (compareOp op) r) (ha : PE X a ta) (hb : PE X b tb) (hm : behindInMarks op b = false) : PT X (.Compare a [op] [b] pos) (zCE (tOp r ta tb)) := by
  intro pins s σ H Q I h
  refine wpAny_isTrue_Compare1 (thn (ha pins s σ H _ I h) fun v s1 ⟨x, H1, I1, r1, q1⟩ => thn (hb pins s1 σ H1 _ I1 q1) fun u s2 ⟨y, H2, I2, r2, q2⟩ =>
    thn (ho pins s2 σ H2 x y v u _ I2 r1 r2 q2) fun c s3 ⟨z, H3, I3, r3, k, e, q3⟩ => ?_) hm
  subst e
  cases r3
  exact wpAny_truthy_bool ⟨H3, I3, q3⟩
def zAY (r r' : R2) (ta tb tc : TE) : TE := fun σ H Q => ta σ H fun x H1 => tb σ H1 fun y H2 => r x y H2 fun z H3 => ∃ k, z = .bl k /\
  (if k = true then tc σ H3 fun w' H4 => r' y w' H4 Q else Q (.bl false) H3)
theorem z6R {op op' : CmpOp} {r r' : R2} (ho : OpR X (compareOp op) r) (ho' : OpR X (compareOp op') r') (ha : PE X a ta) (hb : PE X b tb) (hc : PE X c tc)
    (hm : lastMarks [op, op'] [b, c] = false := by with_unfolding_all rfl) : PE X (.Compare a [op, op'] [b, c] pos) (zAY r r' ta tb tc) := by
  intro pins s σ H Q I h
  refine Compare_chain (thn (ha pins s σ H _ I h) fun v s1 ⟨x, H1, I1, r1, q1⟩ => chain_link (thn (hb pins s1 σ H1 _ I1 q1) fun u s2 ⟨y, H2, I2, r2, q2⟩ =>
    thn (ho pins s2 σ H2 x y v u _ I2 r1 r2 q2) fun d s3 ⟨z, H3, I3, r3, k, e, q3⟩ => ?_)) hm
  subst e
  cases r3
  refine wpAny_truthy_bool ?_
  cases k with
  | false => exact ite_ff ⟨.bl false, H3, I3, rfl, q3⟩
  | true => exact ite_tt (chain_last (thn (hc pins s3 σ H3 _ I3 q3) fun w' s4 ⟨z', H4, I4, r4, q4⟩ => ho' pins s4 σ H4 y z' u w' Q I4 r2 r4 q4))
theorem z2R {op op' : CmpOp} {r r' : R2} (ho : OpR X (compareOp op) r) (ho' : OpR X (compareOp op') r') (ha : PE X a ta) (hb : PE X b tb) (hc : PE X c tc)
    (hm : lastMarks [op, op'] [b, c] = false := by with_unfolding_all rfl) : PT X (.Compare a [op, op'] [b, c] pos) (zCE (zAY r r' ta tb tc)) := by
  intro pins s σ H Q I h
  refine isTrue_chain (thn (ha pins s σ H _ I h) fun v s1 ⟨x, H1, I1, r1, q1⟩ => test_link (thn (hb pins s1 σ H1 _ I1 q1) fun u s2 ⟨y, H2, I2, r2, q2⟩ =>
    thn (ho pins s2 σ H2 x y v u _ I2 r1 r2 q2) fun d s3 ⟨z, H3, I3, r3, k, e, q3⟩ => ?_)) hm
  subst e
  cases r3
  refine wpAny_truthy_bool ?_
  cases k with
  | false =>
    obtain ⟨k', e', q'⟩ := q3
    cases e'
    exact ite_ff ⟨H3, I3, q'⟩
  | true =>
    refine ite_tt (test_last (thn (hc pins s3 σ H3 _ I3 q3) fun w' s4 ⟨z', H4, I4, r4, q4⟩ => thn (ho' pins s4 σ H4 y z' u w' _ I4 r2 r4 q4) fun d' s5 ⟨z2, H5, I5, r5, k2, e2, q5⟩ => ?_))
    subst e2
    cases r5
    exact wpAny_truthy_bool ⟨H5, I5, q5⟩
theorem z3k : (sizeLine : Nat) < 2 ^ 63 := by rw [sizeLine_eq]; decide
theorem z2f : OpR X (binaryOp .Add) (fun x y H Q => ∃ i j, x = .str i /\ y = .str j /\ i.length + j.length <= sizeLine /\ Q (.str (i ++ j)) H) := by
  intro pins s σ H x y v u Q I rx ry h
  obtain ⟨i, j, rfl, rfl, hz, q⟩ := h
  obtain ⟨t, rfl⟩ := rx
  obtain ⟨t', rfl⟩ := ry
  exact add_str (fun t' tk => ⟨.str (i ++ j), H, I.tok _, ⟨_, rfl⟩, q⟩) hz
theorem vals1 {x : V} {us : List Value} (r : Vals [x] us) : ∃ u, us = [u] /\ RelV x u := by
  cases r with
  | cons r1 r2 => cases r2; exact ⟨_, rfl, r1⟩
theorem vals2 {x y : V} {us : List Value} (r : Vals [x, y] us) : ∃ u w', us = [u, w'] /\ RelV x u /\ RelV y w' := by
  cases r with
  | cons r1 r2 =>
    cases r2 with
    | cons r3 r4 => cases r4; exact ⟨_, _, rfl, r1, r3⟩
theorem z6S : z2G X (.builtin "ord") (fun xs H Q => ∃ x, xs = [.str x] /\ x.length = 1 /\ Q (.int (x.cps.getD 0 0 : Nat)) H) := by
  intro pins s σ H xs us Q I r h
  obtain ⟨x, rfl, hz, q⟩ := h
  obtain ⟨u, rfl, t, rfl⟩ := vals1 r
  exact ord_of_one hz ⟨.int _, H, I.tok _, ⟨_, rfl⟩, q⟩
end
structure ObjM (h : Heap) (x dx C : Addr) (mA : Str -> Option Value) : Prop where
  obj : h.get? x = some (PySem.W.instObj C dx)
  ns : h.Ns1 dx mA
  ne : dx ≠ x
theorem z7w {h : Heap} {dx : Addr} {mA : Str -> Option Value} (n : h.Ns1 dx mA) : ∃ od, h.get? dx = some od /\ ∀ name, PySem.W.lookIn name od = some (mA name) := by
  obtain ⟨o, es, ep, ho, hd, hk, _, hm⟩ := n
  refine ⟨o, ho, fun name => ?_⟩
  have e := hm name
  unfold nsFind findBy at e
  rw [<- Array.find?_toList] at e
  unfold PySem.W.lookIn
  rw [hd]
  dsimp only
  split
  . rename_i y q
    rw [q] at e
    exact congrArg some e
  . rename_i q
    rw [q] at e
    have a : es.toList.any (·.refKey) = false := by
      rw [List.any_eq_false]
      intro y hy
      obtain ⟨z, t, hkey⟩ := hk y (Array.mem_toList_iff.mp hy)
      simp [DictEntry.refKey, hkey]
    have a' : ¬ es.toList.any (·.refKey) = true := by rw [a]; exact Bool.false_ne_true
    rw [if_neg a']
    exact congrArg some e
theorem ObjM.look {h : Heap} {x dx C : Addr} {mA : Str -> Option Value} (I : ObjM h x dx C mA) : ∃ od, PySem.W.InstAt h x (PySem.W.instObj C dx) C (some od) /\ ∀ name, PySem.W.lookIn name od = some (mA name) :=
  let ⟨od, ho, hl⟩ := z7w I.ns
  ⟨od, ⟨I.obj, rfl, rfl, ho⟩, hl⟩
section
variable {prog : Program} {w : World} {A : Around} {E : Value -> Shared -> Prop} {s : Shared} {K : PySem.W.Frag} {x dx C f : Addr} {mA : Str -> Option Value} {name : Str} {v : Value}
theorem zBA {expr : Bool} {Q : Value -> Shared -> Prop} (X : K.In s.heap) (I : ObjM s.heap x dx C mA) (hg : PySem.W.plainGet K C name = true) (hh : PySem.W.hasDictIn K C = true)
    (ha : PySem.W.findIn K (.ref C) name = some none) (hv : mA name = some v) (hv' : PySem.W.handedIn v = true) (h : Q v { s with toks := s.toks + 1 }) :
    wpAny (model prog w) A (getAttr (.ref x) name expr) Q E s := by
  obtain ⟨od, J, hl⟩ := I.look
  exact PySem.W.get_value X J (PySem.W.plainGet_of hg).1 (PySem.W.findObj_own hh ha rfl (by rw [hl, hv])) hv' h
theorem z9c {pl : Sem Bool} {Q : Value × List Value -> Shared -> Prop} (X : K.In s.heap) (I : ObjM s.heap x dx C mA) (hg : PySem.W.plainGet K C name = true)
    (hf : PySem.W.findIn K (.ref C) name = some (some (.ref f))) (ht : PySem.W.isFn K (.ref f) = true) (hv : mA name = none) (h : Q (.ref f, [.ref x]) s) :
    wpAny (model prog w) A (getMethod (.ref x) name pl) Q E s := by
  obtain ⟨od, J, hl⟩ := I.look
  exact PySem.W.method_fn X J (PySem.W.plainGet_of hg).1 (PySem.W.plainGet_of hg).2 hf (beq_iff_eq.mp ht) (by show (PySem.W.lookIn name od).map (·.isSome) = some false; rw [hl, hv]; rfl) h
theorem zBB {ns : List Str} {Q : Unit -> Shared -> Prop} (X : K.In s.heap) (I : ObjM s.heap x dx C mA)
    (hs : PySem.W.findIn K (.ref C) "__setattr__" = some (some (.builtin "object.__setattr__"))) (hp : PySem.W.plainOver K C = true) (ht : PySem.W.takerIn K C name = some none) (hh : PySem.W.hasDictIn K C = true)
    (hw : PySem.Within mA ns) (hsz : ns.length <= sizeLine)
    (h : ∀ h', ObjM h' x dx C (fun y => if y = name then some v else mA y) -> Heap.SameBut dx s.heap h' -> Q () { s with heap := h', toks := s.toks + 2 }) :
    wpAny (model prog w) A (setAttr (.ref x) name v) Q E s := by
  obtain ⟨od, J, hl⟩ := I.look
  refine PySem.W.set_plain X J hs (PySem.W.osa_open (s := { s with toks := s.toks + 1 }) (r := none) X J hp ht fun b => ?_)
  obtain ⟨cd, hc, hd'⟩ := PySem.W.any_some hh
  have hx : s.heap.get? x = some ⟨.ref C, some dx, .plain, #[]⟩ := I.obj
  refine wpAny_bind (wpAny_pure (wpAny_bind (wpAny_bind (wpAny_loadPart hx (wpAny_bind (PySem.W.Looks.here (s := { s with toks := s.toks + 1 }) (PySem.W.looks_clsIn X hc) ?_))))))
  rw [hd']
  refine wpAny_pure (a := some dx) (wpAny_bind (wpAny_pure (wpAny_bind ?_)))
  refine wpAny_nsSet1 (s := { s with toks := s.toks + 1 }) I.ns fun h' hn2 hs2 => ?_
  obtain ⟨oD, esD, epD, hoD, hdD, hcD⟩ := hn2.count (PySem.Within.cons name v hw)
  refine wpAny_bind (wpAny_lookBehind hoD (by rw [hdD]; exact pastItsLine_dict (Nat.le_trans hcD (by rw [List.length_cons]; omega))) ?_)
  exact wpAny_pure (h _ ⟨(hs2.2 _ (Ne.symm I.ne)).trans I.obj, hn2, I.ne⟩ hs2)
theorem z9d {R : Result -> Shared -> Prop} {vs : List Value} {kw : List (Str × Value)} (X : K.In s.heap) (hm : PySem.W.makesIn K C = true)
    (hi : PySem.W.findIn K (.ref C) "__init__" = some (some (.ref f))) (hf : PySem.W.typeIn K (.ref f) = some (.type "function"))
    (h : codeAny (model prog w) (A.under (.builtin "type.__call__" ⟨.ref C :: vs, kw⟩)) (.call (.ref f) ⟨.ref (s.heap.objs.size + 1) :: vs, kw⟩) (PySem.W.InitBack (s.heap.objs.size + 1) R)
      { s with heap := (s.heap.push PySem.W.emptyDict).push (PySem.W.instObj C s.heap.objs.size) }) :
    codeAny (model prog w) A (.call (.ref C) ⟨vs, kw⟩) R s := by
  obtain ⟨hh, g, d, t, os⟩ := s
  exact PySem.W.make_core (PySem.W.makes_of X hm) (PySem.W.looks_findIn X hi) (fun self => PySem.W.bind_fn X self hf) (.inl rfl) h
end
def z3a (f : Str) (v : V) : List (Str × V) -> List (Str × V)
  | [] => [(f, v)]
  | (g, x) :: r => if g = f then (g, v) :: r else (g, x) :: z3a f v r
theorem z3H (f g : Str) (v : V) : ∀ fs : List (Str × V), (z3a f v fs).lookup g = if g = f then some v else fs.lookup g
  | [] => by
    show List.lookup g [(f, v)] = _
    by_cases h : g = f
    . have hb : (g == f) = true := beq_iff_eq.mpr h
      simp only [List.lookup, hb, if_pos h]
    . have hb : (g == f) = false := beq_eq_false_iff_ne.mpr h
      simp only [List.lookup, hb, if_neg h]
  | (k, x) :: r => by
    have ih := z3H f g v r
    rw [show z3a f v ((k, x) :: r) = (if k = f then (k, v) :: r else (k, x) :: z3a f v r) from rfl]
    by_cases hk : k = f
    . rw [if_pos hk]
      by_cases h : g = k
      . have hb : (g == k) = true := beq_iff_eq.mpr h
        simp only [List.lookup, hb, if_pos (h.trans hk)]
      . have hb : (g == k) = false := beq_eq_false_iff_ne.mpr h
        simp only [List.lookup, hb, if_neg (fun e : g = f => h (e.trans hk.symm))]
    . rw [if_neg hk]
      by_cases h : g = k
      . have hb : (g == k) = true := beq_iff_eq.mpr h
        simp only [List.lookup, hb, if_neg (fun e : g = f => hk (h.symm.trans e))]
      . have hb : (g == k) = false := beq_eq_false_iff_ne.mpr h
        simp only [List.lookup, hb]
        exact ih
theorem z3I (f : Str) (v : V) : ∀ fs : List (Str × V), f ∈ (z3a f v fs).map (·.1) /\ ∀ g, g ∈ fs.map (·.1) -> g ∈ (z3a f v fs).map (·.1)
  | [] => ⟨by simp [z3a], fun g h => by simp at h⟩
  | (k, x) :: r => by
    obtain ⟨i1, i2⟩ := z3I f v r
    rw [show z3a f v ((k, x) :: r) = (if k = f then (k, v) :: r else (k, x) :: z3a f v r) from rfl]
    by_cases hk : k = f
    . rw [if_pos hk]
      subst hk
      exact ⟨by simp, fun g h => by simpa using h⟩
    . rw [if_neg hk]
      refine ⟨?_, fun g h => ?_⟩
      . rw [List.map_cons]
        exact List.mem_cons_of_mem _ i1
      . rw [List.map_cons] at h ⊢
        rcases List.mem_cons.mp h with e | e
        . exact List.mem_cons.mpr (.inl e)
        . exact List.mem_cons_of_mem _ (i2 g e)
theorem z3J (f : Str) (v : V) : ∀ fs : List (Str × V), (z3a f v fs).length <= fs.length + 1
  | [] => by simp [z3a]
  | (k, x) :: r => by
    have ih := z3J f v r
    rw [show z3a f v ((k, x) :: r) = (if k = f then (k, v) :: r else (k, x) :: z3a f v r) from rfl]
    by_cases hk : k = f
    . rw [if_pos hk, List.length_cons, List.length_cons]; omega
    . rw [if_neg hk, List.length_cons, List.length_cons]; omega
theorem RelO.some_of {v : V} {o : Option Value} (r : RelO (some v) o) : ∃ u, o = some u /\ RelV v u := by
  cases o with
  | none => exact (show False from r).elim
  | some u => exact ⟨u, rfl, r⟩
theorem RelO.none_of {o : Option Value} (r : RelO none o) : o = none := by
  cases o with
  | none => rfl
  | some u => exact (show False from r).elim
theorem z4f {v : V} {u : Value} (r : RelV v u) : PySem.W.handedIn u = true := by
  cases v with
  | non => cases (show u = Value.none from r); rfl
  | bl b => cases (show u = Value.bool b from r); rfl
  | int i => obtain ⟨t, e⟩ := (show ∃ t, u = Value.int i t from r); cases e; rfl
  | str x => obtain ⟨t, e⟩ := (show ∃ t, u = Value.str x t from r); cases e; rfl
  | byt b => obtain ⟨t, e⟩ := (show ∃ t, u = Value.bytes b t from r); cases e; rfl
  | flt b => obtain ⟨t, e⟩ := (show ∃ t, u = Value.float b t from r); cases e; rfl
  | ref a => cases (show u = Value.ref a from r); rfl
  | ty n => cases (show u = Value.type n from r); rfl
section
variable {P : Program} {w : World} {H H' : Hp} {h h' : Heap} {a C dx : Addr} {fs fs' : List (Str × V)}
theorem z49 (hok : HOk P w H h) (e : H a = some (.ins C dx fs)) : ∃ mA, ObjM h a dx C mA /\ (∀ f, RelO (fs.lookup f) (mA f)) /\ PySem.Within mA (fs.map (·.1)) /\ fs.length <= 1000 /\ H dx = some (.own a) := by
  obtain ⟨d, z, ne, ob, mA, n, r, q⟩ := (show ObjOk P w H h a (.ins C dx fs) from hok a _ e)
  exact ⟨mA, ⟨ob, n, ne⟩, r, q, z, d⟩
end
structure Cls (K : PySem.W.Frag) (C : Addr) : Prop where
  pg : PySem.W.plainGet K C Str.empty = true
  hd : PySem.W.hasDictIn K C = true
  po : PySem.W.plainOver K C = true
  sa : PySem.W.findIn K (.ref C) "__setattr__" = some (some (.builtin "object.__setattr__"))
theorem Cls.get {K : PySem.W.Frag} {C : Addr} (c : Cls K C) (f : Str) : PySem.W.plainGet K C f = true := c.pg
def NoAttr (K : PySem.W.Frag) (C : Addr) (f : Str) : Prop := PySem.W.findIn K (.ref C) f = some none
theorem NoAttr.taker {K : PySem.W.Frag} {C : Addr} {f : Str} (n : NoAttr K C f) : PySem.W.takerIn K C f = some none := by
  unfold PySem.W.takerIn
  rw [show PySem.W.findIn K (.ref C) f = some none from n]
  rfl
structure Con (K : PySem.W.Frag) (C : Addr) (f : Str) (v : V) (u : Value) : Prop where
  at_ : PySem.W.findIn K (.ref C) f = some (some u)
  rel : RelV v u
  get : PySem.W.specialIn K u "__get__" = some none
  cp : PySem.W.copiedNames.contains f = false
structure Meth (K : PySem.W.Frag) (C : Addr) (m : Str) (f : Addr) : Prop where
  at_ : PySem.W.findIn K (.ref C) m = some (some (.ref f))
  fn : PySem.W.isFn K (.ref f) = true
  kp : PySem.W.keepIn K (.ref f) = true
section
variable {X : Cx} {pins : List (Addr × Obj)} {σ : St} {H : Hp} {s : Shared} {a C dx : Addr} {fs : List (Str × V)} {f : Str} {v : V} {A : Around} {E : Value -> Shared -> Prop}
theorem z72 {b : Bool} {Q : Value -> Shared -> Prop} (I : Inv X pins σ H s) (e : H a = some (.ins C dx fs)) (c : Cls X.K C) (n : NoAttr X.K C f) (l : fs.lookup f = some v)
    (h : ∀ u s', Inv X pins σ H s' -> RelV v u -> Q u s') : wpAny (model X.prog X.w) A (getAttr (.ref a) f b) Q E s := by
  obtain ⟨mA, O, r, _, _, _⟩ := z49 I.hok e
  obtain ⟨u, hu, ru⟩ := RelO.some_of (v := v) (o := mA f) (by rw [<- l]; exact r f)
  exact zBA I.kIn O (c.get f) c.hd n hu (z4f ru) (h u _ (I.tok _) ru)
theorem z3l {m : Str} {g : Addr} {pl : Sem Bool} {Q : Value × List Value -> Shared -> Prop} (I : Inv X pins σ H s) (e : H a = some (.ins C dx fs)) (c : Cls X.K C) (k : Meth X.K C m g) (l : fs.lookup m = none)
    (h : Q (.ref g, [.ref a]) s) : wpAny (model X.prog X.w) A (getMethod (.ref a) m pl) Q E s := by
  obtain ⟨mA, O, r, _, _, _⟩ := z49 I.hok e
  have hn : mA m = none := RelO.none_of (by rw [<- l]; exact r m)
  exact z9c I.kIn O (c.get m) k.at_ k.fn hn h
theorem z73 {y : V} {u : Value} {Q : Unit -> Shared -> Prop} (I : Inv X pins σ H s) (e : H a = some (.ins C dx fs)) (c : Cls X.K C) (n : NoAttr X.K C f) (hl : fs.length < 1000) (ry : RelV y u)
    (h : ∀ s', Inv X pins σ (upd H a (.ins C dx (z3a f y fs))) s' -> Q () s') : wpAny (model X.prog X.w) A (setAttr (.ref a) f u) Q E s := by
  obtain ⟨mA, O, r, wi, _, ho⟩ := z49 I.hok e
  have hz : (fs.map (·.1)).length <= sizeLine := by rw [List.length_map, sizeLine_eq]; omega
  refine zBB I.kIn O c.sa c.po n.taker c.hd wi hz fun h' O' sb => h _ ?_
  have hd : ∃ o, h'.get? dx = some o := let ⟨o, _, _, e', _⟩ := O'.ns; ⟨o, e'⟩
  refine I.write (x := a) (e := dx) (by rw [e]; exact True.intro) (.inr ho) (fun b q hb z => (sb.2 b hb).trans z) hd ?_
  refine ⟨by rw [z07 O.ne]; exact ho, ?_, O.ne, O'.obj, _, O'.ns, fun g => ?_, fun g hg => ?_⟩
  . have := z3J f y fs; omega
  . show RelO ((z3a f y fs).lookup g) (if g = f then some u else mA g)
    rw [z3H]
    by_cases q : g = f
    . rw [if_pos q, if_pos q]; exact ry
    . rw [if_neg q, if_neg q]; exact r g
  . by_cases q : g = f
    . rw [q]; exact (z3I f y fs).1
    . refine (z3I f y fs).2 g (wi g fun z => hg ?_)
      show (if g = f then some u else mA g) = none
      rw [if_neg q]; exact z
theorem Inv.made (I : Inv X pins σ H s) : Inv X pins σ (upd (upd H s.heap.objs.size (.own (s.heap.objs.size + 1))) (s.heap.objs.size + 1) (.ins C s.heap.objs.size []))
    { s with heap := (s.heap.push PySem.W.emptyDict).push (PySem.W.instObj C s.heap.objs.size) } := by
  have e1 : (s.heap.push PySem.W.emptyDict).get? s.heap.objs.size = some PySem.W.emptyDict := Heap.get?_push_size s.heap rfl
  have e2 : ((s.heap.push PySem.W.emptyDict).push (PySem.W.instObj C s.heap.objs.size)).get? (s.heap.objs.size + 1) = some (PySem.W.instObj C s.heap.objs.size) := by
    have := Heap.get?_push_size (s.heap.push PySem.W.emptyDict) (o := PySem.W.instObj C s.heap.objs.size) rfl
    rwa [Heap.size_push] at this
  have e3 : (s.heap.push PySem.W.emptyDict).Ns s.heap.objs.size (fun _ => none) := ⟨PySem.W.emptyDict, #[], _, e1, rfl, (fun e he => absurd he (by simp)), fun _ => rfl⟩
  have I1 := I.laid (a := s.heap.objs.size) (o := .own (s.heap.objs.size + 1)) (h' := s.heap.push PySem.W.emptyDict) (t' := s.toks) (fun b u q => Heap.get?_push_of_some _ q) (Nat.le_refl _) ⟨_, e1⟩
  refine I1.laid (a := s.heap.objs.size + 1) (o := .ins C s.heap.objs.size []) (t' := s.toks) (fun b u q => Heap.get?_push_of_some _ q) (Nat.le_of_eq (Heap.size_push _ _)) ?_
  have ne : s.heap.objs.size ≠ s.heap.objs.size + 1 := Nat.ne_of_lt (Nat.lt_succ_self _)
  refine ⟨by rw [z07 ne, upd_same], Nat.zero_le _, ne, e2, fun _ => none, (Heap.Ns1.of_empty e3).at fun o q => Heap.get?_push_of_some _ q, fun _ => True.intro, fun y hy => absurd rfl hy⟩
theorem z7x {prog : Program} {w : World} {env : Env} {e : Expr} {f : Str} {pos : Pos} {s : Shared} {Q : Value -> Shared -> Prop} (hb : attributeBase e f env (eval e env) = eval e env)
    (h : wpAny (model prog w) A (eval e env) (fun o s₁ => wpAny (model prog w) A (getAttr o f true) Q E s₁) E s) : wpAny (model prog w) A (eval (.Attribute e f pos) env) Q E s :=
  Attribute_any_ h (by rw [arm_eval_Attribute, hb])
end
def zDd (K : PySem.W.Frag) (ta : TE) (f : Str) : TE := fun σ H Q => ta σ H fun x H1 => ∃ a C dx fs v, x = .ref a /\ H1 a = some (.ins C dx fs) /\ Cls K C /\ NoAttr K C f /\ fs.lookup f = some v /\ Q v H1
def zDw (K : PySem.W.Frag) (ta tv : TE) (f : Str) : TS := fun D σ H => tv σ H fun y H1 => ta σ H1 fun x H2 => ∃ a C dx fs, x = .ref a /\ H2 a = some (.ins C dx fs) /\ Cls K C /\ NoAttr K C f /\ fs.length < 1000 /\
  D.nx σ (upd H2 a (.ins C dx (z3a f y fs)))
section
variable {X : Cx} {o e value : Expr} {f : Str} {pos pos' tpos : Pos} {ta tv : TE}
theorem z4g (he : PE X e ta) (hb : attributeBase e f X.env (eval e X.env) = eval e X.env) : PE X (.Attribute e f pos) (zDd X.K ta f) := by
  intro pins s σ H Q I h
  refine z7x hb (thn (he pins s σ H _ I h) fun u s1 ⟨x, H1, I1, rx, a, C, dx, fs, v, ex, ea, c, n, l, q⟩ => ?_)
  subst ex
  obtain rfl : u = Value.ref a := rx
  exact z72 I1 ea c n l fun u' s2 I2 ru => ⟨v, H1, I2, ru, q⟩
theorem z7y (ha : PE X o ta) (hv : PE X value tv) (hs : swapsWith value (some (.Attribute o f pos')) pos.line X.env = pure false) : PS X (.Assign [.Attribute o f pos'] value pos) (zDw X.K ta tv f) := by
  intro pins s σ H D I h
  refine plainObj_wpAny_Assign_Attribute (thn (hv pins s σ H _ I h) fun u s1 ⟨y, H1, I1, ry, q⟩ => thn (ha pins s1 σ H1 _ I1 q) fun ov s2 ⟨x, H2, I2, rx, a, C, dx, fs, ex, ea, c, n, l, q2⟩ => ?_) hs
  subst ex
  obtain rfl : ov = Value.ref a := rx
  exact z73 I2 ea c n l ry fun s3 I3 => ⟨σ, _, I3, q2⟩
end
section
variable {X : Cx} {pins : List (Addr × Obj)} {σ : St} {H : Hp} {s : Shared} {A : Around} {E : Value -> Shared -> Prop} {Q : Value -> Shared -> Prop} {c : Value} {b : Bool}
inductive TyOf (K : PySem.W.Frag) (H : Hp) : V -> Value -> Prop where
  | non : TyOf K H .non (.type "NoneType")
  | bl (x : Bool) : TyOf K H (.bl x) (.type "bool")
  | int (i : Int) : TyOf K H (.int i) (.type "int")
  | str (x : Str) : TyOf K H (.str x) (.type "str")
  | flt (x : UInt64) : TyOf K H (.flt x) (.type "float")
  | lst {a : Addr} {xs : List V} (e : H a = some (.lst xs)) : TyOf K H (.ref a) (.type "list")
  | frz {a : Addr} {o : Obj} {xs : List V} (e : H a = some (.frz o (.lst xs))) : TyOf K H (.ref a) (.type "list")
  | tup {a : Addr} {xs : List V} (e : H a = some (.tup xs)) : TyOf K H (.ref a) (.type "tuple")
  | dK {a : Addr} {kvs : List (Key × V)} (e : H a = some (.dK kvs)) : TyOf K H (.ref a) (.type "dict")
  | dT {a : Addr} {kvs : List (List Key × V)} (e : H a = some (.dT kvs)) : TyOf K H (.ref a) (.type "dict")
  | ins {a C dx : Addr} {fs : List (Str × V)} (e : H a = some (.ins C dx fs)) (cl : Cls K C) (ha : PySem.W.findIn K (.ref C) "__class__" = some (some (.builtin "object.__class__")))
      (hn : PySem.W.specialIn K (.builtin "object.__class__") "__get__" = some (some (.builtin "getset_descriptor.__get__"))) (htk : PySem.W.takesIn K (.builtin "object.__class__") = some true)
      (hm : PySem.W.mroIn K C (.type "object") = some true) : TyOf K H (.ref a) (.ref C)
theorem z7z {x : V} {u t : Value} (I : Inv X pins σ H s) (rx : RelV x u) (ty : TyOf X.K H x t) (e : PySem.W.kitOne X.K t c = some b) (h : ∀ tk, Q (.bool b) { s with toks := tk }) :
    wpAny (model X.prog X.w) A (call (.builtin "isinstance") [u, c]) Q E s := by
  cases ty with
  | non => cases (show u = Value.none from rx); exact PySem.W.kia_one PySem.W.kitx_none I.kIn True.intro e (fun z => nomatch z) h
  | bl y => cases (show u = Value.bool y from rx); exact PySem.W.kia_one PySem.W.kitx_bool I.kIn True.intro e (fun z => nomatch z) h
  | int i => obtain ⟨t, q⟩ := (show ∃ t, u = Value.int i t from rx); cases q; exact PySem.W.kia_one PySem.W.kitx_int I.kIn True.intro e (fun z => nomatch z) h
  | str y => obtain ⟨t, q⟩ := (show ∃ t, u = Value.str y t from rx); cases q; exact PySem.W.kia_one PySem.W.kitx_str I.kIn True.intro e (fun z => nomatch z) h
  | flt y => obtain ⟨t, q⟩ := (show ∃ t, u = Value.float y t from rx); cases q; exact PySem.W.kia_one PySem.W.kitx_float I.kIn True.intro e (fun z => nomatch z) h
  | @lst a xs ea =>
    cases (show u = Value.ref a from rx)
    obtain ⟨_, _, n, _, h1⟩ := (show ObjOk X.prog X.w H s.heap a (.lst xs) from I.hok a _ ea)
    exact PySem.W.kia_one PySem.W.kitx_list I.kIn ⟨_, h1, rfl⟩ e (fun z => nomatch z) h
  | @frz a ob xs ea =>
    cases (show u = Value.ref a from rx)
    obtain ⟨_, _, _, n, _, h1⟩ := (show ObjOk X.prog X.w H s.heap a (.frz ob (.lst xs)) from I.hok a _ ea)
    exact PySem.W.kia_one PySem.W.kitx_list I.kIn ⟨_, h1, rfl⟩ e (fun z => nomatch z) h
  | @tup a xs ea =>
    cases (show u = Value.ref a from rx)
    obtain ⟨_, _, _, p⟩ := (show ObjOk X.prog X.w H s.heap a (.tup xs) from I.hok a _ ea)
    obtain ⟨o, h1, h2, _⟩ := p
    exact PySem.W.kia_one PySem.W.kitx_tuple I.kIn ⟨o, h1, h2⟩ e (fun z => nomatch z) h
  | @dK a kvs ea =>
    cases (show u = Value.ref a from rx)
    obtain ⟨_, _, vs, _, p⟩ := (show ObjOk X.prog X.w H s.heap a (.dK kvs) from I.hok a _ ea)
    obtain ⟨o, es, ep, h1, h2, _⟩ := p
    exact PySem.W.kia_one PySem.W.kitx_dict I.kIn ⟨o, h1, h2.1⟩ e (fun z => nomatch z) h
  | @dT a kvs ea =>
    cases (show u = Value.ref a from rx)
    obtain ⟨_, _, xs, _, o, es, ep, h1, h2, _⟩ := (show ObjOk X.prog X.w H s.heap a (.dT kvs) from I.hok a _ ea)
    exact PySem.W.kia_one PySem.W.kitx_dict I.kIn ⟨o, h1, h2.1⟩ e (fun z => nomatch z) h
  | @ins a C dx fs ea cl ha hn htk hm =>
    cases (show u = Value.ref a from rx)
    obtain ⟨mA, O, _⟩ := z49 I.hok ea
    obtain ⟨od, J, _⟩ := O.look
    exact PySem.W.kia_one (PySem.W.kitx_own (cl.get _) cl.hd ha hn htk hm) I.kIn J e (fun z => nomatch z) h
end
structure Room (k : Nat) (A : Around) : Prop where
  hd : A.handled = none
  dp : A.depth + 3 * k + 5 < recursionLimit
  un : A.units + 16 * k + 200 < cLine
theorem Room.mono {j k : Nat} {A : Around} (r : Room k A) (h : j <= k) : Room j A := ⟨r.hd, by have := r.dp; omega, by have := r.un; omega⟩
theorem Room.deeper {k : Nat} {A : Around} (r : Room (k + 1) A) (env : Env) : Room k (A.deeper env) :=
  ⟨r.hd, by have := r.dp; show A.depth + 1 + 3 * k + 5 < _; omega, by have := r.un; show A.units + 3 + 16 * k + 200 < _; omega⟩
theorem z74 {A : Around} {C : Addr} {us : List Value} {kw : List (Str × Value)} : (A.under (.builtin "type.__call__" ⟨.ref C :: us, kw⟩)).depth = A.depth + 1 := by
  first | rfl | simp [Around.under, Code.weight, Code.isCreation, Code.isGuard, Code.isCaller, Code.frames, Code.isFrame, guardIds]
theorem z75 {A : Around} {C : Addr} {us : List Value} {kw : List (Str × Value)} : (A.under (.builtin "type.__call__" ⟨.ref C :: us, kw⟩)).units = A.units + 1 := by
  first | rfl | simp [Around.under, Code.cUnits, Code.frames, Code.isFrame]
theorem Room.make {k : Nat} {A : Around} (r : Room (k + 1) A) (C : Addr) (us : List Value) (kw : List (Str × Value)) : Room k (A.under (.builtin "type.__call__" ⟨.ref C :: us, kw⟩)) :=
  ⟨r.hd, by have := r.dp; rw [z74]; omega, by have := r.un; rw [z75]; omega⟩
theorem Room.depth {k : Nat} {A : Around} (r : Room k A) : A.depth < recursionLimit := by have := r.dp; omega
theorem Room.units {k : Nat} {A : Around} (r : Room k A) : A.units + 64 < cLine := by have := r.un; omega
def zCF : TA := fun _ H Q => Q [] H
def z9e (ta : TE) (tr : TA) : TA := fun σ H Q => ta σ H fun x H1 => tr σ H1 fun xs H2 => Q (x :: xs) H2
section
variable {X : Cx} {e : Expr} {es : List Expr} {te : TE} {t : TA} {pos : Pos}
theorem z03 : PA X [] zCF := fun _ _ _ _ H Q I h => Calls.spliced_nil ⟨[], H, I, .nil, h⟩
theorem z00 (ha : PE X e te) (hr : PA X es t) (hs : starEach (e :: es) X.env = (false, eval e X.env) :: starEach es X.env := by rfl) : PA X (e :: es) (z9e te t) := by
  intro pos pins s σ H Q I h
  rw [hs]
  show wpAny _ _ (spliced ((false, eval e X.env) :: backTo pos (starEach es X.env))) _ _ s
  refine Calls.spliced_cons (thn (ha pins s σ H _ I h) fun u s1 ⟨x, H1, I1, r1, q1⟩ => ?_)
  exact thn (hr pos pins s1 σ H1 _ I1 q1) fun us s2 ⟨xs, H2, I2, r2, q2⟩ => ⟨x :: xs, H2, I2, .cons r1 r2, q2⟩
def zDx (t : TA) : TE := fun σ H Q => t σ H fun xs H1 => xs.length <= sizeLine /\ ∀ p, H1 p = none -> Q (.ref p) (upd H1 p (.tup xs))
def zDy (t : TA) : TE := fun σ H Q => t σ H fun xs H1 => xs.length <= sizeLine /\ ∀ p, H1 p = none -> Q (.ref p) (upd H1 p (.lst xs))
theorem z1S {x1} (h : PA X es t) : PE X (.Tuple es x1 pos) (zDx t) := by
  intro pins s σ H Q I hq
  refine wpAny_Tuple_spliced (thn (h pos pins s σ H _ I hq) fun us s1 ⟨xs, H1, I1, r, z, q⟩ => ⟨by rw [<- r.length]; exact z, ?_⟩)
  have hf : H1 s1.heap.objs.size = none := I1.hok.fresh (Nat.le_refl _)
  refine ⟨.ref s1.heap.objs.size, upd H1 s1.heap.objs.size (.tup xs), I1.laid (t' := s1.toks) (fun b u e => Heap.get?_push_of_some _ e) (Nat.le_refl _) ?_, rfl, q _ hf⟩
  exact ⟨z, us, r, ⟨_, Heap.get?_push_size _ rfl, rfl, _, rfl⟩⟩
theorem z2C (h : PA X es t) : PE X (.List es pos) (zDy t) := by
  intro pins s σ H Q I hq
  refine wpAny_List_spliced (thn (h pos pins s σ H _ I hq) fun us s1 ⟨xs, H1, I1, r, z, q⟩ => ⟨by rw [<- r.length]; exact z, ?_⟩)
  have hf : H1 s1.heap.objs.size = none := I1.hok.fresh (Nat.le_refl _)
  refine ⟨.ref s1.heap.objs.size, upd H1 s1.heap.objs.size (.lst xs), I1.laid (t' := s1.toks) (fun b u e => Heap.get?_push_of_some _ e) (Nat.le_refl _) ?_, rfl, q _ hf⟩
  exact ⟨z, us, 0, r, Heap.get?_push_size _ rfl⟩
end
abbrev Sp := List V -> Hp -> VK -> XK -> Prop
abbrev CXT := List Env -> Hp -> Shared -> XK -> Value -> Shared -> Prop
structure Env0 (P : Program) (w : World) (K : PySem.W.Frag) (mg : Str -> Option Value) (base : Heap) (A : Around) (outer : List Env) (s : Shared) (H : Hp) : Prop where
  frames : A.frames = some outer
  mod : Mod K mg base
  bs : ∀ b o, base.get? b = some o -> s.heap.get? b = some o /\ H b = none
  bsz : base.objs.size <= s.heap.objs.size
  funs : s.heap.FunFrames base outer
  frf : ∀ b ∈ frs outer, H b = none
  hok : HOk P w H s.heap
  bare : AllBare s.gens
def CE (outer : List Env) (P : Program) (w : World) (H : Hp) (s : Shared) (Q : VK) (u : Value) (s' : Shared) : Prop :=
  ∃ v H', s'.os = s.os /\ AllBare s'.gens /\ Un (frs outer) [] H H' s.heap s'.heap /\ HOk P w H' s'.heap /\ RelV v u /\ Q v H'
def CR (CX : CXT) (outer : List Env) (P : Program) (w : World) (H : Hp) (s : Shared) (Q : VK) (E : XK) (r : Result) (s' : Shared) : Prop :=
  match r with
  | .ok (.ret u) => CE outer P w H s Q u s'
  | .ok _ => False
  | .error e => CX outer H s E e s'
structure FnOk (P : Program) (w : World) (K : PySem.W.Frag) (mg : Str -> Option Value) (base : Heap) (CX : CXT) (k : Nat) (f : Addr) (fd : FuncData) (ps : List Str) (sp : Sp) : Prop where
  len : ∀ vs H Q E, sp vs H Q E -> vs.length = ps.length
  run : ∀ (A : Around) (outer : List Env) (s : Shared) (H : Hp) (args : Args) (us : List Value) (vs : List V) (Q : VK) (E : XK), Room k A -> Env0 P w K mg base A outer s H -> BindsTo s fd args (ps.zip us) -> Vals vs us -> sp vs H Q E ->
    codeAny (model P w) A (.call (.ref f) args) (CR CX outer P w H s Q E) s
theorem Env0.make {P : Program} {w : World} {K : PySem.W.Frag} {mg : Str -> Option Value} {base : Heap} {A : Around} {outer : List Env} {s : Shared} {H : Hp} (e : Env0 P w K mg base A outer s H) (C : Addr) (us : List Value) (kw : List (Str × Value)) :
    Env0 P w K mg base (A.under (.builtin "type.__call__" ⟨.ref C :: us, kw⟩)) outer s H := ⟨by first | exact e.frames | (simpa [Around.under, Code.envs, Code.isFrame, pushEnvs] using e.frames), e.mod, e.bs, e.bsz, e.funs, e.frf, e.hok, e.bare⟩
section
variable {X : Cx} {pins : List (Addr × Obj)} {σ : St} {H : Hp} {s s' : Shared}
theorem Inv.env0 (I : Inv X pins σ H s) : Env0 X.prog X.w X.K X.mg X.base X.A X.stack s H :=
  ⟨I.ok.frames, I.ok.mod, I.bs, Nat.le_trans I.ok.bsz I.sz, I.stack, I.stkFree, I.hok, I.bare⟩
theorem Inv.after {Q : VK} {u : Value} (I : Inv X pins σ H s) (h : CE X.stack X.prog X.w H s Q u s') : EP X pins σ Q u s' := by
  obtain ⟨v, H', os, bare, un, hok, r, q⟩ := h
  obtain ⟨hh, g, d, t, os'⟩ := s'
  obtain rfl : os' = s.os := os
  exact ⟨v, H', I.call (h' := hh) (g' := g) (d' := d) (t' := t) (ch := []) un hok bare (fun b z => absurd z (by simp)), r, q⟩
end
def z76 (sp : Sp) (dvs : List V) (E : XK) (t : TA) : TE := fun σ H Q => t σ H fun vs H1 => sp (vs ++ dvs) H1 Q E
def z9f (C : Addr) (m : Str) (sp : Sp) (dvs : List V) (E : XK) (ta : TE) (t : TA) : TE := fun σ H Q => ta σ H fun x H1 => ∃ a dx fs, x = .ref a /\ H1 a = some (.ins C dx fs) /\ fs.lookup m = none /\
  t σ H1 fun vs H2 => sp (x :: (vs ++ dvs)) H2 Q E
def zCG (C : Addr) (sp : Sp) (dvs : List V) (E : XK) (t : TA) : TE := fun σ H Q => t σ H fun vs H1 => ∀ x dx, H1 x = none -> H1 dx = none -> dx ≠ x ->
  sp (.ref x :: (vs ++ dvs)) (upd (upd H1 dx (.own x)) x (.ins C dx [])) (fun v H2 => v = .non /\ Q (.ref x) H2) E
def Binds (K : PySem.W.Frag) (fd : FuncData) (ps : List Str) (ds : List Value) : Prop :=
  ∀ (s : Shared) (us : List Value), K.In s.heap -> (us ++ ds).length = ps.length -> BindsTo s fd ⟨us, []⟩ (ps.zip (us ++ ds))
theorem Binds.all {K : PySem.W.Frag} {fd : FuncData} {ps : List Str} (h : ∀ us : List Value, us.length = ps.length -> bindArgs fd ⟨us, []⟩ = pure (ps.zip us)) : Binds K fd ps [] := fun s us _ hl => by
  rw [List.append_nil] at hl ⊢
  exact .of_eq (h us hl)
def z1g (CX : CXT) (X : Cx) (E : XK) : Prop := ∀ (pins : List (Addr × Obj)) (σ : St) (H : Hp) (s : Shared) (e : Value) (s' : Shared), Inv X pins σ H s -> CX X.stack H s E e s' -> X.xe e s'
section
variable {X : Cx} {CX : CXT} {k : Nat} {f C : Addr} {fd : FuncData} {ps : List Str} {sp : Sp} {dvs : List V} {ds : List Value} {E : XK} {x m : Str} {p pos apos : Pos} {e o : Expr} {es : List Expr} {ta : TE} {t : TA}
theorem z80 {pins : List (Addr × Obj)} {σ : St} {H : Hp} {s : Shared} {Q : VK} {us : List Value} {vs : List V} (F : FnOk X.prog X.w X.K X.mg X.base CX k f fd ps sp) (hr : Room k X.A) (hb : Binds X.K fd ps ds) (hd : Vals dvs ds) (hx : z1g CX X E)
    (I : Inv X pins σ H s) (r : Vals vs us) (h : sp (vs ++ dvs) H Q E) : wpAny (model X.prog X.w) X.A (call (.ref f) us) (EP X pins σ Q) X.xe s := by
  have r2 : Vals (vs ++ dvs) (us ++ ds) := r.append hd
  have hl : (us ++ ds).length = ps.length := by rw [<- r2.length]; exact F.len _ _ _ _ h
  refine wpAny_call (codeAny_mono (F.run X.A X.stack s H ⟨us, []⟩ (us ++ ds) (vs ++ dvs) Q E hr I.env0 (hb s us I.kIn hl) r2 h) fun r s' hq => ?_)
  cases r with
  | error e => exact hx pins σ H s e s' I hq
  | ok fl =>
    cases fl with
    | ret u => exact I.after hq
    | next => exact False.elim hq
    | brk => exact False.elim hq
    | cont => exact False.elim hq
theorem z4A (F : FnOk X.prog X.w X.K X.mg X.base CX k f fd ps sp) (hr : Room k X.A) (hg : Gl X x) (hm : X.mg x = some (.ref f)) (hk : PySem.W.keepIn X.K (.ref f) = true) (hb : Binds X.K fd ps ds) (hd : Vals dvs ds) (hx : z1g CX X E)
    (ha : PA X (e :: es) t) (hdb : (x == ("__debug__" : Str)) = false := by decide) (he : starEach (e :: es) X.env = (false, eval e X.env) :: starEach es X.env := by rfl) (hpl : (backTo pos (starEach es X.env)).any (·.1) = false := by rfl) :
    PE X (.Call (.Name x p) (e :: es) [] pos) (z76 sp dvs E t) := by
  intro pins s σ H Q I h
  refine wpAny_Call_Name_kw (z1v I hg hm ?_ hdb)
  refine PySem.W.callWith_K (h₀ := X.base) I.ok.mod.kin hk (thn (ha pos pins s σ H _ I h) fun us s1 ⟨vs, H1, I1, r, q⟩ => ⟨I1.kIn, ?_⟩) he hpl
  exact z80 F hr hb hd hx I1 r q
theorem zBC {pl : Sem Bool} (he : PE X o ta) (c : Cls X.K C) (hm : Meth X.K C m f) (F : FnOk X.prog X.w X.K X.mg X.base CX k f fd ps sp) (hr : Room k X.A) (hb : Binds X.K fd ps ds) (hd : Vals dvs ds) (hx : z1g CX X E) (ha : PA X (e :: es) t)
    (hst : starEach (e :: es) X.env = (false, eval e X.env) :: starEach es X.env := by rfl) (hpl : (backTo pos (starEach es X.env)).any (·.1) = false := by rfl)
    (ht : eval (.Call (.Attribute o m apos) (e :: es) [] pos) X.env = (do
      let ov <- eval o X.env
      standAt apos.atName
      let (f, first) <- holding [ov] (getMethod ov m pl)
      callWith pos f first (backTo pos (starEach (e :: es) X.env)) (backToKw pos (keywordEach [] X.env))) := by rfl) :
    PE X (.Call (.Attribute o m apos) (e :: es) [] pos) (z9f C m sp dvs E ta t) := by
  intro pins s σ H Q I h
  refine PySem.W.methodCall_KW (pl := pl) (thn (he pins s σ H _ I h) fun u s1 ⟨x, H1, I1, rx, a, dx, fs, ex, ea, l, q⟩ => ?_) ht
  subst ex
  obtain rfl : u = Value.ref a := rx
  refine z3l I1 ea c hm l ?_
  refine PySem.W.callWith_K (first := [.ref a]) (h₀ := X.base) I.ok.mod.kin hm.kp (thn (ha pos pins s1 σ H1 _ I1 q) fun us s2 ⟨vs, H2, I2, r, q2⟩ => ⟨I2.kIn, ?_⟩) hst hpl
  exact z80 (us := .ref a :: us) (vs := .ref a :: vs) F hr hb hd hx I2 (.cons rfl r) q2
theorem z9g {pl : Sem Bool} (he : PE X o ta) (c : Cls X.K C) (hm : Meth X.K C m f) (F : FnOk X.prog X.w X.K X.mg X.base CX k f fd ps sp) (hr : Room k X.A) (hb : Binds X.K fd ps ds) (hd : Vals dvs ds) (hx : z1g CX X E)
    (ht : eval (.Call (.Attribute o m apos) [] [] pos) X.env = (do
      let ov <- eval o X.env
      standAt apos.atName
      let (f, first) <- holding [ov] (getMethod ov m pl)
      callWith pos f first (backTo pos (starEach [] X.env)) (backToKw pos (keywordEach [] X.env))) := by rfl) :
    PE X (.Call (.Attribute o m apos) [] [] pos) (z9f C m sp dvs E ta zCF) := by
  intro pins s σ H Q I h
  refine PySem.W.methodCall_KW (pl := pl) (thn (he pins s σ H _ I h) fun u s1 ⟨x, H1, I1, rx, a, dx, fs, ex, ea, l, q⟩ => ?_) ht
  subst ex
  obtain rfl : u = Value.ref a := rx
  refine z3l I1 ea c hm l ?_
  exact PySem.W.callWith_K0 (first := [.ref a]) I1.kIn hm.kp (z80 (us := [.ref a]) (vs := [.ref a]) F hr hb hd hx I1 (.cons rfl .nil) q)
structure Mk (K : PySem.W.Frag) (C f : Addr) : Prop where
  makes : PySem.W.makesIn K C = true
  init : PySem.W.findIn K (.ref C) "__init__" = some (some (.ref f))
  fn : PySem.W.isFn K (.ref f) = true
  kp : PySem.W.keepIn K (.ref C) = true
theorem z9h {pins : List (Addr × Obj)} {σ : St} {H : Hp} {s : Shared} {Q : VK} {us : List Value} {vs : List V} (M : Mk X.K C f) (F : FnOk X.prog X.w X.K X.mg X.base CX k f fd ps sp) (hr : Room (k + 1) X.A) (hb : Binds X.K fd ps ds) (hd : Vals dvs ds)
    (hx : z1g CX X E) (I : Inv X pins σ H s) (r : Vals vs us)
    (h : ∀ x dx, H x = none -> H dx = none -> dx ≠ x -> sp (.ref x :: (vs ++ dvs)) (upd (upd H dx (.own x)) x (.ins C dx [])) (fun v H2 => v = .non /\ Q (.ref x) H2) E) :
    wpAny (model X.prog X.w) X.A (call (.ref C) us) (EP X pins σ Q) X.xe s := by
  have hq := h (s.heap.objs.size + 1) s.heap.objs.size (I.hok.fresh (Nat.le_succ _)) (I.hok.fresh (Nat.le_refl _)) (Nat.ne_of_lt (Nat.lt_succ_self _))
  have I2 := Inv.made (C := C) I
  have r2 : Vals (V.ref (s.heap.objs.size + 1) :: (vs ++ dvs)) (Value.ref (s.heap.objs.size + 1) :: (us ++ ds)) := .cons rfl (r.append hd)
  have hl : (Value.ref (s.heap.objs.size + 1) :: us ++ ds).length = ps.length := by
    have e := r2.length
    rw [F.len _ _ _ _ hq] at e
    exact e.symm
  refine wpAny_call (z9d (f := f) I.kIn M.makes M.init (beq_iff_eq.mp M.fn) (codeAny_mono (F.run _ X.stack _ _ ⟨Value.ref (s.heap.objs.size + 1) :: us, []⟩ (Value.ref (s.heap.objs.size + 1) :: (us ++ ds)) _ _ E (hr.make C us [])
    (I2.env0.make C us []) (hb _ (Value.ref (s.heap.objs.size + 1) :: us) I2.kIn hl) r2 hq) fun r s' hq' => ?_))
  cases r with
  | error e => exact hx pins σ _ _ e s' I2 hq'
  | ok fl =>
    cases fl with
    | ret u =>
      obtain ⟨v, H', I3, rv, ev, q3⟩ := I2.after hq'
      subst ev
      exact ⟨rv, ⟨V.ref (s.heap.objs.size + 1), H', I3, rfl, q3⟩⟩
    | next => exact False.elim hq'
    | brk => exact False.elim hq'
    | cont => exact False.elim hq'
theorem zBD (M : Mk X.K C f) (F : FnOk X.prog X.w X.K X.mg X.base CX k f fd ps sp) (hr : Room (k + 1) X.A) (hg : Gl X x) (hm : X.mg x = some (.ref C)) (hb : Binds X.K fd ps ds) (hd : Vals dvs ds) (hx : z1g CX X E)
    (ha : PA X (e :: es) t) (hdb : (x == ("__debug__" : Str)) = false := by decide) (he : starEach (e :: es) X.env = (false, eval e X.env) :: starEach es X.env := by rfl) (hpl : (backTo pos (starEach es X.env)).any (·.1) = false := by rfl) :
    PE X (.Call (.Name x p) (e :: es) [] pos) (zCG C sp dvs E t) := by
  intro pins s σ H Q I h
  refine wpAny_Call_Name_kw (z1v I hg hm ?_ hdb)
  refine PySem.W.callWith_K (h₀ := X.base) I.ok.mod.kin M.kp (thn (ha pos pins s σ H _ I h) fun us s1 ⟨vs, H1, I1, r, q⟩ => ⟨I1.kIn, ?_⟩) he hpl
  exact z9h M F hr hb hd hx I1 r q
end
def PK (X : Cx) (kws : List Keyword) (t : TA) : Prop :=
  ∀ (pos : Pos) (pins : List (Addr × Obj)) (s : Shared) (σ : St) (H : Hp) (Q : List V -> Hp -> Prop), Inv X pins σ H s -> t σ H Q -> wpAny (model X.prog X.w) X.A (evalAll ((backToKw pos (keywordEach kws X.env)).map (·.2))) (AP X pins σ Q) X.xe s
section
variable {X : Cx} {CX : CXT} {k : Nat} {f C : Addr} {fd : FuncData} {ps ks : List Str} {sp : Sp} {E : XK} {x m : Str} {p pos apos kpos : Pos} {e o : Expr} {es : List Expr} {kws : List Keyword} {te ta : TE} {t tk : TA} {nm : Option Str}
theorem zCH : PK X [] zCF := fun _ _ _ _ H Q I h => wpAny_evalAll_nil ⟨[], H, I, .nil, h⟩
theorem zBE (ha : PE X e te) (hr : PK X kws t) : PK X (⟨nm, e, kpos⟩ :: kws) (z9e te t) := by
  intro pos pins s σ H Q I h
  show wpAny _ _ (evalAll ((do let v <- eval e X.env; standAt pos; pure v) :: (backToKw pos (keywordEach kws X.env)).map (·.2))) _ _ s
  refine wpAny_evalAll_cons (wpAny_bind (thn (ha pins s σ H _ I h) fun u s1 ⟨x, H1, I1, r1, q1⟩ => wpAny_bind (wpAny_standAt (wpAny_pure ?_))))
  exact thn (hr pos pins s1 σ H1 _ I1 q1) fun us s2 ⟨xs, H2, I2, r2, q2⟩ => ⟨x :: xs, H2, I2, .cons r1 r2, q2⟩
structure KBinds (K : PySem.W.Frag) (fd : FuncData) (ps ks : List Str) (g : List Value -> List Value -> List Value) (gV : List V -> List V -> List V) : Prop where
  to : ∀ (s : Shared) (us ws : List Value), K.In s.heap -> (g us ws).length = ps.length -> BindsTo s fd ⟨us, ks.zip ws⟩ (ps.zip (g us ws))
  rel : ∀ {vs : List V} {us : List Value} {zs : List V} {ws : List Value}, Vals vs us -> Vals zs ws -> Vals (gV vs zs) (g us ws)
variable {g : List Value -> List Value -> List Value} {gV : List V -> List V -> List V}
end
structure FnScope (N P : List Str) (sc : Scope) : Prop where
  kind : sc.kind = .function
  co : sc.isCoroutine = false
  gen : sc.isGenerator = false
  nd : N.Nodup
  pre : N.take P.length = P
  par : ∀ x ∈ P, sc.names.lookup x = some .local \/ sc.names.lookup x = some .cell
  nofree : ∀ y ∈ sc.names, y.2 ≠ .free
theorem z4h {kindOf : Str -> Option NameKind} {x : Str} : ∀ {binds : List (Str × Value)} {m : Str -> Option Value}, (∀ v, (x, v) ∉ binds) -> bindL kindOf binds m x = m x
  | [], _, _ => rfl
  | (n, v) :: r, m, h => by
    unfold bindL
    rw [z4h fun w hw => h w (List.mem_cons_of_mem _ hw)]
    split
    . have : x ≠ n := by rintro rfl; exact h v List.mem_cons_self
      simp [this]
    . rfl
theorem z4i {kindOf : Str -> Option NameKind} {x : Str} : ∀ {binds : List (Str × Value)} {m : Str -> Option Value}, (∀ v, (x, v) ∉ binds) -> bindC kindOf binds m x = m x
  | [], _, _ => rfl
  | (n, v) :: r, m, h => by
    unfold bindC
    rw [z4i fun w hw => h w (List.mem_cons_of_mem _ hw)]
    split
    . rfl
    . have : x ≠ n := by rintro rfl; exact h v List.mem_cons_self
      simp [this]
theorem z4j {kindOf : Str -> Option NameKind} {x : Str} {v : Value} : ∀ {P : List Str} {vs : List Value} {i : Nat} {m : Str -> Option Value}, P.Nodup -> P[i]? = some x -> vs[i]? = some v -> kindOf x = some .local ->
    bindL kindOf (P.zip vs) m x = some v
  | [], _, _, _, _, h, _, _ => by simp at h
  | _ :: _, [], _, _, _, _, h, _ => by simp at h
  | p :: P, w :: vs, 0, m, nd, h1, h2, hk => by
    simp at h1 h2; subst h1; subst h2
    show bindL kindOf ((p, w) :: P.zip vs) m p = _
    unfold bindL
    rw [z4h fun v hv => (List.nodup_cons.mp nd).1 (List.of_mem_zip hv).1, if_pos hk]
    simp
  | p :: P, w :: vs, i + 1, m, nd, h1, h2, hk => by
    show bindL kindOf ((p, w) :: P.zip vs) m x = _
    unfold bindL
    exact z4j (i := i) (List.nodup_cons.mp nd).2 (by simpa using h1) (by simpa using h2) hk
theorem z4k {kindOf : Str -> Option NameKind} {x : Str} {v : Value} : ∀ {P : List Str} {vs : List Value} {i : Nat} {m : Str -> Option Value}, P.Nodup -> P[i]? = some x -> vs[i]? = some v -> kindOf x ≠ some .local ->
    bindC kindOf (P.zip vs) m x = some v
  | [], _, _, _, _, h, _, _ => by simp at h
  | _ :: _, [], _, _, _, _, h, _ => by simp at h
  | p :: P, w :: vs, 0, m, nd, h1, h2, hk => by
    simp at h1 h2; subst h1; subst h2
    show bindC kindOf ((p, w) :: P.zip vs) m p = _
    unfold bindC
    rw [z4i fun v hv => (List.nodup_cons.mp nd).1 (List.of_mem_zip hv).1, if_neg hk]
    simp
  | p :: P, w :: vs, i + 1, m, nd, h1, h2, hk => by
    show bindC kindOf ((p, w) :: P.zip vs) m x = _
    unfold bindC
    exact z4k (i := i) (List.nodup_cons.mp nd).2 (by simpa using h1) (by simpa using h2) hk
def start (N : List Str) (vs : List V) : St := vs.map some ++ List.replicate (N.length - vs.length) none
def z81 (CX : CXT) (P : Program) (w : World) (K : PySem.W.Frag) (mg : Str -> Option Value) (base : Heap) (N : List Str) (qual : Str) (scope : Scope) (f : Addr) (cd : Value) (A : Around) (outer : List Env) (s : Shared) (H : Hp) (E : XK) : Cx where
  prog := P
  w := w
  K := K
  mg := mg
  base := base
  A := A.deeper (envOfC qual scope s.heap.objs.size f cd)
  N := N
  s₀ := s
  H₀ := H
  env := envOfC qual scope s.heap.objs.size f cd
  outer := outer
  stack := envOfC qual scope s.heap.objs.size f cd :: outer
  ex := []
  calm := true
  fn := fun _ => true
  pn := []
  xe := fun e s' => wpAny (model P w) (A.deeper (envOfC qual scope s.heap.objs.size f cd)) (leaving (envOfC qual scope s.heap.objs.size f cd) e) (fun _ s'' => CX outer H s E e s'') (fun e' s'' => CX outer H s E e' s'') s'
theorem z6T {sc : Scope} {n : Nat} {x : Str} (h : sc.names.lookup x = some .cell) : ∃ c, (cellsFrom n sc.names []).lookup x = some c := by
  have q := PySem.W.cellsFrom_some sc.names n [] (.inl h)
  exact Option.isSome_iff_exists.mp q
theorem z82 {CX : CXT} {P : Program} {w : World} {K : PySem.W.Frag} {mg : Str -> Option Value} {base : Heap} {N ps : List Str} {qual : Str} {scope : Scope} {f : Addr} {cd : Value} {A : Around} {outer : List Env} {s s1 : Shared} {H : Hp} {E : XK} {us : List Value} {vs : List V}
    (S : FnScope N ps scope) (hd : A.handled = none) (e0 : Env0 P w K mg base A outer s H) (hl : vs.length = ps.length) (r : Vals vs us)
    (x : InCallC s s.heap.objs.size (bindL (envOfC qual scope s.heap.objs.size f cd).kindOf (ps.zip us) fun _ => none) (cellsFrom (s.heap.objs.size + 1) scope.names []) (bindC (envOfC qual scope s.heap.objs.size f cd).kindOf (ps.zip us) fun _ => none) s1) :
    Inv (z81 CX P w K mg base N qual scope f cd A outer s H E) [] (start N vs) H s1 := by
  have hpl : ps.length <= N.length := by have := congrArg List.length S.pre; rw [List.length_take] at this; omega
  obtain ⟨h1, tk, rfl, hk⟩ := x.done
  have noA : ∀ b : Addr, b ∉ (z81 CX P w K mg base N qual scope f cd A outer s H E).ex := fun b z => absurd (show b ∈ ([] : List Addr) from z) (by simp)
  refine ⟨⟨e0.mod, S.kind, rfl, rfl, Nat.le_refl _, fun y z c h1 h2 => ?_, fun y hy => ?_, fun y c _ h => ?_, fun _ => hd, Around.frames_deeper e0.frames, .inr ⟨rfl, rfl⟩, fun b z => absurd z (noA b), e0.bs, e0.bsz, fun b _ _ => noA b, fun b z => absurd z (noA b), e0.funs, e0.frf⟩,
    rfl, e0.bare, Un.kept hk, ⟨_, x.toInCall.ns, fun i y v h1 h2 h3 => ?_⟩, fun y c h => ⟨_, x.cell y c h⟩, e0.hok.fresh (Nat.le_refl _), fun y c h => ?_, fun p hp => absurd (show p ∈ ([] : List (Addr × Obj)) from hp) (by simp), e0.hok.kept hk, ?_⟩
  . exact name_of_addr x.apart (PySem.mem_of_lookup h1) (PySem.mem_of_lookup h2)
  . have hy : scope.names.lookup y = some .cell \/ scope.names.lookup y = some .free := hy
    rcases hy with hy | hy
    . exact z6T hy
    . exact absurd rfl (S.nofree _ (PySem.mem_of_lookup hy))
  . exact Nat.le_of_lt (x.above y c (PySem.mem_of_lookup h))
  . have hi : i < vs.length := by
      unfold start at h2
      by_cases hi : i < vs.length
      . exact hi
      . rw [List.getElem?_append_right (by simpa using hi)] at h2
        rw [List.getElem?_replicate] at h2
        split at h2 <;> cases h2
    have ha : vs[i]? = some v := by
      unfold start at h2
      rw [List.getElem?_append_left (by simpa using hi), List.getElem?_map] at h2
      cases e : vs[i]? with
      | none => rw [e] at h2; cases h2
      | some a => rw [e] at h2; cases h2; rfl
    obtain ⟨u, hu, rv⟩ := r.get ha
    have hp : ps[i]? = some y := by
      rw [<- S.pre, List.getElem?_take_of_lt (by omega)]; exact h1
    have ndP : ps.Nodup := by rw [<- S.pre]; exact S.nd.sublist (List.take_sublist _ _)
    refine ⟨u, rv, ?_⟩
    rcases S.par y (List.mem_of_getElem? hp) with k | k
    . exact .inl ⟨k, z4j ndP hp hu k⟩
    . obtain ⟨c, e⟩ := z6T (n := s.heap.objs.size + 1) k
      refine .inr ⟨.inl k, c, e, ?_⟩
      have q := x.cell y c e
      rw [z4k ndP hp hu (by show scope.names.lookup y ≠ _; rw [k]; decide)] at q
      exact q
  . exact e0.hok.fresh (Nat.le_of_lt (x.above y c (PySem.mem_of_lookup h)))
  . unfold start
    show _ = N.length
    rw [List.length_append, List.length_map, List.length_replicate]
    omega
theorem z9i {CX : CXT} {P : Program} {w : World} {K : PySem.W.Frag} {mg : Str -> Option Value} {base : Heap} {k : Nat} {f : Addr} {name qual : Str} {params : Arguments} {body : List Stmt} {scope : Scope} {dV kV doc pm cdv ct oc : Value} {an od : Option Addr}
    {osl : Array (Option Value)} {N ps : List Str} {sp : Sp} (lk : K.lookup f = some ⟨oc, od, .func (PySem.W.fnOf name qual params body scope dV kV doc pm an cdv ct), osl⟩) (hcd : PySem.W.codeIn K cdv qual = true) (S : FnScope N ps scope)
    (len : ∀ vs H Q E, sp vs H Q E -> vs.length = ps.length)
    (hbody : ∀ (A : Around) (outer : List Env) (s : Shared) (H : Hp) (vs : List V) (Q : VK) (E : XK), Room k (A.deeper (envOfC qual scope s.heap.objs.size f cdv)) -> sp vs H Q E ->
      ∃ t, PSs (z81 CX P w K mg base N qual scope f cdv A outer s H E) body t /\ t { nx := fun _ H' => Q .non H', rt := Q } (start N vs) H) :
    FnOk P w K mg base CX (k + 1) f (PySem.W.fnOf name qual params body scope dV kV doc pm an cdv ct) ps sp := by
  refine ⟨len, fun A outer s H args us vs Q E hr e0 hb r hsp => ?_⟩
  have hl := len _ _ _ _ hsp
  have KX : K.In s.heap := e0.mod.kin.keeps fun b o e => (e0.bs b o e).1
  have lim : s.heap.NoLimit := e0.mod.nolimit.keeps fun b o e => (e0.bs b o e).1
  have hkind : ∀ y ∈ ps.zip us, scope.names.lookup y.1 = some .local \/ (scope.names.lookup y.1 = some .cell /\ ((cellsFrom (s.heap.objs.size + 1) scope.names []).lookup y.1).isSome = true) := fun ⟨n, v⟩ hy => by
    rcases S.par n (List.of_mem_zip hy).1 with q | q
    . exact .inl q
    . exact .inr ⟨q, PySem.W.cellsFrom_some _ _ _ (.inl q)⟩
  refine codeAny_call_function hr.depth (KX _ _ lk) rfl S.co S.gen rfl (PySem.W.codeRec_of KX hcd) (hb _ _ _ _ ?_)
  refine wpAny_newFunctionEnv_cells S.kind hkind fun env he s1 x => ?_
  subst he
  refine ⟨lim.keeps x.toInCall.keep, codeAny_func ?_⟩
  obtain ⟨t, ht, hq⟩ := hbody A outer s H vs Q E (hr.deeper _) hsp
  have I : Inv (z81 CX P w K mg base N qual scope f cdv A outer s H E) [] (start N vs) H s1 := z82 S hr.hd e0 hl r x
  refine wpAny_mono (ht [] s1 (start N vs) H _ I hq) (fun fl s' hs => ?_) fun e s' hs => hs
  have fin : ∀ {σ' : St} {H' : Hp} {v : V} {u : Value}, Inv (z81 CX P w K mg base N qual scope f cdv A outer s H E) [] σ' H' s' -> RelV v u -> Q v H' -> CE outer P w H s Q u s' :=
    fun {σ' H' v u} J rv q => ⟨v, H', J.os, J.bare, J.base, J.hok, rv, q⟩
  cases fl with
  | ret u =>
    obtain ⟨v, σ', H', J, rv, q⟩ := hs
    exact fin J rv q
  | next =>
    obtain ⟨σ', H', J, q⟩ := hs
    exact fin (v := V.non) (u := Value.none) J rfl q
  | brk =>
    obtain ⟨_, _, _, q⟩ := hs
    exact False.elim q
  | cont =>
    obtain ⟨_, _, _, q⟩ := hs
    exact False.elim q
section
variable {X : Cx} {x : Str} {p pos : Pos} {e : Expr} {es : List Expr} {t : TA} {id T : String} {r : List V -> Hp -> VK -> Prop}
def tCB (r : List V -> Hp -> VK -> Prop) (t : TA) : TE := fun σ H Q => t σ H fun vs H1 => r vs H1 Q
theorem z09 (hc : z2G X (.builtin id) r) (hg : Gl X x) (hm : X.mg x = none) (hv : bootBuiltins x = some (.builtin id)) (ha : PA X (e :: es) t) (hn : x ≠ "__name__" := by decide) (hdb : (x == ("__debug__" : Str)) = false := by decide)
    (he : starEach (e :: es) X.env = (false, eval e X.env) :: starEach es X.env := by rfl) (hpl : (backTo pos (starEach es X.env)).any (·.1) = false := by rfl) : PE X (.Call (.Name x p) (e :: es) [] pos) (tCB r t) := by
  intro pins s σ H Q I h
  refine wpAny_Call_Name_kw (z1w I hg hm hv ?_ hn hdb)
  exact PyProof.Rows.callWith_builtin1 (thn (ha pos pins s σ H _ I h) fun us s1 ⟨vs, H1, I1, r1, q1⟩ => hc pins s1 σ H1 vs us Q I1 r1 q1) he hpl
theorem z0q (hc : z2G X (.type T) r) (hg : Gl X x) (hm : X.mg x = none) (hv : bootBuiltins x = some (.type T)) (ha : PA X (e :: es) t) (hn : x ≠ "__name__" := by decide) (hdb : (x == ("__debug__" : Str)) = false := by decide)
    (he : starEach (e :: es) X.env = (false, eval e X.env) :: starEach es X.env := by rfl) (hpl : (backTo pos (starEach es X.env)).any (·.1) = false := by rfl) : PE X (.Call (.Name x p) (e :: es) [] pos) (tCB r t) := by
  intro pins s σ H Q I h
  refine wpAny_Call_Name_kw (z1w I hg hm hv ?_ hn hdb)
  exact PyProof.Rows.callWith_type1 (thn (ha pos pins s σ H _ I h) fun us s1 ⟨vs, H1, I1, r1, q1⟩ => hc pins s1 σ H1 vs us Q I1 r1 q1) he hpl
end
end L2
namespace HT
open PySem PyProof.Rows
section
open PySem.SeqAt
open PySem.AutoSeq1 (wpAny_loadPart')
open PySem.MeetsSeq PySem.MeetsSeq2 PySem.MeetsSeq3
end
section
variable {prog : Program} {w : World} {A : Around} {E : Value -> Shared -> Prop} {s : Shared}
theorem cat_tup {t b : Addr} {vs ws : List Value} {Q : Value -> Shared -> Prop} (ht : IsTup s.heap t vs.toArray) (hb : IsTup s.heap b ws.toArray) (hv : vs ≠ [])
    (h1 : ws = [] -> Q (.ref t) s) (h2 : ws ≠ [] -> Q (.ref s.heap.objs.size) { s with heap := s.heap.push { cls := .type "tuple", data := .seq (vs ++ ws).toArray } })
    (hsz : vs.length + ws.length <= sizeLine) : wpAny (model prog w) A (binaryOp .Add (.ref t) (.ref b)) Q E s := by
  obtain ⟨⟨cls, dd, data, sl⟩, ho, hc, n, hd⟩ := id ht
  obtain ⟨⟨cls2, dd2, data2, sl2⟩, ho2, hc2, n2, hd2⟩ := id hb
  simp only at hc hd hc2 hd2
  subst hc hd hc2 hd2
  have e : vs.toArray ++ ws.toArray = (vs ++ ws).toArray := by simp
  by_cases hw : ws = []
  . exact concat_meets ⟨_, ho, rfl⟩ ⟨_, ho2, rfl⟩ noFill_tuple_add seq_tuple_add PySem.F.slot_tuple_add PySem.F.entry_tuple_add (PySem.F.args_tuple_add_2 _ _)
      (tuple_addW1 t b vs.toArray ws.toArray n n2 dd dd2 sl sl2 (by simpa using hv) (by simp [hw])) ⟨ho, ho2, h1 hw⟩
  . refine concat_meets ⟨_, ho, rfl⟩ ⟨_, ho2, rfl⟩ noFill_tuple_add seq_tuple_add PySem.F.slot_tuple_add PySem.F.entry_tuple_add (PySem.F.args_tuple_add_2 _ _)
      (tuple_addW2 t b vs.toArray ws.toArray n n2 dd dd2 sl sl2 (by simpa using hv) (by simpa using hw) (by rw [List.size_toArray, List.size_toArray]; exact hsz)) ⟨ho, ho2, ?_⟩
    rw [e]
    exact h2 hw
def sIx (n d : Nat) : Option Int -> Nat
  | none => d
  | some v => if v < 0 then (v + (n : Int)).toNat else min v.toNat n
theorem sIx_le (n d : Nat) (hd : d <= n) (o : Option Int) : sIx n d o <= n := by
  cases o with
  | none => exact hd
  | some v =>
    show (if v < 0 then (v + (n : Int)).toNat else min v.toNat n) <= n
    by_cases hv : v < 0
    . rw [if_pos hv]; omega
    . rw [if_neg hv]; exact Nat.min_le_right _ _
end
end HT
namespace L2
open PySem PySem.Spec PyProof.Rows
abbrev TO := St -> Hp -> (Option Int -> Hp -> Prop) -> Prop
def PO (X : Cx) (e : Option Expr) (t : TO) : Prop :=
  ∀ (pins : List (Addr × Obj)) (s : Shared) (σ : St) (H : Hp) (Q : Option Int -> Hp -> Prop), Inv X pins σ H s -> t σ H Q ->
    wpAny (model X.prog X.w) X.A (evalPart e X.env) (fun u s' => ∃ o H', Inv X pins σ H' s' /\ IsPart u o /\ Q o H') X.xe s
def zBF : TO := fun _ H Q => Q none H
def zD3 (t : TE) : TO := fun σ H Q => t σ H fun x H1 => ∃ i, x = .int i /\ Q (some i) H1
section
variable {X : Cx} {e : Expr} {te : TE} {lo hi : Option Expr} {tl th : TO} {pos p2 : Pos}
theorem z83 : PO X none zBF := by
  intro pins s σ H Q I h
  rw [evalPart_none]
  exact wpAny_pure ⟨none, H, I, .none, h⟩
theorem z84 (h : PE X e te) : PO X (some e) (zD3 te) := by
  intro pins s σ H Q I hw
  rw [evalPart_some]
  refine thn (h pins s σ H _ I hw) fun u s1 ⟨x, H1, I1, r1, q1⟩ => ?_
  obtain ⟨i, rfl, q⟩ := q1
  obtain ⟨t, rfl⟩ := r1
  exact ⟨some i, H1, I1, .int i t, q⟩
def SlR (X : Cx) (r : V -> Option Int -> Option Int -> Hp -> VK -> Prop) : Prop :=
  ∀ (pins : List (Addr × Obj)) (s : Shared) (σ : St) (H : Hp) (x : V) (v vl vu : Value) (lo hi : Option Int) (sl : Addr) (Q : VK), Inv X pins σ H s -> RelV x v -> s.heap.IsSliceOf sl vl vu .none -> IsPart vl lo -> IsPart vu hi -> r x lo hi H Q ->
    ∃ T id, typeLookup (.type T) "__getitem__" = pure (some (.builtin id)) /\ s.TypeIs v T /\ wpAny (model X.prog X.w) X.A (getItem v (.ref sl)) (EP X pins σ Q) X.xe s
def tSl (r : V -> Option Int -> Option Int -> Hp -> VK -> Prop) (te : TE) (tl th : TO) : TE := fun σ H Q => te σ H fun x H1 => tl σ H1 fun l H2 => th σ H2 fun u H3 => r x l u H3 Q
theorem z6U {r : V -> Option Int -> Option Int -> Hp -> VK -> Prop} (hr : SlR X r) (he : PE X e te) (hl : PO X lo tl) (hu : PO X hi th) : PE X (.Subscript e (.Slice lo hi none p2) pos) (tSl r te tl th) := by
  intro pins s σ H Q I h
  refine Subscript_ (thn (he pins s σ H _ I h) fun v s1 ⟨x, H1, I1, r1, q1⟩ => ?_)
  refine wpAny_Slice (thn (hl pins s1 σ H1 _ I1 q1) fun vl s2 ⟨l, H2, I2, pl, q2⟩ => thn (hu pins s2 σ H2 _ I2 q2) fun vu s3 ⟨u, H3, I3, pu, q3⟩ => ?_)
  rw [evalPart_none]
  refine wpAny_pure ?_
  have I4 : Inv X pins σ H3 { s3 with heap := s3.heap.push { cls := .type "slice", data := .fields #[vl, vu, .none] } } := I3.kept (t' := s3.toks) fun b ob q => Heap.get?_push_of_some _ q
  obtain ⟨T, id, hT, ht, hg⟩ := hr pins { s3 with heap := s3.heap.push { cls := .type "slice", data := .fields #[vl, vu, .none] } } σ H3 x v vl vu l u s3.heap.objs.size Q I4 r1 (Heap.IsSliceOf.new ..) pl pu q3
  show wpAny (model X.prog X.w) X.A (subscriptTail e (.Slice lo hi none p2) v (.ref s3.heap.objs.size)) (EP X pins σ Q) X.xe { s3 with heap := s3.heap.push { cls := .type "slice", data := .fields #[vl, vu, .none] } }
  exact tail_any (ops := [.ref s3.heap.objs.size, v]) ht hT hg (by with_unfolding_all rfl)
def zD4 (K : PySem.W.Frag) : R2 := fun x y H Q => ∃ a b xs ys, x = .ref a /\ y = .ref b /\ SqT K H a xs /\ SqT K H b ys /\ xs ≠ [] /\ xs.length + ys.length <= sizeLine /\
  (ys = [] -> Q (.ref a) H) /\ (ys ≠ [] -> ∀ p, H p = none -> Q (.ref p) (upd H p (.tup (xs ++ ys))))
theorem Vals.nil_iff {xs : List V} {us : List Value} (r : Vals xs us) : us = [] ↔ xs = [] := by
  cases r with
  | nil => simp
  | cons _ _ => simp
theorem zBG : OpR X (binaryOp .Add) (zD4 X.K) := by
  intro pins s σ H x y v u Q I rx ry h
  obtain ⟨a, b, xs, ys, rfl, rfl, ha, hb, hx, hz, q1, q2⟩ := h
  cases rx
  cases ry
  obtain ⟨its, r1, p1, _⟩ := I.tuple ha
  obtain ⟨its2, r2, p2, _⟩ := I.tuple hb
  refine HT.cat_tup p1 p2 (fun z => hx (r1.nil_iff.mp z)) (fun z => ⟨.ref a, H, I, rfl, q1 (r2.nil_iff.mp z)⟩) (fun z => ?_) (by rw [<- r1.length, <- r2.length]; exact hz)
  refine ⟨.ref s.heap.objs.size, _, I.laid (t' := s.toks) (o := .tup (xs ++ ys)) (fun b ob q => Heap.get?_push_of_some _ q) (Nat.le_refl _) ?_, rfl, q2 (fun w => z (r2.nil_iff.mpr w)) _ (I.hok.fresh (Nat.le_refl _))⟩
  exact ⟨by rw [List.length_append]; exact hz, _, r1.append r2, IsTup.new _ _⟩
end
def ixN (n : Nat) (i : Int) : Option Nat := if 0 <= i then (if i < n then some i.toNat else none) else if -(n : Int) <= i then some (i + n).toNat else none
def atI {α : Type} (xs : List α) (i : Int) : Option α := (ixN xs.length i).bind fun j => xs[j]?
theorem z85 {n : Nat} {i : Int} {j : Nat} (h : ixN n i = some j) : seqIndex? i n = some j /\ j < n /\ -(n : Int) <= i /\ i < n := by
  unfold ixN at h
  by_cases h0 : 0 <= i
  . rw [if_pos h0] at h
    by_cases h1 : i < n
    . rw [if_pos h1] at h
      have e : i.toNat = j := Option.some.inj h
      exact ⟨by rw [seqIndex_of h0 h1, e], by omega, by omega, h1⟩
    . rw [if_neg h1] at h; cases h
  . rw [if_neg h0] at h
    by_cases h1 : -(n : Int) <= i
    . rw [if_pos h1] at h
      have e : (i + n).toNat = j := Option.some.inj h
      exact ⟨by rw [seqIndex_neg (by omega) h1, e], by omega, h1, by omega⟩
    . rw [if_neg h1] at h; cases h
theorem z5a {α : Type} {xs : List α} {i : Int} {v : α} (h : atI xs i = some v) : ∃ j, seqIndex? i xs.length = some j /\ xs[j]? = some v /\ j < xs.length /\ -(xs.length : Int) <= i /\ i < xs.length := by
  unfold atI at h
  cases e : ixN xs.length i with
  | none => rw [e] at h; cases h
  | some j =>
    rw [e] at h
    obtain ⟨h1, h2, h3, h4⟩ := z85 e
    exact ⟨j, h1, h, h2, h3, h4⟩
theorem z0d {α : Type} {xs : List α} {j : Nat} {v : α} (h : xs[j]? = some v) : atI xs (j : Int) = some v := by
  have hj : j < xs.length := (List.getElem?_eq_some_iff.mp h).1
  have e : ixN xs.length (j : Int) = some j := by
    unfold ixN
    rw [if_pos (by omega), if_pos (by omega)]; simp
  unfold atI; rw [e]; exact h
def zBH (b : Expr) : Prop := ∀ o i, subscripted b false o i = operate [o, i] (getItem o i)
def IxR (X : Cx) (r : R2) : Prop :=
  ∀ (value slice : Expr) (pins : List (Addr × Obj)) (s : Shared) (σ : St) (H : Hp) (x y : V) (v u : Value) (Q : VK), Inv X pins σ H s -> RelV x v -> RelV y u -> r x y H Q ->
    subscripted slice false v u = operate [v, u] (getItem v u) -> wpAny (model X.prog X.w) X.A (subscriptTail value slice v u) (EP X pins σ Q) X.xe s
def MtR (X : Cx) (id : String) (r : V -> List V -> Hp -> VK -> Prop) : Prop :=
  ∀ (pins : List (Addr × Obj)) (s : Shared) (σ : St) (H : Hp) (x : V) (xs : List V) (v : Value) (us : List Value) (Q : VK), Inv X pins σ H s -> RelV x v -> Vals xs us -> r x xs H Q ->
    wpAny (model X.prog X.w) X.A (call (.builtin id) (v :: us)) (EP X pins σ Q) X.xe s
section
variable {X : Cx} {a b : Expr} {ta tb : TE} {pos : Pos}
theorem z0L {r : R2} (hr : IxR X r) (ha : PE X a ta) (hb : PE X b tb) (hs : zBH b) : PE X (.Subscript a b pos) (tOp r ta tb) := by
  intro pins s σ H Q I h
  exact Subscript_ (zD1 ha hb I h fun v u s2 x y H2 I2 rx ry q => hr a b pins s2 σ H2 x y v u Q I2 rx ry q (hs _ _))
def zDe (K : PySem.W.Frag) : R2 := fun x y H Q => ∃ p xs i v, x = .ref p /\ y = .int i /\ SqL K H p xs /\ atI xs i = some v /\ Q v H
def zDf (K : PySem.W.Frag) : R2 := fun x y H Q => ∃ p xs i v, x = .ref p /\ y = .int i /\ SqT K H p xs /\ atI xs i = some v /\ Q v H
def zDz : R2 := fun x y H Q => ∃ z i c, x = .str z /\ y = .int i /\ z.length <= sizeLine /\ atI z.cps.toList i = some c /\ Q (.str ⟨#[c]⟩) H
theorem z17 : IxR X (zDe X.K) := by
  intro value slice pins s σ H x y v u Q I rx ry h hs
  obtain ⟨p, xs, i, z, rfl, rfl, hq, he, q⟩ := h
  cases rx
  obtain ⟨t, rfl⟩ := ry
  obtain ⟨its, r, pl, hz⟩ := I.list hq
  obtain ⟨j, h1, h2, h3, h4, h5⟩ := z5a he
  obtain ⟨w, ew, rw'⟩ := r.get h2
  have hl := r.length
  have hn := z3k
  have fin : EP X pins σ Q w s := ⟨z, H, I, rw', q⟩
  by_cases h0 : 0 <= i
  . have hj : i.toNat = j := by
      rw [seqIndex_of h0 h5] at h1
      exact Option.some.inj h1
    exact item_listR pl.isList h0 (by omega) (by rw [hj]; simpa using ew) fin hs
  . have hj : (i + (its.toArray.size : Int)).toNat = j := by
      rw [seqIndex_neg (by omega) h4] at h1
      rw [List.size_toArray, <- hl]
      exact Option.some.inj h1
    exact subscriptTail_builtinR (x := w) pl.isList.typeIs slot_list_getitem.lookup
      (wpAny_getItem_list_neg (Q := fun r s' => r = w /\ EP X pins σ Q r s') pl.isList (by omega) (by rw [List.size_toArray] <;> omega) (by omega) (by rw [hj]; simpa using ew) ⟨rfl, fin⟩) hs
theorem z0K : IxR X (zDf X.K) := by
  intro value slice pins s σ H x y v u Q I rx ry h hs
  obtain ⟨p, xs, i, z, rfl, rfl, hq, he, q⟩ := h
  cases rx
  obtain ⟨t, rfl⟩ := ry
  obtain ⟨its, r, pl, hz⟩ := I.tuple hq
  obtain ⟨j, h1, h2, h3, h4, h5⟩ := z5a he
  obtain ⟨w, ew, rw'⟩ := r.get h2
  have hl := r.length
  have hn := z3k
  have fin : EP X pins σ Q w s := ⟨z, H, I, rw', q⟩
  exact subscriptTail_builtinR (x := w) pl.typeIs slot_tuple_getitem.lookup
    (getItem_tuple (j := j) (Q := fun r s' => r = w /\ EP X pins σ Q r s') pl (by omega) (by omega) (by rw [List.size_toArray, <- hl]; exact h1) (by simpa using ew) ⟨rfl, fin⟩) hs
theorem zAZ : IxR X zDz := by
  intro value slice pins s σ H x y v u Q I rx ry h hs
  obtain ⟨z, i, c, rfl, rfl, hz, he, q⟩ := h
  obtain ⟨t, rfl⟩ := rx
  obtain ⟨t', rfl⟩ := ry
  obtain ⟨j, h1, h2, h3, h4, h5⟩ := z5a he
  have hl : z.cps.toList.length = z.length := by simp [Str.length]
  rw [hl] at h1 h4 h5
  have hn := z3k
  exact tail_any (typeIs_str s z t) slot_str_getitem.lookup (getItem_str (c := c) (by
    have e1 : decide (i < -(2 ^ 63 : Int)) = false := decide_eq_false (by omega)
    have e2 : decide (i ≥ 2 ^ 63) = false := decide_eq_false (by omega)
    rw [e1, e2, Bool.or_false]) (by rw [h1]; simpa using h2) ⟨.str ⟨#[c]⟩, H, I.tok _, ⟨_, rfl⟩, q⟩) hs
theorem z77 (its : List Value) (n j : Nat) (u : Value) : Obj.mapSeq (·.setIfInBounds j u) { cls := .type "list", data := .seq its.toArray n } = { cls := .type "list", data := .seq (its.set j u).toArray n } := by
  simp [Obj.mapSeq]
theorem Inv.lst {pins : List (Addr × Obj)} {σ : St} {H : Hp} {s : Shared} {p : Addr} {xs : List V} (I : Inv X pins σ H s) (h : H p = some (.lst xs)) :
    ∃ (its : List Value) (n : Nat), Vals xs its /\ s.heap.get? p = some { cls := .type "list", data := .seq its.toArray n } /\ xs.length <= sizeLine := by
  obtain ⟨z, its, n, r, e⟩ := I.hok p _ h
  exact ⟨its, n, r, e, z⟩
theorem Inv.lstUpd {pins : List (Addr × Obj)} {σ : St} {H : Hp} {s : Shared} {p : Addr} {xs ys : List V} {its its' : List Value} {n n' : Nat} {f : Obj -> Obj} (I : Inv X pins σ H s) (h : H p = some (.lst xs))
    (ho : s.heap.get? p = some { cls := .type "list", data := .seq its.toArray n }) (hf : f { cls := .type "list", data := .seq its.toArray n } = { cls := .type "list", data := .seq its'.toArray n' }) (r : Vals ys its') (hz : ys.length <= sizeLine) (t : Nat) :
    Inv X pins σ (upd H p (.lst ys)) { s with heap := s.heap.update p f, toks := t } := by
  have e : (s.heap.update p f).get? p = some { cls := .type "list", data := .seq its'.toArray n' } := by
    rw [Heap.get?_update_self f ho (by rw [hf] <;> rfl), hf]
  refine I.write (x := p) (e := p) (by rw [h]; trivial) (.inl rfl) (fun b u hb q => (Heap.get?_update_other _ _ (Ne.symm hb)).trans q) ⟨_, e⟩ ?_
  exact ⟨hz, its', n', r, e⟩
def zD5 : V -> V -> V -> Hp -> (Hp -> Prop) -> Prop := fun o i v H Q => ∃ p xs k j, o = .ref p /\ i = .int k /\ H p = some (.lst xs) /\ ixN xs.length k = some j /\ Q (upd H p (.lst (xs.set j v)))
theorem set_list : zDZ X zD5 := by
  intro pins s σ H o i v ov iv u Q I ro ri rv h
  obtain ⟨p, xs, k, j, rfl, rfl, hp, hj, q⟩ := h
  cases ro
  obtain ⟨t, rfl⟩ := ri
  obtain ⟨its, n, r, ho, hz⟩ := I.lst hp
  obtain ⟨h1, h2, h3, h4⟩ := z85 hj
  have hl := r.length
  have hn := z3k
  have I' : Inv X pins σ (upd H p (.lst (xs.set j v))) { s with heap := s.heap.update p (Obj.mapSeq (·.setIfInBounds j u)) } :=
    I.lstUpd hp ho (z77 its n j u) (r.set rv j) (by rw [List.length_set]; exact hz) s.toks
  by_cases h0 : 0 <= k
  . have hk : k.toNat = j := by
      rw [seqIndex_of h0 h4] at h1
      exact Option.some.inj h1
    exact PySem.W.ki_setAt ho h0 (by omega) (by rw [List.size_toArray, <- hl]; exact h4) (by rw [hk]; exact ⟨_, I', q⟩)
  . have hk : (k + (its.toArray.size : Int)).toNat = j := by
      rw [seqIndex_neg (by omega) h3] at h1
      rw [List.size_toArray, <- hl]
      exact Option.some.inj h1
    exact PySem.W.ki_setBack ho (by omega) (by rw [List.size_toArray, <- hl]; exact h3) (by omega) (by rw [hk]; exact ⟨_, I', q⟩)
theorem z0B : z2G X (.builtin "len") (fun xs H Q => ∃ p ys, xs = [.ref p] /\ (SqL X.K H p ys \/ SqT X.K H p ys) /\ Q (.int ys.length) H) := by
  intro pins s σ H xs us Q I r h
  obtain ⟨p, ys, rfl, hq, q⟩ := h
  obtain ⟨u, rfl, rx⟩ := vals1 r
  cases rx
  have hn := z3k
  rcases hq with hq | hq
  . obtain ⟨its, r', pl, hz⟩ := I.list hq
    have hlen := r'.length
    exact Calls.call_len_list pl.isList (by simp only [List.size_toArray] <;> omega) ⟨.int ys.length, H, I.tok _, ⟨s.toks + 1, by rw [List.size_toArray, hlen]⟩, q⟩
  . obtain ⟨its, r', pl, hz⟩ := I.tuple hq
    have hlen := r'.length
    exact len_tuple pl (by simp only [List.size_toArray] <;> omega) ⟨.int ys.length, H, I.tok _, ⟨s.toks + 1, by rw [List.size_toArray, hlen]⟩, q⟩
theorem z1y : z2G X (.builtin "len") (fun xs H Q => ∃ z, xs = [.str z] /\ z.length <= sizeLine /\ Q (.int z.length) H) := by
  intro pins s σ H xs us Q I r h
  obtain ⟨z, rfl, hz, q⟩ := h
  obtain ⟨u, rfl, t, rfl⟩ := vals1 r
  have hn := z3k
  exact len_str (by omega) ⟨.int z.length, H, I.tok _, ⟨_, rfl⟩, q⟩
theorem z2u : z2G X (.type "list") (fun xs H Q => ∃ p ys, xs = [.ref p] /\ (SqL X.K H p ys \/ SqT X.K H p ys) /\ ∀ l, H l = none -> Q (.ref l) (upd H l (.lst ys))) := by
  intro pins s σ H xs us Q I r h
  obtain ⟨p, ys, rfl, hq, q⟩ := h
  obtain ⟨u, rfl, rx⟩ := vals1 r
  cases rx
  have fin : ∀ (its : List Value), Vals ys its -> ys.length <= sizeLine -> ∀ (h' : Heap) (c' : Nat), (∀ b o', s.heap.get? b = some o' -> h'.get? b = some o') ->
      h'.get? s.heap.objs.size = some { cls := .type "list", dict := none, data := .seq its.toArray c', slots := #[] } -> EP X pins σ Q (.ref s.heap.objs.size) { s with heap := h' } := fun its r' hz h' c' kp e =>
    ⟨.ref s.heap.objs.size, _, I.laid (t' := s.toks) kp (Nat.le_refl _) (show ObjOk X.prog X.w _ h' _ (.lst ys) from ⟨hz, its, c', r', e⟩), rfl, q _ (I.hok.fresh (Nat.le_refl _))⟩
  rcases hq with hq | hq
  . obtain ⟨its, r', pl, hz⟩ := I.list hq
    have hlen := r'.length
    obtain ⟨o, ho, hc, n, hd⟩ := pl.isList
    exact call_list_seq p (.inl rfl) ho hc hd (fun h' c' kp e => fin its r' hz h' c' kp e) (by simp only [List.size_toArray] <;> omega)
  . obtain ⟨its, r', pl, hz⟩ := I.tuple hq
    have hlen := r'.length
    obtain ⟨o, ho, hc, n, hd⟩ := pl
    exact call_list_seq p (.inr rfl) ho hc hd (fun h' c' kp e => fin its r' hz h' c' kp e) (by simp only [List.size_toArray] <;> omega)
theorem z0k : z2G X (.type "tuple") (fun xs H Q => ∃ p ys, xs = [.ref p] /\ ((SqL X.K H p ys /\ ∀ l, H l = none -> Q (.ref l) (upd H l (.tup ys))) \/ (SqT X.K H p ys /\ Q (.ref p) H))) := by
  intro pins s σ H xs us Q I r h
  obtain ⟨p, ys, rfl, h⟩ := h
  obtain ⟨u, rfl, rx⟩ := vals1 r
  cases rx
  rcases h with ⟨hq, q⟩ | ⟨hq, q⟩
  . obtain ⟨its, r', pl, hz⟩ := I.list hq
    have hlen := r'.length
    refine call_tuple_list pl.isList (fun h' kp => ?_) (by simp only [List.size_toArray] <;> omega)
    have I1 : Inv X pins σ H { s with heap := h' } := I.kept (t' := s.toks) kp
    have I2 : Inv X pins σ (upd H h'.objs.size (.tup ys)) { s with heap := h'.push { cls := .type "tuple", data := .seq its.toArray } } :=
      I1.laid (t' := s.toks) (fun b o e => Heap.get?_push_of_some _ e) (Nat.le_refl _) (show ObjOk X.prog X.w _ _ _ (.tup ys) from ⟨hz, its, r', IsTup.new _ _⟩)
    exact ⟨.ref h'.objs.size, _, I2, rfl, q _ (I1.hok.fresh (Nat.le_refl _))⟩
  . obtain ⟨its, r', pl, hz⟩ := I.tuple hq
    exact call_tuple_same pl ⟨.ref p, H, I, rfl, q⟩
def tyV (K : PySem.W.Frag) (T : String) (x : V) (H : Hp) : Prop := match x with
  | .str _ => T = "str"
  | .int _ => T = "int"
  | .ref p => (T = "list" /\ ∃ xs, SqL K H p xs) \/ (T = "tuple" /\ ∃ o, K.lookup p = some o /\ o.cls = .type "tuple" /\ o.dict = none) \/
      (T = "dict" /\ ((∃ kvs, H p = some (.dK kvs)) \/ ∃ kvs, H p = some (.dT kvs))) \/ (T = "set" /\ ∃ S n, H p = some (.set S n))
  | _ => False
theorem zAa {pins : List (Addr × Obj)} {σ : St} {H : Hp} {s : Shared} {T : String} {x : V} {v : Value} (I : Inv X pins σ H s) (r : RelV x v) (ty : tyV X.K T x H) :
    s.TypeIs v T /\ ∀ a, v = .ref a -> ∃ ob, s.heap.get? a = some ob /\ ob.dict = none := by
  cases x with
  | str z =>
    obtain ⟨t, rfl⟩ := r
    cases (show T = "str" from ty)
    exact ⟨typeIs_str s z t, fun _ e => nomatch e⟩
  | int i =>
    obtain ⟨t, rfl⟩ := r
    cases (show T = "int" from ty)
    exact ⟨typeIs_int s i t, fun _ e => nomatch e⟩
  | ref p =>
    cases r
    rcases ty with ⟨rfl, xs, hq⟩ | ⟨rfl, o, hk, hc, hd⟩ | ⟨rfl, hk⟩ | ⟨rfl, S, n, hk⟩
    . obtain ⟨its, _, pl, _⟩ := I.list hq
      refine ⟨pl.isList.typeIs, fun a e => ?_⟩
      cases e
      obtain ⟨o, n, e, c, hd, _⟩ := pl
      exact ⟨o, e, hd⟩
    . refine ⟨⟨o, I.kIn p o hk, hc⟩, fun a e => ?_⟩
      cases e
      exact ⟨o, I.kIn _ o hk, hd⟩
    . have z : ∃ o, s.heap.get? p = some o /\ o.ExactDict := by
        rcases hk with ⟨kvs, hk⟩ | ⟨kvs, hk⟩
        . obtain ⟨_, _, _, _, o, _, _, e, ex, _⟩ := I.hok p _ hk
          exact ⟨o, e, ex⟩
        . obtain ⟨_, _, _, _, o, _, _, e, ex, _⟩ := I.hok p _ hk
          exact ⟨o, e, ex⟩
      obtain ⟨o, e, ex⟩ := z
      refine ⟨⟨o, e, ex.1⟩, fun a e2 => ?_⟩
      cases e2
      exact ⟨o, e, ex.2.1⟩
    . obtain ⟨o, _, _, _, e, ex, _⟩ := I.hok p _ hk
      refine ⟨⟨o, e, ex.1⟩, fun a e2 => ?_⟩
      cases e2
      exact ⟨o, e, ex.2.1⟩
  | _ => exact False.elim ty
def tBM (K : PySem.W.Frag) (T : String) (r : V -> List V -> Hp -> VK -> Prop) (to : TE) (t : TA) : TE := fun σ H Q => to σ H fun x H1 => tyV K T x H1 /\ t σ H1 fun xs H2 => r x xs H2 Q
variable {o e : Expr} {es : List Expr} {to : TE} {t : TA} {name : Str} {apos cpos : Pos} {T id : String} {r : V -> List V -> Hp -> VK -> Prop}
theorem z3K (pa : PlainAttrs T) (slot : Slot T name id) (hty : typeOf (.builtin id) = pure (.type "method_descriptor")) (hm : MtR X id r) (ho : PE X o to) (ha : PA X (e :: es) t)
    (hbase : attributeBase o name X.env (eval o X.env) = eval o X.env := by rfl)
    (hfew : ((backTo cpos (starEach (e :: es) X.env)).all (fun x => !x.1) && (backToKw cpos (keywordEach [] X.env)).all (fun x => x.1.isSome)
      && decide ((e :: es).length + ([] : List Keyword).length + (if ([] : List Keyword).isEmpty then 0 else 1) < 30)) = true := by rfl)
    (hline : (apos.endLine == cpos.line) = true := by rfl) (hs : starEach (e :: es) X.env = (false, eval e X.env) :: starEach es X.env := by rfl) (hplain : (backTo cpos (starEach es X.env)).any (·.1) = false := by rfl) :
    PE X (.Call (.Attribute o name apos) (e :: es) [] cpos) (tBM X.K T r to t) := by
  intro pins s σ H Q I h
  refine wpAny_Call_method_late hbase hfew hline rfl (thn (ho pins s σ H _ I h) fun v s1 ⟨x, H1, I1, r1, ty, q1⟩ => ?_)
  obtain ⟨h1, h2⟩ := zAa I1 r1 ty
  refine ⟨T, id, pa, slot, hty, h1, h2, ?_⟩
  have hA := ha cpos pins s1 σ H1 _ I1 q1
  rw [hs] at hA ⊢
  refine Calls.callWith_builtin (by show (false || (backTo cpos (starEach es X.env)).any (·.1)) = false; rw [hplain] <;> rfl) (Calls.evalArgs_plain ?_)
  exact thn hA fun us s2 ⟨vs, H2, I2, r2, q2⟩ => hm pins s2 σ H2 x vs v us Q I2 r1 r2 q2
/- xs.append(e), list.index on a module's tuple .. are MtR facts of 06m -/
end
def MtM (X : Cx) (id : String) (r : V -> List V -> Hp -> VK -> Prop) : Prop :=
  ∀ (pins : List (Addr × Obj)) (s : Shared) (σ : St) (H : Hp) (x : V) (xs : List V) (v : Value) (us : List Value) (Q : VK), Inv X pins σ H s -> RelV x v -> Vals xs us -> r x xs H Q ->
    wpAny (model X.prog X.w) X.A (call (.builtin id) (v :: us)) (EP X pins σ Q) X.xe s
theorem Vals.one : ∀ {x : V} {us : List Value}, Vals [x] us -> ∃ u, us = [u] /\ RelV x u
  | _, _, .cons r .nil => ⟨_, rfl, r⟩
theorem Vals.rep {xs : List V} {us : List Value} (h : Vals xs us) : ∀ k : Nat, Vals (List.replicate k xs).flatten (List.replicate k us).flatten
  | 0 => .nil
  | k + 1 => by
    rw [List.replicate_succ, List.replicate_succ, List.flatten_cons, List.flatten_cons]
    exact Vals.append h (Vals.rep h k)
theorem foldl_rep (its : List Value) : ∀ (k : Nat) (acc : List Value),
    List.foldl (fun x1 x2 => x1 ++ x2) acc.toArray (List.replicate k its.toArray) = (acc ++ (List.replicate k its).flatten).toArray
  | 0, acc => by simp
  | k + 1, acc => by
    have e : acc.toArray ++ its.toArray = (acc ++ its).toArray := by simp
    have e2 : (acc ++ its) ++ (List.replicate k its).flatten = acc ++ (List.replicate (k + 1) its).flatten := by
      rw [List.replicate_succ, List.flatten_cons, List.append_assoc]
    rw [<- e2, <- foldl_rep its k (acc ++ its), <- e, List.replicate_succ, List.foldl_cons]
section
variable {X : Cx} {pins : List (Addr × Obj)} {σ : St} {H : Hp} {s : Shared} {l b : Addr} {xs ys zs : List V}
theorem Inv.lset {its its' : List Value} {n : Nat} {f : Array Value -> Array Value} {t' : Nat} (I : Inv X pins σ H s) (hH : H l = some (.lst xs))
    (e : s.heap.get? l = some { cls := .type "list", data := .seq its.toArray n }) (hf : f its.toArray = its'.toArray) (hv : Vals ys its') (hz : ys.length <= sizeLine) :
    Inv X pins σ (upd H l (.lst ys)) { s with heap := s.heap.update l (Obj.mapSeq f), toks := t' } := by
  have q := PySem.IsL.update e f
  rw [hf] at q
  refine I.write (x := l) (e := l) (by rw [hH]; exact trivial) (.inl rfl) (fun b' u hb hu => (Heap.get?_update_other s.heap (Obj.mapSeq f) (Ne.symm hb)).trans hu) ⟨_, q⟩ ?_
  exact ⟨hz, its', _, hv, q⟩
theorem Inv.lnew {its : List Value} {t' : Nat} (I : Inv X pins σ H s) (hv : Vals ys its) (hz : ys.length <= sizeLine) :
    Inv X pins σ (upd H s.heap.objs.size (.lst ys)) { s with heap := s.heap.push { cls := .type "list", data := .seq its.toArray }, toks := t' } :=
  I.laid (fun _ _ q => Heap.get?_push_of_some _ q) (Nat.le_refl _) ⟨hz, its, 0, hv, Heap.get?_push_size _ rfl⟩
theorem Inv.fresh (I : Inv X pins σ H s) : H s.heap.objs.size = none := I.hok.fresh (Nat.le_refl _)
theorem Inv.lstM (I : Inv X pins σ H s) (hH : H l = some (.lst xs)) : xs.length <= sizeLine /\ ∃ (its : List Value) (n : Nat), Vals xs its /\ xs.length = its.length /\ s.heap.get? l = some { cls := .type "list", data := .seq its.toArray n } := by
  obtain ⟨z, its, n, r, e⟩ := I.hok l _ hH
  exact ⟨z, its, n, r, r.length, e⟩
theorem z9j {n : Nat} (h : n <= sizeLine) : Builtin.List.listTooLong n = false := by
  unfold Builtin.List.listTooLong
  exact decide_eq_false (by omega)
end
section
variable {X : Cx}
def zBI : V -> List V -> Hp -> VK -> Prop := fun x vs H Q => ∃ l xs y, x = .ref l /\ vs = [y] /\ H l = some (.lst xs) /\ xs.length < sizeLine /\ Q .non (upd H l (.lst (xs ++ [y])))
theorem z18 : MtM X "list.append" zBI := by
  intro pins s σ H x vs v us Q I rx rv h
  obtain ⟨l, xs, y, rfl, rfl, hH, hz, q⟩ := h
  cases rx
  obtain ⟨u, rfl, ru⟩ := rv.one
  obtain ⟨z, its, n, r, hl, e⟩ := I.lstM hH
  refine call_meets F.slot_list_append ⟨_, e, rfl⟩ F.entry_list_append (F.args_list_append_2 _ _) (PySem.list_append l its.toArray n u (by rw [List.size_toArray]; omega)) ⟨e, ?_⟩
  refine ⟨.non, _, I.lset (its' := its ++ [u]) hH e (by simp) (r.append (.cons ru .nil)) ?_, rfl, q⟩
  rw [List.length_append, List.length_singleton]
  omega
def zE0 : R2 := fun x y H Q => ∃ l k xs, x = .ref l /\ y = .int k /\ H l = some (.lst xs) /\ -(2 ^ 63) <= k /\ k < 2 ^ 63 /\ xs.length * k.toNat <= sizeLine /\
  ∀ p, H p = none -> Q (.ref p) (upd H p (.lst (List.replicate k.toNat xs).flatten))
theorem len_rep {α : Type} (xs : List α) (k : Nat) : (List.replicate k xs).flatten.length = k * xs.length := by
  induction k with
  | zero => simp
  | succ k ih => rw [List.replicate_succ, List.flatten_cons, List.length_append, ih, Nat.succ_mul, Nat.add_comm]
theorem zAb : OpR X (binaryOp .Mult) zE0 := by
  intro pins s σ H x y v u Q I rx ry h
  obtain ⟨l, k, xs, rfl, rfl, hH, h1, h2, hz, q⟩ := h
  cases rx
  obtain ⟨t, rfl⟩ := ry
  obtain ⟨z, its, n, r, hl, e⟩ := I.lstM hH
  have hlen : its.toArray.size * k.toNat <= sizeLine := by rw [List.size_toArray, <- hl]; exact hz
  have hcap : ¬ its.toArray.size * k.toNat > (2 ^ 63 - 1) / 8 := by
    have : (sizeLine : Nat) <= (2 ^ 63 - 1) / 8 := by decide
    omega
  have hfit : ¬ (!Builtin.List.listFitsIndex k) = true := by
    rw [fitsIndex_both h1 h2]
    exact Bool.false_ne_true
  have hlong : ¬ Builtin.List.listTooLong (its.toArray.size * k.toNat) = true := by
    rw [z9j hlen]
    exact Bool.false_ne_true
  have hnew : List.foldl (fun x1 x2 => x1 ++ x2) #[] (List.replicate (if its.toArray.isEmpty = true then 0 else k.toNat) its.toArray) = (List.replicate k.toNat its).flatten.toArray := by
    have f0 : ∀ m : Nat, List.foldl (fun x1 x2 => x1 ++ x2) #[] (List.replicate m its.toArray) = (List.replicate m its).flatten.toArray := fun m => by
      have := foldl_rep its m []
      rw [List.nil_append] at this
      exact this
    rw [f0]
    cases its with
    | nil => simp
    | cons a r' => rw [if_neg (by simp)]
  refine wpAny_binaryOp_repeat_ref (T := "list") (U := "int") (by decide) ⟨_, e, rfl⟩ (fun s' => typeIs_int s' k t) noFill_list_mul F.fills_int_mul F.slot_int_rmul repeat_list F.slot_int_index.lookup
    (call_meets F.slot_int_rmul (typeIs_int s k t) F.entry_int_rmul (F.args_int_rmul_2 _ _) (int___rmul___int_list k t l its.toArray n)
      ⟨e, rfl, ⟨_, e, rfl⟩, call_meets F.slot_list_mul ⟨_, e, rfl⟩ F.entry_list_mul (F.args_list_mul_2 _ _) (AutoListH.list___mul___list_int_3 l its.toArray n k t hfit hcap hlong) ⟨e, ?_⟩⟩)
  rw [hnew]
  exact ⟨.ref _, _, I.lnew (t' := s.toks) (r.rep k.toNat) (by rw [len_rep, Nat.mul_comm]; exact hz), rfl, q _ I.fresh⟩
end
section
variable {prog : Program} {w : World} {A : Around} {E : Value -> Shared -> Prop} {s : Shared}
end
section
variable {X : Cx}
end
section
variable {κ : Type} [DecidableEq κ]
def z4B (kvs : List (κ × V)) (k : κ) : Option V := (kvs.find? fun kv => decide (kv.1 = k)).map (·.2)
def putK (kvs : List (κ × V)) (k : κ) (v : V) : List (κ × V) :=
  if (kvs.any fun kv => decide (kv.1 = k)) = true then kvs.map (fun kv => if kv.1 = k then (kv.1, v) else kv) else kvs ++ [(k, v)]
theorem z6V {p : κ × V} {r : List (κ × V)} {k : κ} (e : p.1 = k) : z4B (p :: r) k = some p.2 := by simp [z4B, List.find?_cons, e]
theorem z6W {p : κ × V} {r : List (κ × V)} {k : κ} (e : ¬ p.1 = k) : z4B (p :: r) k = z4B r k := by simp [z4B, List.find?_cons, e]
theorem RelO.isSome_eq {o : Option V} {u : Option Value} (r : RelO o u) : o.isSome = u.isSome := by
  cases o with
  | none => cases u with
    | none => rfl
    | some _ => exact (show False from r).elim
  | some _ => cases u with
    | none => exact (show False from r).elim
    | some _ => rfl
theorem RelO.getD {o : Option V} {u : Option Value} {d : V} {d' : Value} (r : RelO o u) (rd : RelV d d') : RelV (o.getD d) (u.getD d') := by
  cases o with
  | none => cases u with
    | none => exact rd
    | some _ => exact (show False from r).elim
  | some _ => cases u with
    | none => exact (show False from r).elim
    | some _ => exact r
theorem KV.val {kvs : List (κ × V)} {vs : List (κ × Value)} (r : KV kvs vs) (k : κ) : RelO (z4B kvs k) (valueAt vs k) := by
  unfold KV at r
  induction r with
  | nil => exact True.intro
  | @cons p q ps qs h t ih =>
    obtain ⟨h1, h2⟩ := h
    by_cases e : p.1 = k
    . have e' : q.1 = k := h1.symm.trans e
      have b : valueAt (q :: qs) k = some q.2 := by simp [valueAt, List.find?_cons, e']
      rw [z6V e, b]; exact h2
    . have e' : ¬ q.1 = k := fun z => e (h1.trans z)
      have b : valueAt (q :: qs) k = valueAt qs k := by simp [valueAt, List.find?_cons, e']
      rw [z6W e, b]; exact ih
theorem KV.any {kvs : List (κ × V)} {vs : List (κ × Value)} (r : KV kvs vs) (k : κ) : (kvs.any fun kv => decide (kv.1 = k)) = vs.any fun kv => decide (kv.1 = k) := by
  unfold KV at r
  induction r with
  | nil => rfl
  | cons h t ih => rw [List.any_cons, List.any_cons, ih, h.1]
theorem KV.repl {kvs : List (κ × V)} {vs : List (κ × Value)} (r : KV kvs vs) (k : κ) {y : V} {u : Value} (ry : RelV y u) :
    KV (kvs.map fun kv => if kv.1 = k then (kv.1, y) else kv) (vs.map fun kv => if kv.1 = k then (kv.1, u) else kv) := by
  unfold KV at r ⊢
  induction r with
  | nil => exact .nil
  | @cons p q ps qs h t ih =>
    rw [List.map_cons, List.map_cons]
    refine .cons ?_ ih
    obtain ⟨h1, h2⟩ := h
    by_cases e : p.1 = k
    . rw [if_pos e, if_pos (h1.symm.trans e)]; exact ⟨h1, ry⟩
    . rw [if_neg e, if_neg (fun z => e (h1.trans z))]; exact ⟨h1, h2⟩
theorem KV.put {kvs : List (κ × V)} {vs : List (κ × Value)} (r : KV kvs vs) (k : κ) {y : V} {u : Value} (ry : RelV y u) : KV (putK kvs k y) (stored vs k u) := by
  unfold putK stored
  rw [r.any k]
  by_cases e : (vs.any fun kv => decide (kv.1 = k)) = true
  . rw [if_pos e, if_pos e]; exact r.repl k ry
  . rw [if_neg e, if_neg e]; exact Paired.snoc r ⟨rfl, ry⟩
theorem KV.length {kvs : List (κ × V)} {vs : List (κ × Value)} (r : KV kvs vs) : kvs.length = vs.length := Paired.length r
end
theorem z9k {P : Program} {w : World} {k : Key} {u : Value} (r : RelV (kV k) u) : (z0c P w).is k u = true := by
  cases k with
  | inl i => obtain ⟨t, e⟩ := (show ∃ t, u = Value.int i t from r); subst e; exact z5W P w i t
  | inr x => obtain ⟨t, e⟩ := (show ∃ t, u = Value.str x t from r); subst e; exact z5X P w x t
theorem z4l {P : Program} {w : World} : ∀ {ks : List Key} {us : List Value}, Vals (ks.map kV) us -> ItemsAre (z0c P w) ks us
  | [], _, r => by rw [List.map_nil] at r; cases r; exact .nil
  | k :: ks, _, r => by
    rw [List.map_cons] at r
    cases r with
    | cons h t => exact .cons (z9k h) (z4l t)
abbrev KT (H : Hp) : List (List Key × V) -> List (List Key × Addr × Value) -> Prop := Paired fun p q => p.1 = q.1 /\ H q.2.1 = some (.tup (p.1.map kV)) /\ RelV p.2 q.2.2
theorem KT.val {H : Hp} {kvs : List (List Key × V)} {xs : List (List Key × Addr × Value)} (r : KT H kvs xs) (k : List Key) : RelO (z4B kvs k) ((atKey xs k).map (·.2)) := by
  induction r with
  | nil => exact True.intro
  | @cons p q ps qs h t ih =>
    obtain ⟨h1, _, h2⟩ := h
    by_cases e : p.1 = k
    . have e' : q.1 = k := h1.symm.trans e
      have b : atKey (q :: qs) k = some q.2 := by simp [atKey, List.find?_cons, e']
      rw [z6V e, b]; exact h2
    . have e' : ¬ q.1 = k := fun z => e (h1.trans z)
      have b : atKey (q :: qs) k = atKey qs k := by simp [atKey, List.find?_cons, e']
      rw [z6W e, b]; exact ih
theorem KT.keeps {H H' : Hp} {kvs : List (List Key × V)} {xs : List (List Key × Addr × Value)} (r : KT H kvs xs) (ht : ∀ b ys, H b = some (.tup ys) -> H' b = some (.tup ys)) : KT H' kvs xs :=
  Paired.mapP r fun _ _ z => ⟨z.1, ht _ _ z.2.1, z.2.2⟩
section
variable {P : Program} {w : World} {H : Hp} {h : Heap} {a : Addr}
theorem zCI {u : HO} (ok : HOk P w H h) (e : Rd H a u) : ObjOk P w H h a u := e.ok ok
theorem z86 {kvs : List (Key × V)} (ok : HOk P w H h) (e : Rd H a (.dK kvs)) : kvs.length <= sizeLine /\ (a == sysModules) = false /\ ∃ vs, KV kvs vs /\ h.DictOf (z0c P w) a vs :=
  show ObjOk P w H h a (.dK kvs) from zCI ok e
theorem zD6 {kvs : List (Key × V)} (ok : HOk P w H h) (e : H a = some (.dK kvs)) : kvs.length <= sizeLine /\ (a == sysModules) = false /\ ∃ vs, KV kvs vs /\ h.DictOf (z0c P w) a vs := z86 ok (.inl e)
theorem z87 {ks : List Key} (ok : HOk P w H h) (e : H a = some (.tup (ks.map kV))) : (tupleKind (z0c P w)).is h ks a := by
  obtain ⟨_, its, r, o, h1, h2, n, h3⟩ := (show ObjOk P w H h a (.tup (ks.map kV)) from ok a _ e)
  exact ⟨o, its.toArray, n, h1, h2, h3, by simpa using z4l r⟩
theorem zBJ {kvs : List (List Key × V)} (ok : HOk P w H h) (e : Rd H a (.dT kvs)) : kvs.length <= sizeLine /\ (a == sysModules) = false /\
    ∃ xs, KT H kvs xs /\ h.DictOfH (tupleKind (z0c P w)) a xs := by
  obtain ⟨z, y, xs, r, o, es, ep, h1, h2, h3, h4, h5⟩ := (show ObjOk P w H h a (.dT kvs) from zCI ok e)
  refine ⟨z, y, xs, r, o, es, ep, h1, h2, h3, h4, fun x hx => ?_, h5⟩
  have all : ∀ {l : List (List Key × V)} {m : List (List Key × Addr × Value)}, KT H l m -> ∀ x ∈ m, (tupleKind (z0c P w)).is h x.1 x.2.1 := by
    intro l m q
    induction q with
    | nil => intro x hx; exact nomatch hx
    | @cons p q ps qs hq t ih =>
      intro x hx
      rcases List.mem_cons.mp hx with e | hx
      . subst e
        exact z87 ok (by rw [<- hq.1]; exact hq.2.1)
      . exact ih x hx
  exact all r x hx
end
def DGet (H : Hp) (a : Addr) (y : V) (r : Option V) : Prop :=
  (∃ kvs k, Rd H a (.dK kvs) /\ y = kV k /\ r = z4B kvs k) \/ ∃ kvs k b, Rd H a (.dT kvs) /\ y = .ref b /\ H b = some (.tup (k.map kV)) /\ r = z4B kvs k
def DPut (H : Hp) (a : Addr) (y v : V) (H' : Hp) : Prop :=
  (∃ kvs k, H a = some (.dK kvs) /\ y = kV k /\ kvs.length < sizeLine /\ H' = upd H a (.dK (putK kvs k v))) \/
  ∃ kvs k b, H a = some (.dT kvs) /\ y = .ref b /\ H b = some (.tup (k.map kV)) /\ kvs.length < sizeLine /\ H' = upd H a (.dT (putK kvs k v))
theorem DGet.k {H : Hp} {a : Addr} {kvs : List (Key × V)} {k : Key} (e : H a = some (.dK kvs)) : DGet H a (kV k) (z4B kvs k) := .inl ⟨kvs, k, .inl e, rfl, rfl⟩
theorem DGet.t {H : Hp} {a b : Addr} {kvs : List (List Key × V)} {k : List Key} (e : H a = some (.dT kvs)) (eb : H b = some (.tup (k.map kV))) : DGet H a (.ref b) (z4B kvs k) := .inr ⟨kvs, k, b, .inl e, rfl, eb, rfl⟩
theorem DPut.k {H : Hp} {a : Addr} {kvs : List (Key × V)} {k : Key} {v : V} (e : H a = some (.dK kvs)) (hl : kvs.length < sizeLine) : DPut H a (kV k) v (upd H a (.dK (putK kvs k v))) := .inl ⟨kvs, k, e, rfl, hl, rfl⟩
theorem DPut.t {H : Hp} {a b : Addr} {kvs : List (List Key × V)} {k : List Key} {v : V} (e : H a = some (.dT kvs)) (eb : H b = some (.tup (k.map kV))) (hl : kvs.length < sizeLine) :
    DPut H a (.ref b) v (upd H a (.dT (putK kvs k v))) := .inr ⟨kvs, k, b, e, rfl, eb, hl, rfl⟩
section
variable {X : Cx} {pins : List (Addr × Obj)} {σ : St} {H : Hp} {s : Shared} {a : Addr} {y v : V} {u r : Value} {o : Option V} {A : Around} {E : Value -> Shared -> Prop}
theorem Inv.big (I : Inv X pins σ H s) : sysModules < s.heap.objs.size := by
  have h : mainGlobals < s.heap.objs.size := (I.mod.glob.keeps I.bk).lt
  exact Nat.lt_trans (by decide) h
theorem z88 {Q : Value -> Shared -> Prop} (hu : A.units + 1 < cLine) (I : Inv X pins σ H s) (g : DGet H a y (some v)) (ry : RelV y u) (h : ∀ w' s', Inv X pins σ H s' -> RelV v w' -> Q w' s') :
    wpAny (model X.prog X.w) A (getItem (.ref a) u) Q E s := by
  rcases g with ⟨kvs, k, e, ey, l⟩ | ⟨kvs, k, b, e, ey, eb, l⟩
  . subst ey
    obtain ⟨z, hd, vs, rel, dd⟩ := z86 I.hok e
    obtain ⟨w', hw, rw'⟩ := RelO.some_of (v := v) (o := valueAt vs k) (by rw [l]; exact rel.val k)
    exact wpAny_getItem_of (z9k ry) dd.mapOf hw (h w' _ (I.tok _) rw')
  . subst ey
    cases (show u = Value.ref b from ry)
    obtain ⟨z, hd, xs, rel, dd⟩ := zBJ I.hok e
    obtain ⟨w', hw, rw'⟩ := RelO.some_of (v := v) (o := (atKey xs k).map (·.2)) (by rw [l]; exact rel.val k)
    obtain ⟨p, hp, hp2⟩ := Option.map_eq_some_iff.mp hw
    refine wpAny_getItem_heap (tupleKind_room_in1 hu) (z87 I.hok eb) dd hp ?_
    rw [hp2]
    exact h w' _ (I.tok _) rw'
theorem zBK {Q : Value -> Shared -> Prop} (hu : A.units + 1 < cLine) (I : Inv X pins σ H s) (g : DGet H a y o) (ry : RelV y u) (h : ∀ s', Inv X pins σ H s' -> Q (.bool (!o.isSome)) s') :
    wpAny (model X.prog X.w) A (compareOp .NotIn u (.ref a)) Q E s := by
  rcases g with ⟨kvs, k, e, ey, l⟩ | ⟨kvs, k, b, e, ey, eb, l⟩
  . subst ey
    obtain ⟨z, hd, vs, rel, dd⟩ := z86 I.hok e
    refine wpAny_notIn_of (z9k ry) hd dd.mapOf ?_
    rw [<- (rel.val k).isSome_eq, <- l]
    exact h _ (I.tok _)
  . subst ey
    cases (show u = Value.ref b from ry)
    obtain ⟨z, hd, xs, rel, dd⟩ := zBJ I.hok e
    refine wpAny_notIn_heap (tupleKind_room_in1 hu) (z87 I.hok eb) hd dd ?_
    have q := (rel.val k).isSome_eq
    rw [Option.isSome_map] at q
    rw [<- q, <- l]
    exact h _ (I.tok _)
theorem zCJ {P : Program} {w : World} {H' : Hp} {h' : Heap} {kvs : List (Key × V)} {vs : List (Key × Value)} (z : kvs.length <= sizeLine) (hd : (a == sysModules) = false) (rel : KV kvs vs) (dd : h'.DictOf (z0c P w) a vs) :
    ObjOk P w H' h' a (.dK kvs) := ⟨z, hd, vs, rel, dd⟩
end
section
variable {X : Cx} {pins : List (Addr × Obj)} {σ : St} {H : Hp} {s : Shared} {a : Addr} {kvs : List (Key × V)} {k : Key} {u : Value} {A : Around} {E : Value -> Shared -> Prop}
theorem zD7 {Q : Value -> Shared -> Prop} (I : Inv X pins σ H s) (e : Rd H a (.dK kvs)) (h : ∀ t s', Inv X pins σ H s' -> Q (.int kvs.length t) s') : wpAny (model X.prog X.w) A (call (.builtin "len") [.ref a]) Q E s := by
  obtain ⟨z, hd, vs, rel, dd⟩ := z86 I.hok e
  refine call_len_dict hd dd (by rw [<- rel.length]; rw [sizeLine_eq] at z; omega) ?_
  rw [<- rel.length]
  exact h _ _ (I.tok _)
end
def zD8 (i : Expr) : Prop := ∀ ov iv, subscripted i false ov iv = operate [ov, iv] (getItem ov iv)
theorem zBL {prog : Program} {w : World} {A : Around} {E : Value -> Shared -> Prop} {s : Shared} {env : Env} {value slice : Expr} {pos : Pos} {T id : String} {Q : Value -> Shared -> Prop}
    (hl : typeLookup (.type T) "__getitem__" = pure (some (.builtin id))) (hs : zD8 slice)
    (h : wpAny (model prog w) A (eval value env) (fun o s₁ => wpAny (model prog w) A (eval slice env) (fun i s₂ => s₂.TypeIs o T /\ wpAny (model prog w) A (getItem o i) Q E s₂) E s₁) E s) :
    wpAny (model prog w) A (eval (.Subscript value slice pos) env) Q E s := by
  refine Subscript_ (wpAny_mono h (fun o s₁ h₁ => wpAny_mono h₁ (fun i s₂ h₂ => ?_) fun _ _ x => x) fun _ _ x => x)
  obtain ⟨hT, h₂⟩ := h₂
  unfold subscriptTail
  refine wpAny_bind ?_
  rw [getitemInPython_of_ne hT.not_modules]
  refine wpAny_bind (wpAny_specialOf hT hl ?_)
  have fin : wpAny (model prog w) A (subscripted slice false o i) (fun r s₃ => wpAny (model prog w) A (letTemporaryGo value o r >>= fun _ => pure r) Q E s₃) E s₂ := by
    rw [hs o i]
    exact wpAny_operating (wpAny_mono h₂ (fun r s₃ h₃ => wpAny_bind (wpAny_letTemporaryGo (wpAny_pure h₃))) fun _ _ x => x)
  first
    | exact wpAny_pure (wpAny_bind fin)
    | exact wpAny_bind (wpAny_pure (wpAny_bind fin))
    | exact wpAny_bind fin
theorem z5b {X : Cx} {pins : List (Addr × Obj)} {σ : St} {H : Hp} {s : Shared} {a : Addr} {y : V} {o : Option V} (I : Inv X pins σ H s) (g : DGet H a y o) : s.TypeIs (.ref a) "dict" := by
  rcases g with ⟨kvs, k, e, _, _⟩ | ⟨kvs, k, b, e, _, _, _⟩
  . obtain ⟨_, _, vs, _, dd⟩ := z86 I.hok e
    exact dd.typeIs
  . obtain ⟨_, _, xs, _, dd⟩ := zBJ I.hok e
    exact dd.typeIs
def zCK (td ty : TE) : TE := fun σ H Q => td σ H fun x H1 => ty σ H1 fun y H2 => ∃ a v, x = .ref a /\ DGet H2 a y (some v) /\ Q v H2
def zBM (ty td : TE) : TE := fun σ H Q => ty σ H fun y H1 => td σ H1 fun x H2 => ∃ a o, x = .ref a /\ DGet H2 a y o /\ Q (.bl (!o.isSome)) H2
section
variable {X : Cx} {o i e value : Expr} {pos pos' tpos : Pos} {td ty tv : TE}
theorem z89 (hu : X.A.units + 1 < cLine) (ho : PE X o td) (hi : PE X i ty) (hs : zD8 i) : PE X (.Subscript o i pos) (zCK td ty) := by
  intro pins s σ H Q I h
  refine zBL PySem.F.slot_dict_getitem.lookup hs (thn (ho pins s σ H _ I h) fun u s1 ⟨x, H1, I1, rx, q1⟩ => thn (hi pins s1 σ H1 _ I1 q1) fun iv s2 ⟨y, H2, I2, ry, a, v, ex, g, q2⟩ => ?_)
  subst ex
  obtain rfl : u = Value.ref a := rx
  exact ⟨z5b I2 g, z88 hu I2 g ry fun w' s3 I3 rw' => ⟨v, H2, I3, rw', q2⟩⟩
theorem z8A (hu : X.A.units + 1 < cLine) (hi : PE X i ty) (ho : PE X o td) : PC X .NotIn i o (zBM ty td) := by
  intro pins s σ H Q I h
  refine thn (hi pins s σ H _ I h) fun iv s1 ⟨y, H1, I1, ry, q1⟩ => thn (ho pins s1 σ H1 _ I1 q1) fun u s2 ⟨x, H2, I2, rx, a, ov, ex, g, q2⟩ => ?_
  subst ex
  obtain rfl : u = Value.ref a := rx
  exact zBK hu I2 g ry fun s3 I3 => ⟨.bl (!ov.isSome), H2, I3, rfl, q2⟩
end
section
variable {X : Cx} {pos : Pos}
end
structure M1 (X : Cx) (o : Expr) (m : Str) (apos : Pos) (e : Expr) (cpos : Pos) : Prop where
  base : attributeBase o m X.env (eval o X.env) = eval o X.env
  few : ((backTo cpos (starEach [e] X.env)).all (fun x => !x.1) && (backToKw cpos (keywordEach [] X.env)).all (fun x => x.1.isSome)
    && decide (([e] : List Expr).length + ([] : List Keyword).length + (if ([] : List Keyword).isEmpty then 0 else 1) < 30)) = true
  line : (apos.endLine == cpos.line) = true
  trees : backTo cpos (starEach [e] X.env) = [(false, eval e X.env)]
structure M2 (X : Cx) (o : Expr) (m : Str) (apos : Pos) (e f : Expr) (cpos : Pos) : Prop where
  base : attributeBase o m X.env (eval o X.env) = eval o X.env
  few : ((backTo cpos (starEach [e, f] X.env)).all (fun x => !x.1) && (backToKw cpos (keywordEach [] X.env)).all (fun x => x.1.isSome)
    && decide (([e, f] : List Expr).length + ([] : List Keyword).length + (if ([] : List Keyword).isEmpty then 0 else 1) < 30)) = true
  line : (apos.endLine == cpos.line) = true
  trees : backTo cpos (starEach [e, f] X.env) = [(false, eval e X.env), (false, eval f X.env)]
section
variable {X : Cx} {pins : List (Addr × Obj)} {σ : St} {H : Hp} {s : Shared} {a : Addr} {y d : V} {u r : Value} {o : Option V} {A : Around} {E : Value -> Shared -> Prop}
end
section
variable {X : Cx} {o e f : Expr} {apos cpos : Pos} {td ty tx : TE}
end
section
variable {X : Cx} {pins : List (Addr × Obj)} {σ : St} {H : Hp} {s : Shared} {a : Addr} {kvs : List (Key × V)} {A : Around} {E : Value -> Shared -> Prop}
end
section
variable {X : Cx} {pins : List (Addr × Obj)} {σ : St} {H : Hp} {s : Shared} {a : Addr} {y : V} {u : Value} {A : Around} {E : Value -> Shared -> Prop}
end
end L2
namespace Att
open PySem PySem.W PySem.Calls PyProof.Rows
theorem z3L {P : Params} {h : Heap} : ∀ (ns : List Int) (vs : List Value), WellAll P h vs (ns.map WData.int) -> IntsAre vs ns := by
  intro ns
  induction ns with
  | nil =>
    intro vs w
    rw [List.map_nil] at w
    cases w
    exact .nil
  | cons n ns ih =>
    intro vs w
    rw [List.map_cons] at w
    cases w with
    | cons a b =>
      cases a
      exact .cons _ _ (ih _ b)
theorem z8B {l : OpenLaw} {n : Nat} (hn : l.most = some n) {P : Params} {h : Heap} {args : List WData} {vals : List Value}
    (hpre : l.row.toRowW.claim.pre args = true) (hwl : WellAll P h vals args) :
    ∃ a vs ns, vals = [Value.ref a] /\ args = [WData.list (ns.map WData.int)] /\ h.get? a = some { cls := .type "list", data := .seq vs.toArray } /\ IntsAre vs ns /\ ns.length <= n := by
  have hsh : WShape.hasAll [] args [.list .int] = true := (pre_splitW hpre).1
  have hc : l.pre.holds [] { args := args } = true := (pre_splitW hpre).2
  obtain ⟨d, r, rfl, h1, h2⟩ := hasAllW_cons hsh
  obtain rfl := hasAllW_nil h2
  obtain ⟨xs, rfl, h3⟩ := hasW_list h1
  obtain ⟨ns, rfl⟩ := items_int h3
  have hlen : ns.length <= n := by
    unfold OpenLaw.pre at hc
    have h4 : (WTm.not (.lt (.lit (.int (n : Int))) (.len (.arg 0)))).holds [] { args := [.list (ns.map .int)] } = true := by
      have h4 := (holds_andW hc).1
      rw [hn] at h4
      exact h4
    have h5 := condW_of h4 (w_not (w_lt w_lit (w_len_list (w_arg rfl))))
    rw [List.length_map] at h5
    refine Nat.le_of_not_lt fun q => ?_
    have q' : (n : Int) < ((ns.length : Nat) : Int) := by omega
    first
      | (rw [decide_eq_true q'] at h5; exact absurd h5 (by decide))
      | (simp at h5; omega)
  cases hwl with
  | cons w1 w2 =>
    cases w2
    cases w1 with
    | list ho hall => exact ⟨_, _, ns, rfl, rfl, ho, z3L ns _ hall, hlen⟩
theorem z8C (l : OpenLaw) (args : List WData) : l.row.toRowW.claim.post args (.bool true) args = true :=
  postW_of (r := l.row.toRowW) (X := (true == true))
    (show WShape.has [] (.bool true) .bool = true by first | rfl | decide | simp [WShape.has, WShape.arms, WShape.armsAll])
    (show (WTm.eq .res (.lit (.bool true))).value [] { args := args, res := some (.bool true), after := args } = some (.bool (true == true)) from w_eq_bool (w_res rfl) w_lit) rfl
theorem attach_call {l : OpenLaw} {n : Nat} {q : Program} {loose : List Str} {XP : (Str -> Option Value) -> Heap -> Prop} {YP : World -> Heap -> Prop} {d : DefRec}
    (hn : l.most = some n) (hdf : d.params.defaults = [])
    (call : ∀ (w : World) (s₀ s₁ : Shared) (mg mb : Str -> Option Value) (fa : Addr) (o : Obj) (pm cd doc : Value) (a : Addr) (vs : List Value) (ns : List Int),
      Ground q loose [] XP w s₀ mg mb s₁.heap -> YP w s₁.heap ->
      s₁.heap.get? fa = some o -> o.data = .func (docDef d.name d.params d.body d.scope pm cd doc) -> s₁.heap.CodeRec cd d.name -> mg d.name = some (.ref fa) ->
      s₁.heap.get? a = some { cls := .type "list", data := .seq vs.toArray } -> IntsAre vs ns -> ns.length <= n -> s₁.gens = #[] ->
      codeAny (model l.prog w) callerA (.call (.ref fa) ⟨[.ref a], []⟩) (fun r s' => r = .ok (.ret (.bool true)) /\ OldK s₁.heap s'.heap /\ s'.os = s₁.os /\ AllBare s'.gens) s₁) :
    WalkO q loose XP YP l.row.toRowW d [] (fun f vs => PySem.call f vs) := by
  intro w s₀ s₁ mg mb G Y fa o pm cd doc dV kV ho hd hcd hD hmg hg args vals as hpre hlay hrd hwl hlo
  obtain rfl : dV = .none := Dflts.none hD hdf
  obtain rfl : kV = .none := Dflts.noKw hD
  obtain ⟨a, vs, ns, rfl, rfl, hobj, hints, hlen⟩ := z8B hn hpre hwl
  refine enter_call (codeAny_mono (call w s₀ s₁ mg mb fa o pm cd doc a vs ns G Y ho (fd_plain hd) hcd hmg hobj hints hlen hg) fun r s' hq => ?_)
  obtain ⟨rfl, h2, h3, h4⟩ := hq
  exact ⟨.inl ⟨.bool true, .bool true, [], rfl, fun _ => rfl, .bool true, z8C l _, fun _ => ⟨List.Pairwise.nil, fun _ hm => (nomatch hm)⟩⟩, h2, h3, h4⟩
section
variable {prog : Program} {w : World} {A : Around} {E : Value -> Shared -> Prop} {s : Shared} {K : Frag}
end
end Att
namespace L2
open PySem PySem.Spec PyProof.Rows
theorem z4m : ∀ {vs : List Value} {ns : List Int}, IntsAre vs ns -> Vals (ns.map V.int) vs
  | _, _, .nil => .nil
  | _, _, .cons n t h => .cons ⟨t, rfl⟩ (z4m h)
def zD9 (H : Hp) : Prop := ∀ b, H b = none \/ ∃ o xs, H b = some (.frz o (.lst xs))
theorem z9l {P : Program} {w : World} {K : PySem.W.Frag} {mg mb : Str -> Option Value} {CX : CXT} {k : Nat} {fa a : Addr} {fd : FuncData} {x : Str} {sp : Sp} {s₁ : Shared} {vs : List Value} {ns : List Int}
    (KX : K.In s₁.heap) (hns : s₁.heap.Ns mainGlobals mg) (hb : s₁.heap.Ns builtinsNs mb) (hbb : ∀ x : Str, x ≠ "__name__" -> mb x = bootBuiltins x) (hlim : s₁.heap.NoLimit) (hg : s₁.gens = #[])
    (ha : s₁.heap.get? a = some { cls := .type "list", data := .seq vs.toArray }) (hi : IntsAre vs ns) (hl : ns.length <= sizeLine) (hr : Room k callerA)
    (F : ∀ base : Heap, K.In base -> base.Ns mainGlobals mg -> FnOk P w K mg base CX k fa fd [x] sp) (hbind : ∀ (s : Shared) (u : Value), BindsTo s fd ⟨[u], []⟩ [(x, u)])
    (hsp : ∀ H : Hp, zD9 H -> SqL K H a (ns.map V.int) -> sp [.ref a] H (fun v _ => v = .bl true) fun _ _ _ => False)
    (hCX : ∀ H e s', CX [] H s₁ (fun _ _ _ => False) e s' -> False) :
    codeAny (model P w) callerA (.call (.ref fa) ⟨[.ref a], []⟩) (fun r s' => r = .ok (.ret (.bool true)) /\ OldK s₁.heap s'.heap /\ s'.os = s₁.os /\ AllBare s'.gens) s₁ := by
  have rv := z4m hi
  have lenV := hi.length
  have core : ∀ H : Hp, zD9 H -> SqL K H a (ns.map V.int) -> HOk P w H s₁.heap -> (∀ b, H b ≠ none -> b = a) -> (H a ≠ none -> K.lookup a = none) ->
      codeAny (model P w) callerA (.call (.ref fa) ⟨[.ref a], []⟩) (fun r s' => r = .ok (.ret (.bool true)) /\ OldK s₁.heap s'.heap /\ s'.os = s₁.os /\ AllBare s'.gens) s₁ := by
    intro H hO hS hok hA hK
    have base_of : ∀ {b : Addr} {o : Obj}, s₁.heap.get? b = some o -> H b = none -> (z9Z s₁.heap H).get? b = some o := fun e n => z9a e n
    have noA : ∀ {b : Addr} {o : Obj} {es : Array DictEntry} {ep : Nat}, s₁.heap.get? b = some o -> o.data = .dict es ep -> H b = none := fun {b o es ep} e d => by
      cases q : H b with
      | none => rfl
      | some u =>
        have e' : b = a := hA b (by rw [q]; simp)
        subst e'
        rw [ha] at e; cases e
        have d' : Data.seq vs.toArray _ = Data.dict es ep := d
        cases d'
    have nsK : ∀ {b : Addr} {m : Str -> Option Value}, s₁.heap.Ns b m -> (z9Z s₁.heap H).Ns b m := fun {b m} ⟨o, es, ep, e, d, r⟩ => ⟨o, es, ep, base_of e (noA e d), d, r⟩
    have hKb : K.In (z9Z s₁.heap H) := fun b o e => base_of (KX b o e) (by
      cases q : H b with
      | none => rfl
      | some u =>
        have e' : b = a := hA b (by rw [q]; simp)
        subst e'
        rw [hK (by rw [q]; simp)] at e; cases e)
    have hM : Mod K mg (z9Z s₁.heap H) := ⟨hKb, nsK hns, ⟨mb, nsK hb, hbb⟩, let ⟨mc, h1, h2⟩ := hlim; ⟨mc, nsK h1, h2⟩⟩
    have e0 : Env0 P w K mg (z9Z s₁.heap H) callerA [] s₁ H := ⟨rfl, hM, fun b o e => zB3 e, Nat.le_of_eq (z7n _ _), trivial, fun b hb => absurd (show b ∈ ([] : List Addr) from hb) (by simp), hok, .of_eq hg⟩
    refine codeAny_mono ((F _ hKb (nsK hns)).run callerA [] s₁ H ⟨[.ref a], []⟩ [.ref a] [.ref a] _ _ hr e0 (hbind s₁ (.ref a)) (.cons rfl .nil) (hsp H hO hS)) fun r s' h => ?_
    cases r with
    | error e => exact (hCX H e s' h).elim
    | ok fl =>
      cases fl with
      | next => exact False.elim h
      | brk => exact False.elim h
      | cont => exact False.elim h
      | ret u =>
        obtain ⟨v, H', os, bare, un, hok', r', q⟩ := h
        have q' : v = .bl true := q
        subst q'
        obtain rfl : u = Value.bool true := r'
        refine ⟨rfl, OldK.of_keep fun b o e => ?_, os, bare⟩
        cases q : H b with
        | none => exact un.keep b o e q (by intro z; exact absurd (show b ∈ ([] : List Addr) from z) (by simp)) (by simp)
        | some u =>
          rcases hO b with z | ⟨ob, xs, z⟩
          . rw [q] at z; cases z
          . have z2 := un.frzs b ob _ z
            obtain ⟨e1, _⟩ := hok b _ z
            obtain ⟨e2, _⟩ := hok' b _ z2
            rw [e] at e1; cases e1
            exact e2
  cases hk : K.lookup a with
  | some o =>
    have e := KX a o hk
    rw [ha] at e
    cases e
    refine core (fun _ => none) (fun _ => .inl rfl) (.inr ⟨_, vs.toArray, _, hk, rfl, rfl, rfl, by rw [List.size_toArray, lenV]; exact hl, by simpa using rv⟩) (fun b u z => by have z' : (none : Option HO) = some u := z; cases z') (fun b z => absurd rfl z) fun z => absurd rfl z
  | none =>
    refine core (fun b => if b = a then some (.frz { cls := .type "list", data := .seq vs.toArray } (.lst (ns.map V.int))) else none) (fun b => ?_) (.inl (.inr ⟨{ cls := .type "list", data := .seq vs.toArray }, if_pos rfl⟩)) (fun b u z => ?_) (fun b z => ?_) fun _ => hk
    . by_cases hb : b = a
      . exact .inr ⟨_, _, if_pos hb⟩
      . exact .inl (if_neg hb)
    . by_cases hb : b = a
      . have z' := (if_pos hb).symm.trans z
        cases z'
        subst hb
        exact ⟨ha, by rw [List.length_map]; exact hl, vs, _, rv, ha⟩
      . have z' := (if_neg hb).symm.trans z
        cases z'
    . by_cases hb : b = a
      . exact hb
      . exact absurd (if_neg hb) z
abbrev KOf {K : PySem.W.Frag} {h : Heap} (_ : K.In h) : PySem.W.Frag := K
theorem walk_of {l : PySem.W.OpenLaw} {n k : Nat} {q : Program} {loose : List Str} {XP : (Str -> Option Value) -> Heap -> Prop} {YP : World -> Heap -> Prop} {d : DefRec} {K : Params -> PySem.W.Frag} {CX : World -> CXT} {sp : World -> Sp} {x : Str}
    (hn : l.most = some n) (hn2 : n <= sizeLine) (hdf : d.params.defaults = []) (hr : Room k callerA)
    (hY : ∀ (w : World) (h : Heap), YP w h -> (K w.params).In h)
    (F : ∀ (w : World) (mg : Str -> Option Value) (fa : Addr) (h : Heap), (K w.params).In h -> h.Ns mainGlobals mg -> mg d.name = some (.ref fa) ->
      ∃ fd : FuncData, (∀ (s : Shared) (u : Value), BindsTo s fd ⟨[u], []⟩ [(x, u)]) /\
        ∀ base : Heap, (K w.params).In base -> base.Ns mainGlobals mg -> FnOk l.prog w (K w.params) mg base (CX w) k fa fd [x] (sp w))
    (hsp : ∀ (w : World) (H : Hp) (a : Addr) (ns : List Int), ns.length <= n -> zD9 H -> SqL (K w.params) H a (ns.map V.int) -> sp w [.ref a] H (fun v _ => v = .bl true) fun _ _ _ => False)
    (hCX : ∀ (w : World) (H : Hp) (s : Shared) (e : Value) (s' : Shared), CX w [] H s (fun _ _ _ => False) e s' -> False) :
    PySem.W.WalkO q loose XP YP l.row.toRowW d [] (fun f vs => PySem.call f vs) := by
  refine Att.attach_call hn hdf fun w s₀ s₁ mg mb fa o pm cd doc a vs ns G Y ho hd hcd hmg hobj hints hlen hg => ?_
  have KX := hY w _ Y
  obtain ⟨fd, hb, hF⟩ := F w mg fa _ KX G.T.g hmg
  exact z9l KX G.T.g G.T.b G.T.builtins G.T.nolimit hg hobj hints (Nat.le_trans hlen hn2) hr hF hb (fun H hO hS => hsp w H a ns hlen hO hS) fun H e s' => hCX w H s₁ e s'
end L2
/- THE LAST THEOREM (shape; LID, My.* are yours):
   My.Adr: a structure of the addresses that your layer names (classes, functions); My.Txt K t: a structure (Prop) of the equations over K;
   My.txt_mk : {K} {implicit addresses ..} (e1 : nsIn K mainGlobals "law" = some (some (.ref f))) (e2 : K.lookup f = some ⟨oc, od, .func (fnOf "law" "law" params body scope dV kV doc pm an cdv ct), sl⟩) (e3 : codeIn K cdv "law" = true) .. : ∃ t, My.Txt K t
set_option maxRecDepth 100000 in
set_option maxHeartbeats 0 in
theorem PySem.Challenge.cw_LID_holds : PySem.Challenge.rw_LID.Holds := by
  w_on; o_law; k_head; (case hw => w_witness2)
  k_fill
  refine L2.walk_of (l := PySem.Challenge.rw_LID) (n := 63) (k := 40) (x := "script") (CX := fun w => ..) (sp := fun _ => My.sp_law) rfl (by decide) rfl ⟨rfl, by decide, by decide⟩ (fun w h Y => PySem.W.kIn_of Y) ?F ?S ?C
  case F =>
    intro w mg fa h KX G hmg
    have T : ∃ t, My.Txt (L2.KOf KX) t := by
      dsimp only [L2.KOf]
      refine' My.txt_mk ?e1 ?e2 ?e3 ..
      (case e1 => PySem.W.k_is)
      (case e2 => PySem.W.k_is)
      ..
    obtain ⟨t, T⟩ := T
    have e0 := hmg.symm.trans (PySem.W.mg_of KX G T.law)
    cases e0
    exact ⟨_, fun s u => .of_eq rfl, fun base kb nb => My.law_fn T kb nb⟩
  case S => exact fun w H a ns hl hO hS => ..
  case C => exact ..
(the tactic k_is has no namespace: write k_is) -/
namespace L2
open PySem PySem.Spec PyProof.Rows
def inClass (s : Stmt) (j : Nat) : Stmt := match s with
  | .ClassDef _ _ _ body _ _ _ _ _ _ _ => body.getD j (.Pass ⟨0, 0, 0, 0⟩)
  | _ => .Pass ⟨0, 0, 0, 0⟩
def z0C (s : Stmt) : Arguments := match s with
  | .FunctionDef _ a _ _ _ _ _ _ _ _ => a
  | _ => { posonlyargs := [], args := [], vararg := none, kwonlyargs := [], kw_defaults := [], kwarg := none, defaults := [] }
def z0A (s : Stmt) : List Stmt := match s with
  | .FunctionDef _ _ b _ _ _ _ _ _ _ => b
  | _ => []
def z02 (s : Stmt) : Scope := match s with
  | .FunctionDef _ _ _ _ _ _ sc _ _ _ => sc
  | _ => { kind := .function, names := [], isGenerator := false, isCoroutine := false }
abbrev CX0 : CXT := fun _ _ _ _ _ _ => False
abbrev E0 : XK := fun _ _ _ => False
theorem z9m {X : Cx} : z1g CX0 X E0 := fun _ _ _ _ _ _ _ h => h.elim
structure Fun (K : PySem.W.Frag) (x qual : Str) (st : Stmt) (f : Addr) (fd : FuncData) : Prop where
  ex : ∃ (oc : Value) (od : Option Addr) (kV doc pm : Value) (an : Option Addr) (cdv ct : Value) (osl : Array (Option Value)),
    fd = PySem.W.fnOf x qual (z0C st) (z0A st) (z02 st) .none kV doc pm an cdv ct /\ K.lookup f = some ⟨oc, od, .func fd, osl⟩ /\ PySem.W.codeIn K cdv qual = true
  kp : PySem.W.keepIn K (.ref f) = true
section
variable {P : Program} {w : World} {K : PySem.W.Frag} {mg : Str -> Option Value} {base : Heap}
theorem Fun.ok {x qual : Str} {st : Stmt} {f : Addr} {fd : FuncData} {N ps : List Str} {k : Nat} {sp : Sp} (F : Fun K x qual st f fd) (S : FnScope N ps (z02 st)) (len : ∀ vs H Q E, sp vs H Q E -> vs.length = ps.length)
    (hbody : ∀ (cdv : Value) (A : Around) (outer : List Env) (s : Shared) (H : Hp) (vs : List V) (Q : VK) (E : XK), Room k (A.deeper (envOfC qual (z02 st) s.heap.objs.size f cdv)) -> sp vs H Q E ->
      ∃ t, PSs (z81 CX0 P w K mg base N qual (z02 st) f cdv A outer s H E).nox (z0A st) t /\ t { nx := fun _ H' => Q .non H', rt := Q } (start N vs) H) : FnOk P w K mg base CX0 (k + 1) f fd ps sp := by
  obtain ⟨oc, od, kV, doc, pm, an, cdv, ct, osl, rfl, lk, hcd⟩ := F.ex
  refine z9i lk hcd S len fun A outer s H vs Q E hr hsp => ?_
  obtain ⟨t, h, q⟩ := hbody cdv A outer s H vs Q E hr hsp
  exact ⟨t, h.nox, q⟩
theorem Fun.binds {x qual : Str} {st : Stmt} {f : Addr} {fd : FuncData} {ps : List Str} (F : Fun K x qual st f fd)
    (h : ∀ (kV doc pm : Value) (an : Option Addr) (cdv ct : Value) (us : List Value), us.length = ps.length -> bindArgs (PySem.W.fnOf x qual (z0C st) (z0A st) (z02 st) .none kV doc pm an cdv ct) ⟨us, []⟩ = pure (ps.zip us)) : Binds K fd ps [] := by
  obtain ⟨oc, od, kV, doc, pm, an, cdv, ct, osl, rfl, lk, hcd⟩ := F.ex
  exact .all (h kV doc pm an cdv ct)
theorem z0N {x qual : Str} {st : Stmt} {f : Addr} {oc : Value} {od an : Option Addr} {osl : Array (Option Value)} {kV doc pm cdv ct : Value} (l : K.lookup f = some ⟨oc, od, .func (PySem.W.fnOf x qual (z0C st) (z0A st) (z02 st) .none kV doc pm an cdv ct), osl⟩)
    (c : PySem.W.codeIn K cdv qual = true) (k : PySem.W.keepIn K (.ref f) = true) : Fun K x qual st f (PySem.W.fnOf x qual (z0C st) (z0A st) (z02 st) .none kV doc pm an cdv ct) := ⟨⟨oc, od, kV, doc, pm, an, cdv, ct, osl, rfl, l, c⟩, k⟩
end
theorem z78 {A : Around} {k : Nat} (hr : Room k A) : A.units + 1 < cLine := Nat.lt_of_le_of_lt (Nat.add_le_add_left (by decide : 1 <= 64) _) hr.units
theorem z0D {n : Nat} (h : n <= 1000) : n < sizeLine := Nat.lt_of_le_of_lt h (by decide)
section
variable {X : Cx}
theorem pv (i : Nat) {x : Str} {pos : Pos} (hN : X.N[i]? = some x := by rfl) (hv : Vis X.env.scope x := by first | exact Or.inl rfl | exact Or.inr (Or.inl rfl) | exact Or.inr (Or.inr rfl)) (hd : (x == ("__debug__" : Str)) = false := by decide)
    (hcd : (x == ("__classdict__" : Str)) = false := by decide) : PE X (.Name x pos) (zCn i) := zC8 hN hv hd hcd
theorem z8D : z2G X (.builtin "len") (fun xs H Q => ∃ a kvs, xs = [V.ref a] /\ H a = some (.dK kvs) /\ Q (.int kvs.length) H) := by
  intro pins s σ H xs us Q I r h
  obtain ⟨a, kvs, rfl, ha, q⟩ := h
  obtain ⟨u, rfl, ru⟩ := vals1 r
  cases ru
  exact zD7 I (.inl ha) fun t s' I' => ⟨.int kvs.length, H, I', ⟨t, rfl⟩, q⟩
end
theorem z3m {A B : Prop} (h : B) : if false = true then A else B := by
  rw [if_neg Bool.false_ne_true]
  exact h
theorem z33 {A B : Prop} (h : A) : if true = true then A else B := by
  rw [if_pos rfl]
  exact h
theorem zCq {c A B : Prop} [Decidable c] (h1 : c -> A) (h2 : ¬ c -> B) : if c then A else B := by
  by_cases h : c
  . rw [if_pos h]
    exact h1 h
  . rw [if_neg h]
    exact h2 h
def Same (H H' : Hp) : Prop := ∀ b o, H b = some o -> H' b = some o
theorem Same.refl (H : Hp) : Same H H := fun _ _ h => h
theorem Same.trans {H H1 H2 : Hp} (a : Same H H1) (b : Same H1 H2) : Same H H2 := fun c o h => b c o (a c o h)
theorem Same.free {H H' : Hp} (e : Same H H') {l : Addr} (h : H' l = Option.none) : H l = Option.none := by
  cases q : H l with
  | none => rfl
  | some o =>
    rw [e l o q] at h
    cases h
theorem Same.seq {K : PySem.W.Frag} {H H' : Hp} {a : Addr} {xs : List V} (e : Same H H') (h : SqL K H a xs) : SqL K H' a xs := by
  rcases h with (h | ⟨o, h⟩) | h
  . exact .inl (.inl (e _ _ h))
  . exact .inl (.inr ⟨o, e _ _ h⟩)
  . exact .inr h
section
variable {κ : Type} [DecidableEq κ]
end
end L2
set_option maxHeartbeats 4000000
namespace L2
open PySem PySem.Spec PyProof.Rows
structure Df (K : PySem.W.Frag) (mg : Str -> Option Value) (x : Str) (st : Stmt) (ps : List Str) (f : Addr) (fd : FuncData) : Prop where
  F : Fun K x x st f fd
  b : Binds K fd ps []
  m : mg x = some (.ref f)
def z9n (K : PySem.W.Frag) : Sp := fun vs H Q _ => ∃ (a : Addr) (ns : List Int), vs = [.ref a] /\ SqL K H a (ns.map V.int) /\ ns.length <= 63 /\ ∀ H', Q (.bl true) H'
theorem Same.new {H : Hp} {l : Addr} {o : HO} (h : H l = none) : Same H (upd H l o) := fun b u e => by
  rw [z07 (z08 e h)]
  exact e
theorem Same.tup {K : PySem.W.Frag} {H H' : Hp} {a : Addr} {xs : List V} (e : Same H H') (h : SqT K H a xs) : SqT K H' a xs := by
  rcases h with (h | ⟨o, h⟩) | h
  . exact .inl (.inl (e _ _ h))
  . exact .inl (.inr ⟨o, e _ _ h⟩)
  . exact .inr h
theorem z1d {b : Bool} {A B : Prop} (hb : b = false) (h : B) : if b = true then A else B := by
  subst hb
  exact z3m h
theorem z8E {b : Bool} {A B : Prop} (hb : b = true) (h : A) : if b = true then A else B := by
  subst hb
  exact z33 h
section
variable {X : Cx}
def tyS (H : Hp) : V -> Option String
  | .non => some "NoneType"
  | .bl _ => some "bool"
  | .int _ => some "int"
  | .str _ => some "str"
  | .ref a => match H a with
    | some (.lst _) => some "list"
    | some (.frz _ (.lst _)) => some "list"
    | some (.tup _) => some "tuple"
    | some (.dK _) => some "dict"
    | some (.dT _) => some "dict"
    | _ => none
  | _ => none
theorem zCL {K : PySem.W.Frag} {H : Hp} {x : V} {T : String} (h : tyS H x = some T) : TyOf K H x (.type T) := by
  cases x with
  | non => cases h; exact .non
  | bl b => cases h; exact .bl b
  | int i => cases h; exact .int i
  | str z => cases h; exact .str z
  | byt b => cases h
  | flt b => cases h
  | ty n => cases h
  | ref a =>
    simp only [tyS] at h
    split at h
    . rename_i e; cases h; exact .lst e
    . rename_i e; cases h; exact .frz e
    . rename_i e; cases h; exact .tup e
    . rename_i e; cases h; exact .dK e
    . rename_i e; cases h; exact .dT e
    . cases h
def z79 (T c : String) : Bool := T == c || (T == "bool" && c == "int")
def zAc : List String := ["NoneType", "bool", "int", "str", "list", "tuple", "dict"]
theorem z8F : ∀ T ∈ zAc, ∀ c ∈ zAc, (if (Value.type T == Value.type c) = true then some true else if PySem.W.kitMeta c = true then (PySem.fastBuiltinMro T).map (·.contains (.type c)) else none) = some (z79 T c) := by decide +kernel
theorem zBN {K : PySem.W.Frag} {T c : String} (hT : T ∈ zAc) (hc : c ∈ zAc) : PySem.W.kitOne K (.type T) (.type c) = some (z79 T c) := z8F T hT c hc
theorem z4C {H : Hp} {x : V} {T : String} (h : tyS H x = some T) : T ∈ zAc := by
  cases x with
  | non => cases h; decide
  | bl b => cases h; decide
  | int i => cases h; decide
  | str z => cases h; decide
  | byt b => cases h
  | flt b => cases h
  | ty n => cases h
  | ref a =>
    simp only [tyS] at h
    split at h <;> first | (cases h; decide) | cases h
theorem z0l : z2G X (.builtin "isinstance") (fun xs H Q => ∃ x c T, xs = [x, .ty c] /\ c ∈ zAc /\ tyS H x = some T /\ Q (.bl (z79 T c)) H) := by
  intro pins s σ H xs us Q I r h
  obtain ⟨x, c, T, rfl, hc, ht, q⟩ := h
  obtain ⟨v, w', rfl, rx, ry⟩ := vals2 r
  cases (show w' = Value.type c from ry)
  exact z7z I rx (zCL ht) (zBN (z4C ht) hc) fun tk => ⟨.bl (z79 T c), H, I.tok tk, rfl, q⟩
end
theorem z3M {cells : List (Str × Addr)} {f : Str × NameKind -> List (Str × Addr) -> Sem (ForInStep (List (Str × Addr)))}
    (hf : ∀ n k r c, k = NameKind.free -> cells.lookup n = some c -> f (n, k) r = pure (.yield ((n, c) :: r))) (hg : ∀ n k r, k ≠ NameKind.free -> f (n, k) r = pure (.yield r)) :
    ∀ (names : List (Str × NameKind)) (acc : List (Str × Addr)), (∀ y ∈ names, y.2 = .free -> ∃ c, cells.lookup y.1 = some c) -> (∀ x c, acc.lookup x = some c -> cells.lookup x = some c) ->
      ∃ cl, forIn names acc f = (pure cl : Sem _) /\ (∀ x c, cl.lookup x = some c -> cells.lookup x = some c) /\ (∀ x c, acc.lookup x = some c -> ∃ d, cl.lookup x = some d) /\ ∀ y ∈ names, y.2 = .free -> ∃ d, cl.lookup y.1 = some d
  | [], acc, _, ha => ⟨acc, by rw [List.forIn_nil], ha, fun x c e => ⟨c, e⟩, fun _ hy => nomatch hy⟩
  | (n, k) :: r, acc, hn, ha => by
    have hr : ∀ y ∈ r, y.2 = .free -> ∃ c, cells.lookup y.1 = some c := fun y hy => hn y (List.mem_cons_of_mem _ hy)
    by_cases hk : k = .free
    . obtain ⟨c, hc⟩ := hn (n, k) List.mem_cons_self hk
      have ha' : ∀ x d, ((n, c) :: acc).lookup x = some d -> cells.lookup x = some d := fun x d e => by
        rw [List.lookup_cons] at e
        cases hx : x == n with
        | true =>
          rw [hx] at e
          cases e
          rw [beq_iff_eq.mp hx]
          exact hc
        | false =>
          rw [hx] at e
          exact ha x d e
      obtain ⟨cl, e, h1, h2, h3⟩ := z3M hf hg r ((n, c) :: acc) hr ha'
      have hh : ∀ x d, acc.lookup x = some d -> ∃ d', cl.lookup x = some d' := fun x d q => by
        cases hx : x == n with
        | true => exact h2 x c (by rw [List.lookup_cons, hx])
        | false => exact h2 x d (by rw [List.lookup_cons, hx]; exact q)
      refine ⟨cl, ?_, h1, hh, fun y hy e' => ?_⟩
      . rw [List.forIn_cons, hf n k acc c hk hc, pure_bind]
        exact e
      . rcases List.mem_cons.mp hy with rfl | hy
        . exact h2 n c (by rw [List.lookup_cons, beq_self_eq_true])
        . exact h3 y hy e'
    . obtain ⟨cl, e, h1, h2, h3⟩ := z3M hf hg r acc hr ha
      refine ⟨cl, ?_, h1, h2, fun y hy e' => ?_⟩
      . rw [List.forIn_cons, hg n k acc hk, pure_bind]
        exact e
      . rcases List.mem_cons.mp hy with rfl | hy
        . exact absurd e' hk
        . exact h3 y hy e'
theorem z8G {sc : Scope} {env : Env} (hfree : ∀ y ∈ sc.names, y.2 = .free -> ∃ c, env.cells.lookup y.1 = some c) :
    ∃ cl : List (Str × Addr), closureFor sc env = pure cl /\ (∀ x c, cl.lookup x = some c -> env.cells.lookup x = some c) /\ ∀ y ∈ sc.names, y.2 = .free -> ∃ c, cl.lookup y.1 = some c := by
  obtain ⟨cl, e, h1, _, h3⟩ := z3M (cells := env.cells) (f := fun (y : Str × NameKind) r => if (y.2 == NameKind.free) = true then (do let a <- cellOf env y.1; pure (ForInStep.yield ((y.1, a) :: r))) else pure (ForInStep.yield r))
    (fun n k r c hk hc => by
      subst hk
      show (if (NameKind.free == NameKind.free) = true then (cellOf env n >>= fun a => pure (ForInStep.yield ((n, a) :: r))) else pure (ForInStep.yield r)) = _
      rw [if_pos (show (NameKind.free == NameKind.free) = true by decide)]
      have e : cellOf env n = pure c := by unfold cellOf; rw [hc]
      rw [e, pure_bind])
    (fun n k r hk => by
      show (if (k == NameKind.free) = true then (cellOf env n >>= fun a => pure (ForInStep.yield ((n, a) :: r))) else pure (ForInStep.yield r)) = _
      rw [if_neg (by simpa using hk)])
    sc.names [] hfree (fun x c q => nomatch q)
  refine ⟨cl, ?_, h1, h3⟩
  unfold closureFor
  first
    | (rw [e]; rfl)
    | (refine Eq.trans (congrArg (fun t => t >>= fun cs => pure cs) e) ?_; rw [pure_bind])
    | (simp only [bind_pure]; exact e)
theorem z1T {env : Env} : ∀ {names : List (Str × NameKind)} {x : Str}, names.lookup x = some .free ->
    ((names.map fun (n, k) => if (k == NameKind.free && env.scope.kind == .function && env.kindOf n == some .cell) then (n, NameKind.cell) else (n, k)).lookup x = some .cell) \/
    ((names.map fun (n, k) => if (k == NameKind.free && env.scope.kind == .function && env.kindOf n == some .cell) then (n, NameKind.cell) else (n, k)).lookup x = some .free)
  | [], _, h => by cases h
  | (n, k) :: r, x, h => by
    have ih := @z1T env r x
    rw [List.map_cons]
    cases hx : x == n with
    | true =>
      rw [List.lookup_cons, hx] at h
      cases h
      by_cases hc : (NameKind.free == NameKind.free && env.scope.kind == .function && env.kindOf n == some .cell) = true
      . left
        show List.lookup x ((if (NameKind.free == NameKind.free && env.scope.kind == .function && env.kindOf n == some .cell) = true then (n, NameKind.cell) else (n, NameKind.free)) :: _) = _
        rw [if_pos hc, List.lookup_cons, hx]
      . right
        show List.lookup x ((if (NameKind.free == NameKind.free && env.scope.kind == .function && env.kindOf n == some .cell) = true then (n, NameKind.cell) else (n, NameKind.free)) :: _) = _
        rw [if_neg hc, List.lookup_cons, hx]
    | false =>
      rw [List.lookup_cons, hx] at h
      have z : ∀ (y : Str × NameKind) (t : List (Str × NameKind)), y.1 = n -> List.lookup x (y :: t) = List.lookup x t := fun y t e => by
        obtain ⟨y1, y2⟩ := y
        cases (show y1 = n from e)
        rw [List.lookup_cons, hx]
      rw [z _ _ (by
        show (if (k == NameKind.free && env.scope.kind == .function && env.kindOf n == some .cell) = true then (n, NameKind.cell) else (n, k)).1 = n
        split <;> rfl)]
      exact ih h
theorem z1z {env : Env} : ∀ {names : List (Str × NameKind)} {x : Str}, (∀ y ∈ names, y.2 ≠ .cell) ->
    (((names.map fun (n, k) => if (k == NameKind.free && env.scope.kind == .function && env.kindOf n == some .cell) then (n, NameKind.cell) else (n, k)).lookup x = some .cell) \/
    ((names.map fun (n, k) => if (k == NameKind.free && env.scope.kind == .function && env.kindOf n == some .cell) then (n, NameKind.cell) else (n, k)).lookup x = some .free)) -> ∃ y ∈ names, y.1 = x /\ y.2 = .free
  | [], _, _, h => by rcases h with h | h <;> cases h
  | (n, k) :: r, x, hc, h => by
    have ih := @z1z env r x fun y hy => hc y (List.mem_cons_of_mem _ hy)
    rw [List.map_cons] at h
    cases hx : x == n with
    | true =>
      have e : x = n := beq_iff_eq.mp hx
      by_cases hk : k = .free
      . exact ⟨(n, k), List.mem_cons_self, e.symm, hk⟩
      . exfalso
        have q : (if (k == NameKind.free && env.scope.kind == .function && env.kindOf n == some .cell) = true then (n, NameKind.cell) else (n, k)) = (n, k) := by
          rw [if_neg]
          intro z
          rw [Bool.and_eq_true, Bool.and_eq_true] at z
          exact hk (by simpa using z.1.1)
        have h' : List.lookup x ((n, k) :: (r.map fun (n, k) => if (k == NameKind.free && env.scope.kind == .function && env.kindOf n == some .cell) then (n, NameKind.cell) else (n, k))) = some .cell \/
            List.lookup x ((n, k) :: (r.map fun (n, k) => if (k == NameKind.free && env.scope.kind == .function && env.kindOf n == some .cell) then (n, NameKind.cell) else (n, k))) = some .free := by
          rw [<- q]
          exact h
        rw [List.lookup_cons, hx] at h'
        rcases h' with z | z
        . exact hc (n, k) List.mem_cons_self (Option.some.inj z)
        . exact hk (Option.some.inj z)
    | false =>
      have z : ∀ (y : Str × NameKind) (t : List (Str × NameKind)), y.1 = n -> List.lookup x (y :: t) = List.lookup x t := fun y t e => by
        obtain ⟨y1, y2⟩ := y
        cases (show y1 = n from e)
        rw [List.lookup_cons, hx]
      rw [z _ _ (by
        show (if (k == NameKind.free && env.scope.kind == .function && env.kindOf n == some .cell) = true then (n, NameKind.cell) else (n, k)).1 = n
        split <;> rfl)] at h
      obtain ⟨y, hy, e⟩ := ih h
      exact ⟨y, List.mem_cons_of_mem _ hy, e⟩
def z3Z (X : Cx) (locs : List Str) (ix : List Nat) : List Str := locs ++ ix.map fun i => X.N.getD i Str.empty
def zAd (k : Nat) (ix : List Nat) (σ : St) : St := List.replicate k none ++ ix.map fun i => (σ[i]?).join
abbrev cxC (X : Cx) (sc : Scope) (cl : List (Str × Addr)) (C : Addr) (N : List Str) (fp : List Addr) (s2 : Shared) (H2 : Hp) (pn : List (Addr × Obj)) : Cx :=
  { X with N := N, s₀ := s2, H₀ := H2, env := compEnvC sc cl C X.env, outer := X.stack, ex := fp, fn := fun _ => false, pn := pn, xe := fun _ _ => False }
structure BlkSc (X : Cx) (sc : Scope) (locs : List Str) (ix : List Nat) : Prop where
  kind : sc.kind = .function
  cell : ∀ y ∈ sc.names, y.2 ≠ .cell
  free : ∀ y ∈ sc.names, y.2 = .free -> X.env.kindOf y.1 = some .cell \/ X.env.kindOf y.1 = some .free
  names : ∀ y ∈ sc.names, y.2 = .local -> sc.names.lookup y.1 = some .local
  fr : ∀ i ∈ ix, ∃ x, X.N[i]? = some x /\ sc.names.lookup x = some .free
section
variable {X : Cx} {pins : List (Addr × Obj)} {σ : St} {H2 : Hp} {s2 : Shared} {sc : Scope} {cl : List (Str × Addr)} {locs : List Str} {ix : List Nat} {fp : List Addr}
theorem z2D {names : List (Str × NameKind)} {x : Str} {k : NameKind} : names.lookup x = some k -> (x, k) ∈ names := by
  induction names with
  | nil => intro h; cases h
  | cons y r ih =>
    obtain ⟨n, j⟩ := y
    intro h
    rw [List.lookup_cons] at h
    cases hx : x == n with
    | true =>
      rw [hx] at h
      cases h
      rw [beq_iff_eq.mp hx]
      exact List.mem_cons_self
    | false =>
      rw [hx] at h
      exact List.mem_cons_of_mem _ (ih h)
theorem zCM (I : Inv X pins σ H2 s2) (B : BlkSc X sc locs ix) (hcl : ∀ x c, cl.lookup x = some c -> X.env.cells.lookup x = some c) (hcl' : ∀ y ∈ sc.names, y.2 = .free -> ∃ c, cl.lookup y.1 = some c)
    (hf : ∀ b ∈ fp, z7j X pins H2 b) {C : Addr} (hC : s2.heap.objs.size <= C) (hfC : ∀ b ∈ fp, b ≠ C) {N : List Str} {pn : List (Addr × Obj)} : (cxC X sc cl C N fp s2 H2 pn).Ok where
  mod := I.ok.mod
  kind := B.kind
  glob := I.ok.glob
  blt := I.ok.blt
  above := hC
  inj := fun x y c h1 h2 => I.ok.inj x y c (hcl x c h1) (hcl y c h2)
  has := fun x h => by
    obtain ⟨y, hy, e, hk⟩ := z1z (env := X.env) B.cell h
    subst e
    exact hcl' y hy hk
  cab := fun x c h _ => nomatch h
  hd := I.ok.hd
  frames := I.ok.frames
  stk := .inl rfl
  exf := fun b hb => ⟨hfC b hb, fun x c e => (hf b hb).2.2.2.2.1 x c (hcl x c e)⟩
  bs := fun b o e => I.bs b o e
  bsz := Nat.le_trans I.ok.bsz I.sz
  noex := fun b o e hb => by
    obtain ⟨_, _, _, h4, _⟩ := hf b hb
    rcases h4 with h | h
    . exact I.ok.noex b o e h
    . exact absurd (Nat.lt_of_lt_of_le (Nat.lt_of_lt_of_le (Heap.lt_size e) I.ok.bsz) h) (Nat.lt_irrefl _)
  exfs := fun b hb z => by
    obtain ⟨_, h2, h3, _⟩ := hf b hb
    rcases List.mem_cons.mp (I.stkSub b z) with e | e
    . exact h2 e
    . exact h3 e
  funs := I.stack
  frf := I.stkFree
theorem z8H (I : Inv X pins σ H2 s2) (B : BlkSc X sc locs ix) (hcl : ∀ x c, cl.lookup x = some c -> X.env.cells.lookup x = some c) (hcl' : ∀ y ∈ sc.names, y.2 = .free -> ∃ c, cl.lookup y.1 = some c)
    (hf : ∀ b ∈ fp, z7j X pins H2 b) (hfl : ∀ b ∈ fp, b < s2.heap.objs.size) {h1 : Heap} {tk : Nat} {m0 : Str -> Option Value} {D C : Addr} {oD : Obj} (hD : s2.heap.objs.size <= D) (hC : s2.heap.objs.size <= C) (hDC : D ≠ C)
    (old : ∀ b o, s2.heap.get? b = some o -> h1.get? b = some o) (ns : h1.Ns C m0) (gD : h1.get? D = some oD) (dD : ∀ v, oD.data ≠ .cell v) :
    Inv (cxC X sc cl C (z3Z X locs ix) fp s2 H2 (X.pn ++ pins)) [(D, oD)] (zAd locs.length ix σ) H2 { s2 with heap := h1, toks := tk } := by
  have low : ∀ b o, s2.heap.get? b = some o -> b < s2.heap.objs.size := fun b o e => Heap.lt_size e
  have nst : ∀ b, s2.heap.objs.size <= b -> b ∉ frs X.stack := fun b hb z => by
    obtain ⟨_, o, ho, _⟩ := I.stack.mem z
    exact absurd (Nat.lt_of_lt_of_le (low b o ho) hb) (Nat.lt_irrefl _)
  refine ⟨zCM I B hcl hcl' hf hC fun b hb => Nat.ne_of_lt (Nat.lt_of_lt_of_le (hfl b hb) hC), rfl, I.bare, Un.kept old, ⟨m0, ns, fun i x v e1 e2 e3 => ?_⟩, fun x c e => ?_, I.hok.fresh hC, fun x c e => I.freeC x c (hcl x c e), fun p hp => ?_, I.hok.kept old, ?_⟩
  . have e2' : (zAd locs.length ix σ)[i]? = some (some v) := e2
    have e1' : (z3Z X locs ix)[i]? = some x := e1
    unfold zAd at e2'
    unfold z3Z at e1'
    by_cases hi : i < locs.length
    . rw [List.getElem?_append_left (by rw [List.length_replicate]; exact hi), List.getElem?_replicate, if_pos hi] at e2'
      cases e2'
    . rw [List.getElem?_append_right (by rw [List.length_replicate]; omega), List.length_replicate, List.getElem?_map] at e2'
      rw [List.getElem?_append_right (by omega), List.getElem?_map] at e1'
      cases hj : ix[i - locs.length]? with
      | none =>
        rw [hj] at e2'
        cases e2'
      | some j =>
        rw [hj] at e2' e1'
        have e4 : (σ[j]?).join = some v := Option.some.inj e2'
        have e5 : X.N.getD j Str.empty = x := Option.some.inj e1'
        obtain ⟨x', hx', hfree⟩ := B.fr j (List.mem_of_getElem? hj)
        have e6 : x' = x := by
          rw [<- e5, List.getD_eq_getElem?_getD, hx']
          rfl
        subst e6
        have e7 : σ[j]? = some (some v) := by
          cases hs : σ[j]? with
          | none => rw [hs] at e4; cases e4
          | some o =>
            rw [hs] at e4
            cases o with
            | none => cases e4
            | some w => cases e4; rfl
        have hk := B.free (x', .free) (z2D hfree) rfl
        obtain ⟨m, _, hl⟩ := I.loc
        obtain ⟨u, r, l⟩ := hl j x' v hx' e7 (hk.elim (fun z => .inr (.inl z)) fun z => .inr (.inr z))
        refine ⟨u, r, .inr ⟨z1T (env := X.env) hfree, ?_⟩⟩
        obtain ⟨c, hc⟩ := hcl' (x', .free) (z2D hfree) rfl
        rcases l with ⟨k, _⟩ | ⟨_, c', hc', z⟩
        . rcases hk with hk | hk
          . rw [hk] at k; cases k
          . rw [hk] at k; cases k
        . have q := hcl x' c hc
          rw [hc'] at q
          cases q
          obtain ⟨o, ho, hd⟩ := z
          exact ⟨_, hc, o, old _ _ ho, hd⟩
  . obtain ⟨v, o, ho, hd⟩ := I.cell x c (hcl x c e)
    exact ⟨v, o, old _ _ ho, hd⟩
  . rcases List.mem_append.mp hp with hp | hp
    . obtain ⟨e, n, ne, nf, d⟩ := I.pin p hp
      refine ⟨old _ _ e, n, Nat.ne_of_lt (Nat.lt_of_lt_of_le (low _ _ e) hC), fun z => ?_, d⟩
      rcases List.mem_cons.mp (I.stkSub p.1 z) with q | q
      . exact ne q
      . exact nf q
    . have e : p = (D, oD) := by simpa using hp
      subst e
      exact ⟨gD, I.hok.fresh hD, hDC, nst D hD, dD⟩
  . show (zAd locs.length ix σ).length = (z3Z X locs ix).length
    unfold zAd z3Z
    rw [List.length_append, List.length_append, List.length_replicate, List.length_map, List.length_map]
theorem z9o {N : List Str} {pn : List (Addr × Obj)} {C D : Addr} {s' : Shared} {σ' : St} {H' : Hp} {ys : List V} {its : List Value} {n : Nat} (I : Inv X pins σ H2 s2) (hf : ∀ b ∈ fp, z7j X pins H2 b) (hD : s2.heap.objs.size <= D)
    (I' : Inv (cxC X sc cl C N fp s2 H2 pn) [(D, { cls := .type "list", data := .seq its.toArray n })] σ' H' s') (hv : Vals ys its) (hz : ys.length <= sizeLine) : H' D = none /\ Inv X pins σ (upd H' D (.lst ys)) s' := by
  obtain ⟨gD, nD, _⟩ := I'.pin (D, { cls := .type "list", data := .seq its.toArray n }) (List.mem_append_right _ List.mem_cons_self)
  have low : ∀ b o, s2.heap.get? b = some o -> b ≠ D := fun b o e => Nat.ne_of_lt (Nat.lt_of_lt_of_le (Heap.lt_size e) hD)
  have lowH : ∀ b o, H2 b = some o -> b ≠ D := fun b o e => Nat.ne_of_lt (Nat.lt_of_lt_of_le (I.hok.lt e) hD)
  have U : Un (frs X.stack) fp H2 H' s2.heap s'.heap := I'.base
  refine ⟨nD, I.call' (ch := fp) I'.os ⟨U.keep, U.slot, fun b o e hn hx => ?_, U.there, fun b xs e => ?_, fun b o u e => ?_, fun b ps e => ?_⟩ (fun b u e => ?_) I'.bare fun b hb => ?_⟩
  . rw [z07 (low b o e)]
    exact U.free b o e hn hx
  . rw [z07 (lowH b _ e)]
    exact U.tups b xs e
  . rw [z07 (lowH b _ e)]
    exact U.frzs b o u e
  . rw [z07 (lowH b _ e)]
    exact U.tbls b ps e
  . by_cases hb : b = D
    . subst hb
      rw [upd_same] at e
      cases e
      exact ⟨hz, its, n, hv, gD⟩
    . rw [z07 hb] at e
      exact (I'.hok b u e).stay (fun _ _ _ q => q) (fun c q => by rw [z07 (z08 q nD)]; exact q) fun c xs q => by rw [z07 (z08 q nD)]; exact q
  . obtain ⟨_, f1, _, f3, f4, f5⟩ := hf b hb
    exact ⟨f3, f1, f4, f5⟩
end
section
variable {prog : Program} {w : World} {A : Around} {R : Result -> Shared -> Prop} {s : Shared}
theorem z8I {elt tgt src : Expr} {tests : List Expr} {sc : Scope} {p : Pos} {itv acc : Value} {ev : Env} (J : Nat -> Shared -> Prop)
    (turn : ∀ n s, J n s -> wpAny (model prog w) A (pyNext itv) (fun r s1 => match r with
      | none => R (.ok .next) s1
      | some v => wpAny (model prog w) A (letOwnedTupleGo tgt itv v) (fun _ s2 => wpAny (model prog w) A (assign tgt ev v) (fun _ s3 =>
          wpAny (model prog w) A (forIn tests true fun c r => if r = true then do let ok <- isTrue c ev (eval c ev); pure (ForInStep.yield ok) else pure (ForInStep.yield r)) (fun ok s4 =>
            if ok = true then wpAny (model prog w) A (eval elt ev) (fun x s5 => wpAny (model prog w) A (call (.builtin "list.append") [acc, x]) (fun _ s6 => ∃ m, m < n /\ J m s6) (fun _ _ => False) s5) (fun _ _ => False) s4
            else ∃ m, m < n /\ J m s4) (fun _ _ => False) s3) (fun _ _ => False) s2) (fun _ _ => False) s1) (fun _ _ => False) s)
    (n : Nat) (h : J n s) : codeAny (model prog w) A (.compLoop (.ListComp elt [⟨tgt, src, tests, 0⟩] sc p) 0 itv acc ev) R s := by
  refine codeAny_loop rfl J (fun n s hJ => ?_) n h
  show wpAny _ A ((compTurn (.ListComp elt [⟨tgt, src, tests, 0⟩] sc p) 0 itv acc ev).onRaise (fun x => do noteFrame x ev; theTreesLotGoes x)) _ _ s
  refine wpAny_noted (wpAny_noRaise ?_)
  rw [compTurn_list]
  refine wpAny_bind (wpAny_standAt (wpAny_bind (thn (turn n s hJ) fun r s1 h1 => ?_)))
  cases r with
  | none => exact wpAny_pure h1
  | some v =>
    refine wpAny_bind (thn h1 fun _ s2 h2 => wpAny_bind (thn h2 fun _ s3 h3 => wpAny_bind (thn h3 fun ok s4 h4 => ?_)))
    cases ok with
    | false => exact wpAny_pure ⟨rfl, h4⟩
    | true => exact wpAny_bind (wpAny_bind (thn h4 fun x s5 h5 => wpAny_bind (thn h5 fun _ s6 h6 => wpAny_pure (wpAny_pure ⟨rfl, h6⟩))))
end
def PTs (X : Cx) (tests : List Expr) (t : TT) : Prop :=
  ∀ (pins : List (Addr × Obj)) (s : Shared) (σ : St) (H : Hp) (Q : Bool -> Hp -> Prop), Inv X pins σ H s -> t σ H Q ->
    wpAny (model X.prog X.w) X.A (forIn tests true fun c r => if r = true then do let ok <- isTrue c X.env (eval c X.env); pure (ForInStep.yield ok) else pure (ForInStep.yield r)) (TP X pins σ Q) X.xe s
def zDg : TT := fun _ H Q => Q true H
theorem z0e {X : Cx} : PTs X [] zDg := fun _ _ _ H _ I h => wpAny_tests_nil ⟨H, I, h⟩
def z9p (J : It) (g : TG) (tt : TT) (te : TE) (Fin : List V -> Hp -> Prop) (W : Nat -> Nat -> St -> List V -> Hp -> Prop) : Prop :=
  ∀ i m σ ys H, W i m σ ys H -> (J.stop i H /\ ys.length <= sizeLine /\ Fin ys H) \/
    (J.go i H /\ ys.length < sizeLine /\ ∀ x H', J.yld i H x H' -> g x σ H' fun σ2 H2 => tt σ2 H2 fun b H3 => if b = true then te σ2 H3 fun y H4 => ∃ m', m' < m /\ W (i + 1) m' σ2 (ys ++ [y]) H4 else ∃ m', m' < m /\ W (i + 1) m' σ2 ys H3)
def zDA (wi : TI) (k : Nat) (ix : List Nat) (g : TG) (tt : TT) (te : TE) : TE := fun σ H Q => wi σ H fun J H1 =>
  ∃ W : Nat -> Nat -> St -> List V -> Hp -> Prop, (∃ m, W 0 m (zAd k ix σ) [] H1) /\ z9p J g tt te (fun ys H => ∀ l, H l = none -> Q (.ref l) (upd H l (.lst ys))) W
section
variable {X : Cx} {elt tgt iter : Expr} {tests : List Expr} {sc : Scope} {pos : Pos} {locs : List Str} {ix : List Nat} {wi : TI} {g : TG} {tt : TT} {te : TE}
theorem z3n {pins : List (Addr × Obj)} {σ : St} {H2 : Hp} {s2 : Shared} {cl : List (Str × Addr)} {fp : List Addr} {it : Addr} {tn : Nat -> Heap -> Prop} {J : It} {W : Nat -> Nat -> St -> List V -> Hp -> Prop} {Fin : List V -> Hp -> Prop} {RR : Value -> Addr -> Result -> Shared -> Prop} {m0 : Nat} {E : Value -> Shared -> Prop}
    (hc : X.calm = true) (B : BlkSc X sc locs ix)
    (hg : ∀ cl C fp s2 H2 pn, PG (cxC X sc cl C (z3Z X locs ix) fp s2 H2 pn) tgt g) (ht : ∀ cl C fp s2 H2 pn, PTs (cxC X sc cl C (z3Z X locs ix) fp s2 H2 pn) tests tt) (he : ∀ cl C fp s2 H2 pn, PE (cxC X sc cl C (z3Z X locs ix) fp s2 H2 pn) elt te)
    (I : Inv X pins σ H2 s2) (T : Turn X.prog X.w X.K tgt J fp it tn) (st2 : tn 0 s2.heap) (hf : ∀ b ∈ fp, z7j X pins H2 b)
    (hcl : ∀ x c, cl.lookup x = some c -> X.env.cells.lookup x = some c) (hcl' : ∀ y ∈ sc.names, y.2 = .free -> ∃ c, cl.lookup y.1 = some c)
    (w0 : W 0 m0 (zAd locs.length ix σ) [] H2) (turn : z9p J g tt te Fin W)
    (hR : ∀ D C s' H' ys m, H' D = none -> s2.heap.objs.size <= C -> H' C = none -> C ≠ D -> Inv X pins σ (upd H' D (.lst ys)) s' -> Fin ys H' -> s'.heap.Ns C m -> RR (.ref D) C (.ok .next) s') :
    wpAny (model X.prog X.w) X.A (newList []) (fun acc s₃ => wpAny (model X.prog X.w) X.A (newFunctionEnv sc X.env.globals cl [] X.env.qual none .none (some X.env)) (fun cenv s₄ =>
      codeAny (model X.prog X.w) X.A (.compStart (.ListComp elt [⟨tgt, iter, tests, 0⟩] sc pos) 0 (.ref it) acc { cenv with scope := relabel sc X.env }) (RR acc cenv.locals) s₄) E s₃) E s2 := by
  refine wpAny_newObj_type (wpAny_newFunctionEnv B.cell (by intro y hy; cases hy) (fun h1 ns1 sb1 => ?_) B.kind)
  dsimp only at ns1 sb1 ⊢
  generalize eH : s2.heap.push { cls := .type "list", dict := none, data := .seq ([] : List Value).toArray } = G at ns1 sb1 ⊢
  have zG : G.objs.size = s2.heap.objs.size + 1 := by rw [<- eH, Heap.size_push]
  have hDC : s2.heap.objs.size ≠ G.objs.size := by omega
  have old : ∀ b o, s2.heap.get? b = some o -> h1.get? b = some o := fun b o e => sb1.extBut b o (Nat.ne_of_lt (Nat.lt_of_lt_of_le (Heap.lt_size e) (by omega))) (Heap.get?_push_of_some _ (eH ▸ Heap.get?_push_of_some _ e))
  have gD : h1.get? s2.heap.objs.size = some { cls := .type "list", data := .seq ([] : List Value).toArray 0 } := sb1.extBut _ _ hDC (Heap.get?_push_of_some _ (eH ▸ Heap.get?_push_size _ rfl))
  have hfl : ∀ b ∈ fp, b < s2.heap.objs.size := fun b hb => by
    obtain ⟨o, e, _⟩ := T.obj 0 s2.heap st2 b hb
    exact Heap.lt_size e
  have Y := fun tk => z8H (tk := tk) (locs := locs) I B hcl hcl' hf hfl (Nat.le_refl _) (by omega : s2.heap.objs.size <= G.objs.size) hDC old ns1 gD (fun v z => by cases z)
  have st1 : tn 0 h1 := T.keep 0 _ _ st2 fun b _ o e => old b o e
  have stat : ∀ {oD : Obj} {H' : Hp}, (∀ b ∈ fp, H' b = none) -> ∀ b ∈ fp, z7j (cxC X sc cl G.objs.size (z3Z X locs ix) fp s2 H2 (X.pn ++ pins)) [(s2.heap.objs.size, oD)] H' b := fun {oD H'} hn b hb => by
    obtain ⟨_, f1, f2, _, f4, f5⟩ := hf b hb
    refine ⟨hn b hb, Nat.ne_of_lt (Nat.lt_of_lt_of_le (hfl b hb) (by show s2.heap.objs.size <= G.objs.size; omega)), fun z => ?_, .inl hb, fun x c e => f4 x c (hcl x c e), fun p hp => ?_⟩
    . rcases List.mem_cons.mp (I.stkSub b z) with q | q
      . exact f1 q
      . exact f2 q
    . rcases List.mem_append.mp hp with hp | hp
      . exact f5 p hp
      . have e : p = (s2.heap.objs.size, oD) := by simpa using hp
        rw [e]
        exact Nat.ne_of_gt (hfl b hb)
  have loop : ∀ tk, codeAny (model X.prog X.w) X.A (.compLoop (.ListComp elt [⟨tgt, iter, tests, 0⟩] sc pos) 0 (.ref it) (.ref s2.heap.objs.size) (compEnvC sc cl G.objs.size X.env)) (RR (.ref s2.heap.objs.size) G.objs.size) { s2 with heap := h1, toks := tk } := by
    intro tk
    refine z8I (fun n s => ∃ i σ' ys its nn H', Inv (cxC X sc cl G.objs.size (z3Z X locs ix) fp s2 H2 (X.pn ++ pins)) [(s2.heap.objs.size, { cls := .type "list", data := .seq (List.toArray its) nn })] σ' H' s /\ tn i s.heap /\ (∀ b ∈ fp, H' b = none) /\ Vals ys its /\ W i n σ' ys H') ?_ m0
      ⟨0, _, [], [], 0, H2, Y tk, st1, fun b hb => (hf b hb).1, .nil, w0⟩
    rintro n s ⟨i, σ', ys, its, nn, H', I1, st, fr, hv, hw⟩
    rcases turn i n σ' ys H' hw with ⟨stop, hz, fin⟩ | ⟨go, hz, step⟩
    . refine thn (T.done (cxC X sc cl G.objs.size (z3Z X locs ix) fp s2 H2 (X.pn ++ pins)) rfl rfl rfl hc i _ s σ' H' (fun _ _ => False) I1 (stat fr) st stop) fun r s1 ⟨er, I2⟩ => ?_
      subst er
      obtain ⟨nD, I3⟩ := z9o I hf (Nat.le_refl _) I2 hv hz
      obtain ⟨m, ns, _⟩ := I2.loc
      exact hR _ _ s1 H' ys m nD (by omega) I2.free (Ne.symm hDC) I3 fin ns
    . refine thn (T.item (cxC X sc cl G.objs.size (z3Z X locs ix) fp s2 H2 (X.pn ++ pins)) rfl rfl rfl hc i _ s σ' H' (fun _ _ => False) I1 (stat fr) st go) fun r s3 ⟨u, er, h3⟩ => ?_
      subst er
      refine thn h3 fun _ s5 ⟨x, H5, I5, r5, y5, st5, fr5⟩ => ?_
      have I5' := I5.pinned (stat fr5) (T.obj _ _ st5)
      refine thn (hg cl G.objs.size fp s2 H2 (X.pn ++ pins) _ s5 σ' H5 x u _ I5' r5 (step x H5 y5)) fun _ s6 ⟨σ6, H6, I6, q6⟩ => ?_
      refine thn (ht cl G.objs.size fp s2 H2 (X.pn ++ pins) _ s6 σ6 H6 _ I6 q6) fun b s7 ⟨H7, I7, q7⟩ => ?_
      have tn7 : ∀ {s' : Shared} {σ'' : St} {H'' : Hp}, Inv (cxC X sc cl G.objs.size (z3Z X locs ix) fp s2 H2 (X.pn ++ pins)) ([(s2.heap.objs.size, { cls := .type "list", data := .seq (List.toArray its) nn })] ++ z4d fp s5.heap) σ'' H'' s' -> tn (i + 1) s'.heap /\ ∀ b ∈ fp, H'' b = none := fun J => by
        refine ⟨T.keep _ _ _ st5 fun b hb o e => (J.pin (b, o) (List.mem_append_right _ (List.mem_append_right _ (z26 hb e)))).1, fun b hb => ?_⟩
        obtain ⟨o, e, d⟩ := T.obj _ _ st5 b hb
        exact (J.pin (b, o) (List.mem_append_right _ (List.mem_append_right _ (z26 hb e)))).2.1
      cases b with
      | false =>
        obtain ⟨m', hm, w'⟩ := q7
        exact ⟨m', hm, i + 1, σ6, ys, its, nn, H7, I7.unpinned, (tn7 I7).1, (tn7 I7).2, hv, w'⟩
      | true =>
        refine thn (he cl G.objs.size fp s2 H2 (X.pn ++ pins) _ s7 σ6 H7 _ I7 q7) fun y s8 ⟨yv, H8, I8, r8, q8⟩ => ?_
        obtain ⟨m', hm, w'⟩ := q8
        obtain ⟨gD8, nD8, _⟩ := I8.pin (s2.heap.objs.size, { cls := .type "list", data := .seq (List.toArray its) nn }) (List.mem_append_right _ (List.mem_append_left _ List.mem_cons_self))
        have hl := hv.length
        refine append_at (hsz := by rw [List.size_toArray]; omega) gD8 fun h9 sb9 gD9 => ?_
        have Iu : Inv (cxC X sc cl G.objs.size (z3Z X locs ix) fp s2 H2 (X.pn ++ pins)) [] σ6 H8 s8 := I8.pins_of fun p hp => nomatch hp
        have It : Inv (cxC X sc cl G.objs.size (z3Z X locs ix) fp s2 H2 (X.pn ++ pins)) [] σ6 H8 { s8 with heap := h9, toks := s8.toks } := Iu.turned (fun b o hb e => (sb9.2 b hb).trans e) nD8 hDC (.inr (Nat.le_refl _))
          (fun x c e => by
            obtain ⟨v, o, ho, _⟩ := I.cell x c (hcl x c e)
            exact Nat.ne_of_lt (Heap.lt_size ho))
          (fun p hp => by
            rcases List.mem_append.mp hp with hp | hp
            . exact Nat.ne_of_lt (Heap.lt_size (I.pin p hp).1)
            . cases hp)
        have gD9' : h9.get? s2.heap.objs.size = some { cls := .type "list", data := .seq (its ++ [y]).toArray (nn + 1) } := by
          rw [gD9, List.push_toArray]
        have In : Inv (cxC X sc cl G.objs.size (z3Z X locs ix) fp s2 H2 (X.pn ++ pins)) [(s2.heap.objs.size, { cls := .type "list", data := .seq (its ++ [y]).toArray (nn + 1) })] σ6 H8 { s8 with heap := h9, toks := s8.toks } := It.pins_of fun p hp => by
          have e : p = (s2.heap.objs.size, { cls := .type "list", data := .seq (its ++ [y]).toArray (nn + 1) }) := by simpa using hp
          subst e
          refine ⟨gD9', nD8, hDC, fun z => ?_, fun v z => by cases z⟩
          obtain ⟨_, o, ho, _⟩ := I.stack.mem z
          exact absurd (Heap.lt_size ho) (Nat.lt_irrefl _)
        refine ⟨m', hm, i + 1, σ6, ys ++ [yv], its ++ [y], nn + 1, H8, In, ?_, (tn7 I8).2, Vals.append hv (.cons r8 .nil), w'⟩
        exact T.keep _ _ _ (tn7 I8).1 fun b hb o e => (sb9.2 b (Nat.ne_of_lt (hfl b hb))).trans e
  exact codeAny_compStart_list (loop _) (T.self X.A 0 _ _ _ st1 (loop _))
theorem z1e (hc : X.calm = true) (B : BlkSc X sc locs ix) (hi : PI X tgt iter wi)
    (hg : ∀ cl C fp s2 H2 pn, PG (cxC X sc cl C (z3Z X locs ix) fp s2 H2 pn) tgt g) (ht : ∀ cl C fp s2 H2 pn, PTs (cxC X sc cl C (z3Z X locs ix) fp s2 H2 pn) tests tt) (he : ∀ cl C fp s2 H2 pn, PE (cxC X sc cl C (z3Z X locs ix) fp s2 H2 pn) elt te)
    (hs : ∀ x, foldedSetIterable iter X.env x = pure x := by intro _; rfl) : PE X (.ListComp elt [⟨tgt, iter, tests, 0⟩] sc pos) (zDA wi locs.length ix g tt te) := by
  intro pins s σ H Q I h
  obtain ⟨cl, ecl, hcl, hcl'⟩ := z8G (sc := sc) (env := X.env) fun y hy hk => I.ok.has y.1 (B.free y hy hk)
  rw [eval_ListComp]
  refine wpAny_comprehension_free (use := none) rfl hs ecl B.kind B.names ?_
  refine thn (hi pins s σ H _ I h) fun v s1 h1 => thn h1 fun itv s2 h2 => ?_
  obtain ⟨it, fp, tn, J, H2, e, I2, T, st2, f2, W, ⟨m0, w0⟩, turn⟩ := h2
  subst e
  refine z3n (iter := iter) (pos := pos) (RR := fun acc C => compPost (model X.prog X.w) X.A X.xe none (EP X pins σ Q) acc C) hc B hg ht he I2 T st2 f2 hcl hcl' w0 turn ?_
  intro D C s' H' ys m nD hC nC hCD I3 fin ns
  refine ⟨m, ns, fun h' hs' => ⟨.ref D, _, I3.turned (t' := s'.toks) (fun b o hb e => (hs'.2 b hb).trans e) (by rw [z07 hCD]; exact nC) (Nat.ne_of_gt (Nat.lt_of_lt_of_le I2.lt hC)) (.inr (Nat.le_trans I2.sz hC)) (fun x c e => ?_) (fun p hp => Nat.ne_of_lt (Nat.lt_of_lt_of_le (Heap.lt_size (I2.pin p hp).1) hC)), rfl, fin D nD⟩⟩
  obtain ⟨v, o, ho, _⟩ := I2.cell x c e
  exact Nat.ne_of_lt (Nat.lt_of_lt_of_le (Heap.lt_size ho) hC)
def zDB (i : Nat) (wi : TI) (k : Nat) (ix : List Nat) (g : TG) (tt : TT) (te : TE) : TS := fun D σ H => wi σ H fun J H1 =>
  ∃ W : Nat -> Nat -> St -> List V -> Hp -> Prop, (∃ m, W 0 m (zAd k ix σ) [] H1) /\ z9p J g tt te (fun ys H => ∀ l, H l = none -> D.nx (σ.set i (some (.ref l))) (upd H l (.lst ys))) W
theorem z2H {i : Nat} {y : Str} {py spos : Pos} (hc : X.calm = true) (hN : X.N.Nodup) (hiy : X.N[i]? = some y) (hy : X.env.scope.names.lookup y = some .local) (B : BlkSc X sc locs ix) (hi : PI X tgt iter wi)
    (hg : ∀ cl C fp s2 H2 pn, PG (cxC X sc cl C (z3Z X locs ix) fp s2 H2 pn) tgt g) (ht : ∀ cl C fp s2 H2 pn, PTs (cxC X sc cl C (z3Z X locs ix) fp s2 H2 pn) tests tt) (he : ∀ cl C fp s2 H2 pn, PE (cxC X sc cl C (z3Z X locs ix) fp s2 H2 pn) elt te)
    (hsw : swapsWith (.ListComp elt [⟨tgt, iter, tests, 0⟩] sc pos) (some (.Name y py)) spos.line X.env = pure true)
    (hs : ∀ x, foldedSetIterable iter X.env x = pure x := by intro _; rfl) : PS X (.Assign [.Name y py] (.ListComp elt [⟨tgt, iter, tests, 0⟩] sc pos) spos) (zDB i wi locs.length ix g tt te) := by
  intro pins s σ H D I h
  obtain ⟨cl, ecl, hcl, hcl'⟩ := z8G (sc := sc) (env := X.env) fun y hy hk => I.ok.has y.1 (B.free y hy hk)
  rw [exec_Assign_Name_used _ _ _ _ hsw]
  refine wpAny_bind (wpAny_standAt (wpAny_bind ?_))
  show wpAny _ X.A (do let _ <- comprehension (.ListComp elt [⟨tgt, iter, tests, 0⟩] sc pos) sc X.env _ (newList []) false (eval iter X.env) (some (assign (.Name y py) X.env))) _ _ s
  refine wpAny_bind (thn (wpAny_comprehension_free (use := some (assign (.Name y py) X.env)) (Q := fun _ s' => SP X pins D .next s') rfl hs ecl B.kind B.names ?_) fun _ s' hq => wpAny_pure (wpAny_pure hq))
  refine thn (hi pins s σ H _ I h) fun v s1 h1 => thn h1 fun itv s2 h2 => ?_
  obtain ⟨it, fp, tn, J, H2, e, I2, T, st2, f2, W, ⟨m0, w0⟩, turn⟩ := h2
  subst e
  refine z3n (iter := iter) (pos := pos) (RR := fun acc C => compPost (model X.prog X.w) X.A X.xe (some (assign (.Name y py) X.env)) (fun _ s' => SP X pins D .next s') acc C) hc B hg ht he I2 T st2 f2 hcl hcl' w0 turn ?_
  intro L C s' H' ys m nL hC nC hCL I3 fin ns
  have cL : C ≠ X.env.locals := Nat.ne_of_gt (Nat.lt_of_lt_of_le I2.lt hC)
  have cC : ∀ x c, X.env.cells.lookup x = some c -> c ≠ C := fun x c e => by
    obtain ⟨v, o, ho, _⟩ := I2.cell x c e
    exact Nat.ne_of_lt (Nat.lt_of_lt_of_le (Heap.lt_size ho) hC)
  have cP : ∀ p ∈ X.pn ++ pins, p.1 ≠ C := fun p hp => Nat.ne_of_lt (Nat.lt_of_lt_of_le (Heap.lt_size (I2.pin p hp).1) hC)
  show wpAny _ X.A (assign (.Name y py) X.env (.ref L)) _ _ _
  refine wpAny_assign_Name (z4b (v := .ref L) I3 hN hiy (.inl hy) rfl (fun s4 I4 ⟨a, sb, ha⟩ => ?_) (.inr hy))
  have hCa : C ≠ a := by
    rcases ha with z | z
    . rw [z]; exact cL
    . exact (cC y a z).symm
  exact ⟨m, ns.sameBut sb hCa, fun h' hs' => ⟨_, _, I4.turned (t' := s4.toks) (fun b o hb e => (hs'.2 b hb).trans e) (by rw [z07 hCL]; exact nC) cL (.inr (Nat.le_trans I2.sz hC)) cC cP, fin L nL⟩⟩
end
section
variable {X : Cx}
theorem z8J : ∀ {bs : List Bool} {us : List Value}, Vals (bs.map V.bl) us -> us = bs.map Value.bool
  | [], _, .nil => rfl
  | b :: r, _, .cons q t => by
    cases (show _ = Value.bool b from q)
    rw [z8J t]
    rfl
theorem range_all (bs : List Bool) : (List.range bs.length).all (fun i => bs.getD i true) = bs.all id := by
  rw [Bool.eq_iff_iff, List.all_eq_true, List.all_eq_true]
  constructor
  . intro h b hb
    obtain ⟨i, hi, e⟩ := List.mem_iff_getElem.mp hb
    have q := h i (List.mem_range.mpr hi)
    rw [List.getD_eq_getElem?_getD, List.getElem?_eq_getElem hi, e] at q
    exact q
  . intro h i hi
    have hi' := List.mem_range.mp hi
    rw [List.getD_eq_getElem?_getD, List.getElem?_eq_getElem hi']
    exact h _ (List.getElem_mem hi')
theorem z34 (hc : X.calm = true) : z2G X (.builtin "all") (fun xs H Q => ∃ (a : Addr) (bs : List Bool), xs = [.ref a] /\ SqL X.K H a (bs.map V.bl) /\ Q (.bl (bs.all id)) H) := by
  intro pins s σ H xs us Q I r h
  obtain ⟨a, bs, rfl, hq, q⟩ := h
  obtain ⟨u, rfl, ru⟩ := vals1 r
  cases (show u = Value.ref a from ru)
  obtain ⟨its, rv, p, _⟩ := I.list hq
  have e := z8J rv
  subst e
  have hh : X.A.in1.handled = none := I.ok.hd hc
  have hlt : a < s.heap.objs.size := by obtain ⟨_, e, _⟩ := p.isList; exact Heap.lt_size e
  refine call_all_walk (wpAny_pyIter_list p.isList ?_)
  refine ⟨s.heap.objs.size, _, _, _, _, _, fun i => bs.getD i true, rfl, Walks.list hh s.heap.objs.size a (Nat.ne_of_lt hlt) (bs.map Value.bool).toArray, ⟨⟨_, Heap.get?_push_size _ rfl, rfl, rfl⟩, p.isList.push _⟩, ?_, fun h' tk k => ?_⟩
  . intro i v s' Q' E' hv hQ
    have e : v = Value.bool (bs.getD i true) := by
      rw [List.getElem?_toArray, List.getElem?_map] at hv
      cases hb : bs[i]? with
      | none => rw [hb] at hv; cases hv
      | some b =>
        rw [hb] at hv
        rw [List.getD_eq_getElem?_getD, hb]
        exact (Option.some.inj hv).symm
    subst e
    exact wpAny_truthy_bool hQ
  . have I' : Inv X pins σ H { s with heap := h', toks := tk } := I.kept fun b o e => k b o (by
      intro z
      have e' : b = s.heap.objs.size := by simpa using z
      exact absurd e' (Nat.ne_of_lt (Heap.lt_size e))) (Heap.get?_push_of_some _ e)
    refine ⟨.bl _, H, I', rfl, ?_⟩
    have e : ((bs.map Value.bool).toArray).size = bs.length := by rw [List.size_toArray, List.length_map]
    rw [e, range_all]
    exact q
end
def Ite (K : PySem.W.Frag) (a : Addr) : It :=
  ⟨fun i H => ∃ xs x, SqL K H a xs /\ xs[i]? = some x, fun i H x H' => ∃ T v, H T = none /\ x = .ref T /\ H' = upd H T (.tup [.int i, v]) /\ ∀ xs, SqL K H a xs -> xs[i]? = some v, fun i H => ∃ xs, SqL K H a xs /\ xs.length <= i⟩
theorem z8K {P : Program} {w : World} {K : PySem.W.Frag} {es : List Expr} {k : Nat} {pos : Pos} (a e it : Addr) (hei : e ≠ it) :
    Turn P w K (.Tuple es k pos) (Ite K a) [e, it] e (fun i h => (∃ old, IsEnum h e it (i : Nat) old) /\ h.IsListIter it a i) where
  mem := List.mem_cons_self
  obj := fun i h st b hb => by
    obtain ⟨⟨old, he⟩, o, hi, hc, hd⟩ := st
    rcases List.mem_cons.mp hb with rfl | hb
    . exact ⟨_, he, fun v z => by cases z⟩
    . rw [List.mem_singleton.mp hb]
      exact ⟨o, hi, fun v z => by rw [hd] at z; cases z⟩
  keep := fun i h h' st k => ⟨let ⟨old, he⟩ := st.1; ⟨old, k e List.mem_cons_self _ he⟩, st.2.at fun o q => k it (List.mem_cons_of_mem _ List.mem_cons_self) o q⟩
  item := by
    intro X hP hw hK hc i pins s σ H E I hf st hg
    subst hP hw hK
    obtain ⟨xs, x, hq, hx⟩ := hg
    obtain ⟨its, rv, p, hz⟩ := I.list hq
    obtain ⟨u, hu, ru⟩ := rv.get hx
    obtain ⟨⟨old, he⟩, hit⟩ := st
    obtain ⟨f0, f1, f2, f3, f4, f5⟩ := hf e List.mem_cons_self
    obtain ⟨g0, g1, g2, g3, g4, g5⟩ := hf it (List.mem_cons_of_mem _ List.mem_cons_self)
    refine wpAny_pyNext_enum_item he hit p.isList (x := u) (by simpa using hu) hei fun h' ho hit' hT hsz hk => ?_
    refine ⟨.ref s.heap.objs.size, rfl, wpAny_letOwnedTupleGo_enum ho fun h'' he'' sb => ?_⟩
    have nT : H s.heap.objs.size = none := I.hok.fresh (Nat.le_refl _)
    have kk : ∀ b o, b ≠ e -> b ≠ it -> s.heap.get? b = some o -> h''.get? b = some o := fun b o b1 b2 q => (sb.2 b b1).trans (hk b o b1 b2 q)
    have hTe : s.heap.objs.size ≠ e := Nat.ne_of_gt (Heap.lt_size he)
    have nb : ∀ b u, H b = some u -> b ≠ e /\ b ≠ it := fun b u q => ⟨fun z => (by rw [z, f0] at q; cases q), fun z => (by rw [z, g0] at q; cases q)⟩
    have gT : h''.get? s.heap.objs.size = some { cls := .type "tuple", data := .seq #[.int i s.toks, u] } := (sb.2 _ hTe).trans hT
    have I1 : Inv X pins σ (upd H s.heap.objs.size (.tup [.int i, x])) { s with heap := h'', toks := s.toks + 1 } := by
      refine I.step (g' := s.gens) (d' := s.drawn) (ch := [e, it]) (fun b hb => ?_) (fun b o _ _ hb q _ => kk b o (fun z => hb (by simp [z])) (fun z => hb (by simp [z])) q) (fun b o _ _ hb q _ => ⟨o.slots, kk b o (fun z => hb (by simp [z])) (fun z => hb (by simp [z])) q⟩) (fun b o _ q n => ?_)
        (fun b o hb q => ⟨o, kk b o (fun z => hb (by simp [z])) (fun z => hb (by simp [z])) q⟩) (fun b ys q => ?_) (fun b ob y q => ?_) (fun b ps q => ⟨#[], ?_⟩) (fun m hm => ?_) (fun b y q => ?_) I.bare
      . rcases List.mem_cons.mp hb with rfl | hb
        . exact ⟨f3, f1, f4, f5⟩
        . rw [List.mem_singleton.mp hb]
          exact ⟨g3, g1, g4, g5⟩
      . rw [z07 (Nat.ne_of_lt (Heap.lt_size q))]
        exact n
      . rw [z07 (z08 q nT)]
        exact q
      . rw [z07 (z08 q nT)]
        exact q
      . rw [z07 (z08 q nT), q]
        simp
      . obtain ⟨o, es', ep, ho', r⟩ := hm
        exact ⟨o, es', ep, kk _ o (Ne.symm f1) (Ne.symm g1) ho', r⟩
      . by_cases hb : b = s.heap.objs.size
        . subst hb
          rw [upd_same] at q
          cases q
          exact ⟨by show 2 <= sizeLine; decide, [.int i s.toks, u], .cons ⟨_, rfl⟩ (.cons ru .nil), _, gT, rfl, _, rfl⟩
        . rw [z07 hb] at q
          refine (I.hok b y q).stay (fun c v hc' z => ?_) (fun c z => by rw [z07 (z08 z nT)]; exact z) fun c ys z => by rw [z07 (z08 z nT)]; exact z
          rcases hc' with z' | z'
          . subst z'
            exact kk c v (nb c y q).1 (nb c y q).2 z
          . exact kk c v (nb c _ z').1 (nb c _ z').2 z
    refine ⟨.ref s.heap.objs.size, _, I1, rfl, ⟨_, x, nT, rfl, rfl, fun ys hy => by rw [I.list_inj hy hq]; exact hx⟩, ⟨⟨u, by simpa using he''⟩, hit'.at fun o q => (sb.2 it (Ne.symm hei)).trans q⟩, fun b hb => ?_⟩
    have hn := (hf b hb).1
    have lt : b < s.heap.objs.size := by
      rcases List.mem_cons.mp hb with rfl | hb
      . exact Heap.lt_size he
      . rw [List.mem_singleton.mp hb]
        obtain ⟨o, q, _⟩ := hit
        exact Heap.lt_size q
    rw [z07 (Nat.ne_of_lt lt)]
    exact hn
  done := by
    intro X hP hw hK hc i pins s σ H E I hf st hg
    subst hP hw hK
    obtain ⟨xs, hq, hx⟩ := hg
    obtain ⟨its, rv, p, hz⟩ := I.list hq
    obtain ⟨⟨old, he⟩, hit⟩ := st
    obtain ⟨g0, g1, g2, g3, g4, g5⟩ := hf it (List.mem_cons_of_mem _ List.mem_cons_self)
    have hl := rv.length
    exact wpAny_pyNext_enum_end (I.ok.hd hc) he hit p.isList (by simp; omega) fun h' eb => ⟨rfl, I.turned (t' := s.toks) (fun b o hb q => eb b o hb q) g0 g1 g3 g4 g5⟩
  self := fun _ _ _ _ _ st h => let ⟨_, he⟩ := st.1; wpAny_pyIter_enum he h
section
variable {X : Cx}
def zDC (K : PySem.W.Frag) (ta : TA) : TI := fun σ H R => ta σ H fun vs H1 => ∃ a, vs = [.ref a] /\ (∃ xs, SqL K H1 a xs) /\ R (Ite K a) H1
theorem z5c {l : Expr} {ta : TA} {p pos : Pos} {es : List Expr} {k : Nat} {tp : Pos} (hg : Gl X "enumerate") (hm : X.mg "enumerate" = none) (ha : PA X [l] ta) (hs : starEach [l] X.env = [(false, eval l X.env)] := by rfl) :
    PI X (.Tuple es k tp) (.Call (.Name "enumerate" p) [l] [] pos) (zDC X.K ta) := by
  intro pins s σ H R I h
  refine Call_ (z1w I hg hm boot_enumerate (PyProof.Rows.callWith_type1 (thn (ha pos pins s σ H _ I h) fun us s1 ⟨vs, H1, I1, r1, q1⟩ => ?_) hs rfl))
  obtain ⟨a, e, ⟨xs, hq⟩, q⟩ := q1
  subst e
  obtain ⟨u, rfl, ru⟩ := vals1 r1
  cases (show u = Value.ref a from ru)
  obtain ⟨its, rv, pl, hz⟩ := I1.list hq
  refine call_enumerate_list pl.isList fun h' he hit hsz hk => ?_
  refine wpAny_pyIter_enum (s := { s1 with heap := h' }) he ?_
  have n1 : H1 s1.heap.objs.size = none := I1.hok.fresh (Nat.le_refl _)
  have n2 : H1 (s1.heap.objs.size + 1) = none := I1.hok.fresh (Nat.le_succ _)
  refine ⟨s1.heap.objs.size + 1, [s1.heap.objs.size + 1, s1.heap.objs.size], _, _, H1, rfl, I1.kept (t' := s1.toks) hk, z8K a _ _ (Nat.succ_ne_self _), ⟨⟨_, by simpa using he⟩, hit⟩, fun b hb => ?_, q⟩
  rcases List.mem_cons.mp hb with rfl | hb
  . exact I1.fpOk (Nat.le_succ _) n2
  . rw [List.mem_singleton.mp hb]
    exact I1.fpOk (Nat.le_refl _) n1
end
theorem z4D {K : PySem.W.Frag} {a : Addr} {xs : List V} {g : TG} {tb : TS} {D : Ends} {σ : St} {H : Hp} (Pv : Nat -> St -> Hp -> Prop) (h0 : Pv 0 σ H) (hl : ∀ i σ H, i <= xs.length -> Pv i σ H -> SqL K H a xs)
    (hs : ∀ (i : Nat) x σ H T, xs[i]? = some x -> Pv i σ H -> H T = none -> g (.ref T) σ (upd H T (.tup [.int i, x])) fun σ2 H2 => tb { D with nx := Pv (i + 1), ct := Pv (i + 1), bk := D.nx } σ2 H2) (hd : ∀ σ H, Pv xs.length σ H -> D.nx σ H) :
    ∃ W : Nat -> Nat -> St -> Hp -> Prop, (∃ m, W 0 m σ H) /\ ∀ i m σ H, W i m σ H ->
      ((Ite K a).stop i H /\ D.nx σ H) \/ ((Ite K a).go i H /\ ∃ N : St -> Hp -> Prop, (∀ σ' H', N σ' H' -> ∃ m', m' < m /\ W (i + 1) m' σ' H') /\ ∀ x H', (Ite K a).yld i H x H' -> g x σ H' fun σ2 H2 => tb { D with nx := N, ct := N, bk := D.nx } σ2 H2) := by
  refine ⟨fun i m σ H => m = xs.length - i /\ i <= xs.length /\ Pv i σ H, ⟨xs.length, by simp, Nat.zero_le _, h0⟩, ?_⟩
  rintro i m σ H ⟨rfl, hi, p⟩
  have q := hl i σ H hi p
  by_cases hlt : i < xs.length
  . refine .inr ⟨⟨xs, xs[i], q, List.getElem?_eq_getElem hlt⟩, Pv (i + 1), fun σ' H' p' => ⟨xs.length - (i + 1), by omega, rfl, hlt, p'⟩, fun x H' y => ?_⟩
    obtain ⟨T, v, nT, rfl, rfl, hv⟩ := y
    exact hs i v σ H T (hv xs q) p nT
  . have e : i = xs.length := by omega
    subst e
    exact .inl ⟨⟨xs, q, Nat.le_refl _⟩, hd σ H p⟩
def Itv (K : PySem.W.Frag) (a : Addr) (xs : List V) : It :=
  ⟨fun i H => i < xs.length /\ SqL K H a xs, fun i H x H' => H' = H /\ xs[xs.length - 1 - i]? = some x, fun i _ => i = xs.length⟩
theorem z9q {P : Program} {w : World} {K : PySem.W.Frag} {tg : Expr} (a it : Addr) (xs : List V) :
    Turn P w K tg (Itv K a xs) [it] it (fun i h => h.IsRevIter it a ((xs.length : Int) - 1 - (i : Int))) where
  mem := List.mem_cons_self
  obj := fun i h st b hb => by
    rw [List.mem_singleton.mp hb]
    obtain ⟨o, e, c, d⟩ := st
    exact ⟨o, e, fun v z => by rw [d] at z; cases z⟩
  keep := fun i h h' st k => st.at fun o e => k it List.mem_cons_self o e
  item := by
    intro X hP hw hK hc i pins s σ H E I hf st hg
    subst hP hw hK
    obtain ⟨hi, hq⟩ := hg
    obtain ⟨its, rv, p, hz⟩ := I.list hq
    have hl := rv.length
    have hx : xs[xs.length - 1 - i]? = some (xs[xs.length - 1 - i]'(by omega)) := List.getElem?_eq_getElem (by omega)
    obtain ⟨u, hu, ru⟩ := rv.get hx
    obtain ⟨f0, f1, f2, f3, f4, f5⟩ := hf it List.mem_cons_self
    have e : (xs.length : Int) - 1 - (i : Int) = ((xs.length - 1 - i : Nat) : Int) := by omega
    have st' : s.heap.IsRevIter it a ((xs.length - 1 - i : Nat) : Int) := by rw [<- e]; exact st
    refine wpAny_pyNext_rev_item st' p.isList (x := u) (by simpa using hu) fun h' st1 sb => ?_
    have I1 : Inv X pins σ H { s with heap := h' } := I.turned (t' := s.toks) (fun b o hb q => (sb.2 b hb).trans q) f0 f1 f3 f4 f5
    obtain ⟨o, q, c, d⟩ := id st1
    have e2 : ((xs.length - 1 - i : Nat) : Int) - 1 = (xs.length : Int) - 1 - ((i + 1 : Nat) : Int) := by omega
    refine ⟨u, rfl, z6y (s := { s with heap := h' }) q c d (by decide) ⟨_, H, I1, ru, ⟨rfl, hx⟩, ?_, fun b hb => (hf b hb).1⟩⟩
    rw [<- e2]
    exact st1
  done := by
    intro X hP hw hK hc i pins s σ H E I hf st hg
    subst hP hw hK
    cases (show i = xs.length from hg)
    obtain ⟨f0, f1, f2, f3, f4, f5⟩ := hf it List.mem_cons_self
    have e : (xs.length : Int) - 1 - (xs.length : Int) = -1 := by omega
    have st' : s.heap.IsRevIter it a (-1) := by rw [<- e]; exact st
    exact wpAny_pyNext_rev_end (I.ok.hd hc) st' fun h' eb => ⟨rfl, I.turned (t' := s.toks) (fun b o hb q => eb b o hb q) f0 f1 f3 f4 f5⟩
  self := fun _ _ _ _ _ st h => wpAny_pyIter_revIter st h
section
variable {X : Cx} {tg : Expr}
def zE1 (K : PySem.W.Frag) (ta : TA) : TI := fun σ H R => ta σ H fun vs H1 => ∃ a xs, vs = [.ref a] /\ SqL K H1 a xs /\ R (Itv K a xs) H1
theorem zCN {l : Expr} {ta : TA} {p pos : Pos} (hg : Gl X "reversed") (hm : X.mg "reversed" = none) (ha : PA X [l] ta) (hs : starEach [l] X.env = [(false, eval l X.env)] := by rfl) :
    PI X tg (.Call (.Name "reversed" p) [l] [] pos) (zE1 X.K ta) := by
  intro pins s σ H R I h
  refine Call_ (z1w I hg hm boot_reversed (PyProof.Rows.callWith_type1 (thn (ha pos pins s σ H _ I h) fun us s1 ⟨vs, H1, I1, r1, q1⟩ => ?_) hs rfl))
  obtain ⟨a, xs, e, hq, q⟩ := q1
  subst e
  obtain ⟨u, rfl, ru⟩ := vals1 r1
  cases (show u = Value.ref a from ru)
  obtain ⟨its, rv, pl, hz⟩ := I1.list hq
  have hl := rv.length
  refine call_reversed_list pl.isList ?_
  have st : Heap.IsRevIter (s1.heap.push (revObj a ((its.toArray.size : Int) - 1))) s1.heap.objs.size a ((xs.length : Int) - 1 - ((0 : Nat) : Int)) := by
    have e : (xs.length : Int) - 1 - ((0 : Nat) : Int) = (its.toArray.size : Int) - 1 := by
      rw [List.size_toArray]
      omega
    rw [e]
    exact ⟨_, Heap.get?_push_size _ rfl, rfl, rfl⟩
  refine wpAny_pyIter_revIter (s := { s1 with heap := s1.heap.push (revObj a ((its.toArray.size : Int) - 1)) }) st ?_
  refine ⟨s1.heap.objs.size, [s1.heap.objs.size], _, _, H1, rfl, I1.kept (t' := s1.toks) fun b o e => Heap.get?_push_of_some _ e, z9q a _ xs, st, fun b hb => ?_, q⟩
  rw [List.mem_singleton.mp hb]
  exact I1.fpOk (Nat.le_refl _) (I1.hok.fresh (Nat.le_refl _))
end
theorem zBO {K : PySem.W.Frag} {a : Addr} {xs : List V} {g : TG} {tb : TS} {D : Ends} {σ : St} {H : Hp} (Pv : Nat -> St -> Hp -> Prop) (h0 : Pv 0 σ H) (hl : ∀ i σ H, i <= xs.length -> Pv i σ H -> SqL K H a xs)
    (hs : ∀ (i : Nat) x σ H, i < xs.length -> xs[xs.length - 1 - i]? = some x -> Pv i σ H -> g x σ H fun σ2 H2 => tb { D with nx := Pv (i + 1), ct := Pv (i + 1), bk := D.nx } σ2 H2) (hd : ∀ σ H, Pv xs.length σ H -> D.nx σ H) :
    ∃ W : Nat -> Nat -> St -> Hp -> Prop, (∃ m, W 0 m σ H) /\ ∀ i m σ H, W i m σ H ->
      ((Itv K a xs).stop i H /\ D.nx σ H) \/ ((Itv K a xs).go i H /\ ∃ N : St -> Hp -> Prop, (∀ σ' H', N σ' H' -> ∃ m', m' < m /\ W (i + 1) m' σ' H') /\ ∀ x H', (Itv K a xs).yld i H x H' -> g x σ H' fun σ2 H2 => tb { D with nx := N, ct := N, bk := D.nx } σ2 H2) := by
  refine ⟨fun i m σ H => m = xs.length - i /\ i <= xs.length /\ Pv i σ H, ⟨xs.length, by simp, Nat.zero_le _, h0⟩, ?_⟩
  rintro i m σ H ⟨rfl, hi, p⟩
  have q := hl i σ H hi p
  by_cases hlt : i < xs.length
  . refine .inr ⟨⟨hlt, q⟩, Pv (i + 1), fun σ' H' p' => ⟨xs.length - (i + 1), by omega, rfl, hlt, p'⟩, fun x H' y => ?_⟩
    obtain ⟨e, y⟩ := y
    subst e
    exact hs i x σ _ hlt y p
  . have e : i = xs.length := by omega
    subst e
    exact .inl ⟨rfl, hd σ H p⟩
section
variable {prog : Program} {w : World} {A : Around} {E : Value -> Shared -> Prop} {s : Shared}
theorem z1P {it t : Addr} {i : Nat} {its : Array Value} {x : Value} {Q : Value -> Shared -> Prop} (ti : s.heap.IsTupleIter it t i) (tt : s.heap.IsTuple t its) (hx : its[i]? = some x)
    (k : ∀ h', h'.IsTupleIter it t (i + 1) -> Heap.SameBut it s.heap h' -> Q x { s with heap := h' }) : wpAny (model prog w) A (Builtin.SmallTypes.nextOf (.ref it)) Q E s := by
  obtain ⟨o, go, co, dd⟩ := id ti
  obtain ⟨ot, gt, _, nt, dt⟩ := tt
  unfold Builtin.SmallTypes.nextOf
  refine wpAny_bind (wpAny_callSpecial?_slot (name := Str.ofString "__next__") ti.typeIs F.slot_tuple_iterator_next (wpAny_call_entry F.slot_tuple_iterator_next ti.typeIs F.entry_tuple_iterator_next ?_ (F.args_tuple_iterator_next_1 _)))
  show wpAny _ _ (field (.ref it) 0 >>= _) _ _ s
  refine wpAny_bind (wpAny_field go dd (x := .ref t) rfl ?_)
  show wpAny _ _ (if (Value.ref t == Value.none) = true then _ else _) _ _ s
  rw [if_neg (show ¬ (Value.ref t == Value.none) = true by intro z; cases z)]
  show wpAny _ _ (field (.ref it) 1 >>= _) _ _ s
  refine wpAny_bind (wpAny_field go dd (x := .int i 0) rfl ?_)
  show wpAny _ _ (seqItems? (.ref t) >>= _) _ _ s
  refine wpAny_bind (wpAny_seqItems gt dt ?_)
  simp only [Int.toNat_natCast, hx]
  refine wpAny_bind (wpAny_setField go dd (by simp) (wpAny_pure ⟨x, rfl, wpAny_pure (k _ ?_ (Heap.SameBut.update ..))⟩))
  exact ⟨_, Heap.get?_update_self _ go (Obj.isFreed_of_fields (Obj.data_mapFields dd _)), (Obj.cls_mapFields ..).trans co, by rw [Obj.data_mapFields dd]; simp [rawInt]⟩
theorem z3N {it t : Addr} {i : Nat} {its : Array Value} {Q : Value -> Shared -> Prop} (hh : A.handled = none) (ti : s.heap.IsTupleIter it t i) (tt : s.heap.IsTuple t its) (hx : its[i]? = none)
    (k : ∀ h' e, Heap.ExtBut it s.heap h' -> (∃ o, h'.get? e = some o /\ o.cls = .type "StopIteration") -> E (.ref e) { s with heap := h' }) : wpAny (model prog w) A (Builtin.SmallTypes.nextOf (.ref it)) Q E s := by
  obtain ⟨o, go, co, dd⟩ := id ti
  obtain ⟨ot, gt, _, nt, dt⟩ := tt
  unfold Builtin.SmallTypes.nextOf
  refine wpAny_bind (wpAny_callSpecial?_slot (name := Str.ofString "__next__") ti.typeIs F.slot_tuple_iterator_next (wpAny_call_entry F.slot_tuple_iterator_next ti.typeIs F.entry_tuple_iterator_next ?_ (F.args_tuple_iterator_next_1 _)))
  show wpAny _ _ (field (.ref it) 0 >>= _) _ _ s
  refine wpAny_bind (wpAny_field go dd (x := .ref t) rfl ?_)
  show wpAny _ _ (if (Value.ref t == Value.none) = true then _ else _) _ _ s
  rw [if_neg (show ¬ (Value.ref t == Value.none) = true by intro z; cases z)]
  show wpAny _ _ (field (.ref it) 1 >>= _) _ _ s
  refine wpAny_bind (wpAny_field go dd (x := .int i 0) rfl ?_)
  show wpAny _ _ (seqItems? (.ref t) >>= _) _ _ s
  refine wpAny_bind (wpAny_seqItems gt dt ?_)
  simp only [Int.toNat_natCast, hx]
  refine wpAny_bind (wpAny_rule (wpAny_bind (wpAny_setField go dd (by simp) ?_)))
  show wpAny _ _ (newExc (.type "StopIteration") [] >>= _) _ _ _
  refine wpAny_bind ?_
  simp only [newExc, newTuple]
  refine wpAny_bind (wpAny_newObj_type ?_ (by size_fits))
  refine wpAny_bind (m := firstArgMember _ _) (wpAny_of_eq (a := Value.none) (by first | rfl | (simp only [firstArgMember]; rfl)) ?_)
  refine wpAny_newObj_type ?_ (by size_fits)
  simp only [raiseNew]
  refine wpAny_bind (wpAny_handled ?_)
  first | rw [show A.in1.handled = none from hh] | rw [hh]
  refine wpAny_bind (wpAny_pure (wpAny_throw ?_))
  exact k _ _ (((Heap.SameBut.update ..).extBut.push _).push _) ⟨_, Heap.get?_push_size _ rfl, rfl⟩
theorem z8L {z TI TO i1 i2 l1 l2 : Addr} {k1 k2 : Nat} {xs ys : Array Value} {x y a b : Value} {Q : Value -> Shared -> Prop} (D : ZipApart z TI TO i1 i2 l1 l2)
    (gz : IsZip s.heap z TI TO .none) (gI : IsPair s.heap TI (.ref i1) (.ref i2)) (gO : IsPair s.heap TO a b)
    (j1 : s.heap.IsTupleIter i1 l1 k1) (j2 : s.heap.IsTupleIter i2 l2 k2) (t1 : s.heap.IsTuple l1 xs) (t2 : s.heap.IsTuple l2 ys) (hx : xs[k1]? = some x) (hy : ys[k2]? = some y)
    (k : ∀ h', IsZip h' z TI TO (rawInt s.heap.objs.size) -> IsPair h' TO x y -> h'.IsTupleIter i1 l1 (k1 + 1) -> h'.IsTupleIter i2 l2 (k2 + 1) -> IsPair h' s.heap.objs.size x y -> h'.objs.size = s.heap.objs.size + 1 ->
      (∀ c o, c ≠ z -> c ≠ TO -> c ≠ i1 -> c ≠ i2 -> s.heap.get? c = some o -> h'.get? c = some o) -> Q (.ref s.heap.objs.size) { s with heap := h' }) :
    wpAny (model prog w) A (Builtin.«zip.__next__» ⟨[.ref z], []⟩) (fun fin s' => ∃ v, fin = .done (.ret v) /\ Q v s') E s := by
  show wpAny _ _ (field (.ref z) 2 >>= _) _ _ _
  refine wpAny_bind (wpAny_field gz rfl (x := .bool false) rfl ?_)
  show wpAny _ _ (field (.ref z) 3 >>= _) _ _ _
  refine wpAny_bind (wpAny_field gz rfl (x := .ref TI) rfl ?_)
  refine wpAny_bind (wpAny_seqItems gI rfl ?_)
  show wpAny _ _ (Builtin.SmallTypes.ownedTupleIsFree (.ref z) >>= _) _ _ _
  refine wpAny_bind ?_
  unfold Builtin.SmallTypes.ownedTupleIsFree
  refine wpAny_bind (wpAny_field gz rfl (x := .none) rfl (wpAny_pure ?_))
  simp only [if_true]
  refine wpAny_bind (wpAny_rule ?_)
  refine wpAny_bind (wpAny_field gz rfl (x := .ref TO) rfl ?_)
  refine wpAny_bind (wpAny_setField_rec gz (by simp) fun q1 gz1 b1 => ?_)
  replace gz1 : IsZip q1 z TI TO .ellipsis := gz1
  refine wpAny_bind ?_
  simp only [List.zipIdx_cons, List.zipIdx_nil, List.forIn_cons, List.forIn_nil]
  refine wpAny_bind (wpAny_bind (wpAny_onRaise ?_))
  show wpAny _ _ (Builtin.SmallTypes.nextOf (.ref i1) >>= _) _ _ _
  refine wpAny_bind (z1P (j1.extBut b1.extBut D.i1z) (t1.extBut b1.extBut D.l1z) hx fun q2 j12 b2 => wpAny_pure ?_)
  have gO2 : IsPair q2 TO a b := b2.extBut _ _ D.TOi1 (b1.extBut _ _ D.TOz gO)
  refine wpAny_bind (wpAny_seqItems gO2 rfl ?_)
  refine wpAny_bind (wpAny_updateSeq_pair gO2 fun q3 gO3 b3 => ?_)
  replace gO3 : IsPair q3 TO x b := gO3
  refine wpAny_bind (wpAny_letGo (wpAny_pure ?_))
  refine wpAny_bind (wpAny_bind (wpAny_onRaise ?_))
  show wpAny _ _ (Builtin.SmallTypes.nextOf (.ref i2) >>= _) _ _ _
  refine wpAny_bind (z1P (((j2.extBut b1.extBut D.i2z).extBut b2.extBut D.i12.symm).extBut b3.extBut D.TOi2.symm) (((t2.extBut b1.extBut D.l2z).extBut b2.extBut D.l2i1).extBut b3.extBut D.l2TO) hy fun q4 j24 b4 => wpAny_pure ?_)
  have gO4 : IsPair q4 TO x b := b4.extBut _ _ D.TOi2 gO3
  refine wpAny_bind (wpAny_seqItems gO4 rfl ?_)
  refine wpAny_bind (wpAny_updateSeq_pair gO4 fun q5 gO5 b5 => ?_)
  replace gO5 : IsPair q5 TO x y := gO5
  refine wpAny_bind (wpAny_letGo (wpAny_pure (wpAny_pure ?_)))
  refine wpAny_bind (wpAny_seqItems gO5 rfl ?_)
  refine wpAny_bind (wpAny_newTuple ?_)
  have sz : q5.objs.size = s.heap.objs.size := by rw [b5.1, b4.1, b3.1, b2.1, b1.1]
  have gz5 : IsZip q5 z TI TO .ellipsis := b5.extBut _ _ D.TOz.symm (b4.extBut _ _ D.i2z.symm (b3.extBut _ _ D.TOz.symm (b2.extBut _ _ D.i1z.symm gz1)))
  have kk5 : ∀ c o, c ≠ z -> c ≠ TO -> c ≠ i1 -> c ≠ i2 -> s.heap.get? c = some o -> q5.get? c = some o := fun c o c1 c2 c3 c4 e => b5.extBut _ _ c2 (b4.extBut _ _ c4 (b3.extBut _ _ c2 (b2.extBut _ _ c3 (b1.extBut _ _ c1 e))))
  have j15 : q5.IsTupleIter i1 l1 (k1 + 1) := ((j12.extBut b3.extBut D.TOi1.symm).extBut b4.extBut D.i12).extBut b5.extBut D.TOi1.symm
  have j25 : q5.IsTupleIter i2 l2 (k2 + 1) := j24.extBut b5.extBut D.TOi2.symm
  have zlt : z < q5.objs.size := Heap.lt_size gz5
  show wpAny _ _ (Builtin.SmallTypes.ownedTupleHandOut (.ref z) (.ref q5.objs.size) >>= _) _ _ _
  refine wpAny_bind ?_
  unfold Builtin.SmallTypes.ownedTupleHandOut
  have gz6 : IsZip (q5.push { cls := .type "tuple", data := .seq #[x, y] }) z TI TO .ellipsis := Heap.get?_push_of_some _ gz5
  refine wpAny_bind (wpAny_setField_rec gz6 (by simp) fun q7 gz7 b7 => ?_)
  replace gz7 : IsZip q7 z TI TO (rawInt q5.objs.size) := gz7
  refine wpAny_setField_rec gz7 (by simp) fun q8 gz8 b8 => ?_
  replace gz8 : IsZip q8 z TI TO (rawInt q5.objs.size) := gz8
  have up : ∀ c o, c ≠ z -> q5.get? c = some o -> q8.get? c = some o := fun c o c1 e => b8.extBut _ _ c1 (b7.extBut _ _ c1 (Heap.get?_push_of_some _ e))
  have gT8 : IsPair q8 q5.objs.size x y := b8.extBut _ _ (Nat.ne_of_gt zlt) (b7.extBut _ _ (Nat.ne_of_gt zlt) (Heap.get?_push_size _ rfl))
  have sz8 : q8.objs.size = q5.objs.size + 1 := by rw [b8.1, b7.1, Heap.size_push]
  rw [sz] at gz8 gT8 sz8
  refine wpAny_pure ⟨_, rfl, ?_⟩
  show Q (.ref q5.objs.size) _
  rw [sz]
  exact k q8 gz8 (up _ _ D.TOz gO5) (j15.at fun o e => up _ o D.i1z e) (j25.at fun o e => up _ o D.i2z e) gT8 sz8 fun c o c1 c2 c3 c4 e => up c o c1 (kk5 c o c1 c2 c3 c4 e)
theorem z9r {z TI TO i1 i2 l1 l2 : Addr} {k1 k2 : Nat} {xs ys : Array Value} {a b : Value} {Q : PySem.Fin -> Shared -> Prop} (hh : A.handled = none) (D : ZipApart z TI TO i1 i2 l1 l2)
    (gz : IsZip s.heap z TI TO .none) (gI : IsPair s.heap TI (.ref i1) (.ref i2)) (gO : IsPair s.heap TO a b)
    (j1 : s.heap.IsTupleIter i1 l1 k1) (j2 : s.heap.IsTupleIter i2 l2 k2) (t1 : s.heap.IsTuple l1 xs) (t2 : s.heap.IsTuple l2 ys) (hend : xs[k1]? = none \/ ys[k2]? = none)
    (kE : ∀ h' e, (∀ c o, c ≠ z -> c ≠ TO -> c ≠ i1 -> c ≠ i2 -> s.heap.get? c = some o -> h'.get? c = some o) -> (∃ o, h'.get? e = some o /\ o.cls = .type "StopIteration") -> E (.ref e) { s with heap := h' }) :
    wpAny (model prog w) A (Builtin.«zip.__next__» ⟨[.ref z], []⟩) Q E s := by
  show wpAny _ _ (field (.ref z) 2 >>= _) _ _ _
  refine wpAny_bind (wpAny_field gz rfl (x := .bool false) rfl ?_)
  show wpAny _ _ (field (.ref z) 3 >>= _) _ _ _
  refine wpAny_bind (wpAny_field gz rfl (x := .ref TI) rfl ?_)
  refine wpAny_bind (wpAny_seqItems gI rfl ?_)
  show wpAny _ _ (Builtin.SmallTypes.ownedTupleIsFree (.ref z) >>= _) _ _ _
  refine wpAny_bind ?_
  unfold Builtin.SmallTypes.ownedTupleIsFree
  refine wpAny_bind (wpAny_field gz rfl (x := .none) rfl (wpAny_pure ?_))
  simp only [if_true]
  refine wpAny_bind (wpAny_rule ?_)
  refine wpAny_bind (wpAny_field gz rfl (x := .ref TO) rfl ?_)
  refine wpAny_bind (wpAny_setField_rec gz (by simp) fun q1 gz1 b1 => ?_)
  replace gz1 : IsZip q1 z TI TO .ellipsis := gz1
  refine wpAny_bind ?_
  simp only [List.zipIdx_cons, List.zipIdx_nil, List.forIn_cons, List.forIn_nil]
  refine wpAny_bind (wpAny_bind (wpAny_onRaise ?_))
  show wpAny _ _ (Builtin.SmallTypes.nextOf (.ref i1) >>= _) _ _ _
  cases hx : xs[k1]? with
  | none =>
    refine wpAny_bind (z3N hh (j1.extBut b1.extBut D.i1z) (t1.extBut b1.extBut D.l1z) hx fun q2 e b2 he => ?_)
    obtain ⟨oe, ge, ce⟩ := he
    have gz2 : IsZip q2 z TI TO .ellipsis := b2 _ _ D.i1z.symm gz1
    have ez : e ≠ z := fun p => by subst p; rw [gz2] at ge; cases ge; simp at ce
    refine wpAny_setField_rec gz2 (by simp) fun q3 _ b3 => kE q3 e (fun c o c1 _ c3 _ p => b3.extBut _ _ c1 (b2 _ _ c3 (b1.extBut _ _ c1 p))) ⟨oe, b3.extBut _ _ ez ge, ce⟩
  | some x =>
    have hy : ys[k2]? = none := by rcases hend with h | h; rw [hx] at h; cases h; exact h
    refine wpAny_bind (z1P (j1.extBut b1.extBut D.i1z) (t1.extBut b1.extBut D.l1z) hx fun q2 j12 b2 => wpAny_pure ?_)
    have gO2 : IsPair q2 TO a b := b2.extBut _ _ D.TOi1 (b1.extBut _ _ D.TOz gO)
    refine wpAny_bind (wpAny_seqItems gO2 rfl ?_)
    refine wpAny_bind (wpAny_updateSeq_pair gO2 fun q3 gO3 b3 => ?_)
    refine wpAny_bind (wpAny_letGo (wpAny_pure ?_))
    refine wpAny_bind (wpAny_bind (wpAny_onRaise ?_))
    show wpAny _ _ (Builtin.SmallTypes.nextOf (.ref i2) >>= _) _ _ _
    refine wpAny_bind (z3N hh (((j2.extBut b1.extBut D.i2z).extBut b2.extBut D.i12.symm).extBut b3.extBut D.TOi2.symm) (((t2.extBut b1.extBut D.l2z).extBut b2.extBut D.l2i1).extBut b3.extBut D.l2TO) hy fun q4 e b4 he => ?_)
    obtain ⟨oe, ge, ce⟩ := he
    have gz4 : IsZip q4 z TI TO .ellipsis := b4 _ _ D.i2z.symm (b3.extBut _ _ D.TOz.symm (b2.extBut _ _ D.i1z.symm gz1))
    have ez : e ≠ z := fun p => by subst p; rw [gz4] at ge; cases ge; simp at ce
    refine wpAny_setField_rec gz4 (by simp) fun q5 _ b5 => kE q5 e (fun c o c1 c2 c3 c4 p => b5.extBut _ _ c1 (b4 _ _ c4 (b3.extBut _ _ c2 (b2.extBut _ _ c3 (b1.extBut _ _ c1 p))))) ⟨oe, b5.extBut _ _ ez ge, ce⟩
theorem z8M {z TI TO i1 i2 l1 l2 : Addr} {k1 k2 : Nat} {xs ys : Array Value} {x y a b : Value} {Q : Option Value -> Shared -> Prop} (D : ZipApart z TI TO i1 i2 l1 l2)
    (gz : IsZip s.heap z TI TO .none) (gI : IsPair s.heap TI (.ref i1) (.ref i2)) (gO : IsPair s.heap TO a b)
    (j1 : s.heap.IsTupleIter i1 l1 k1) (j2 : s.heap.IsTupleIter i2 l2 k2) (t1 : s.heap.IsTuple l1 xs) (t2 : s.heap.IsTuple l2 ys) (hx : xs[k1]? = some x) (hy : ys[k2]? = some y)
    (k : ∀ h', IsZip h' z TI TO (rawInt s.heap.objs.size) -> IsPair h' TO x y -> h'.IsTupleIter i1 l1 (k1 + 1) -> h'.IsTupleIter i2 l2 (k2 + 1) -> IsPair h' s.heap.objs.size x y -> h'.objs.size = s.heap.objs.size + 1 ->
      (∀ c o, c ≠ z -> c ≠ TO -> c ≠ i1 -> c ≠ i2 -> s.heap.get? c = some o -> h'.get? c = some o) -> Q (some (.ref s.heap.objs.size)) { s with heap := h' }) :
    wpAny (model prog w) A (pyNext (.ref z)) Q E s := by
  have ty : s.TypeIs (.ref z) "zip" := ⟨_, gz, rfl⟩
  unfold pyNext
  exact wpAny_bind (wpAny_attempt (wpAny_callSpecial?_slot (name := Str.ofString "__next__") ty F.slot_zip_next (wpAny_call_entry F.slot_zip_next ty F.entry_zip_next
    (z8L D gz gI gO j1 j2 t1 t2 hx hy fun h' a1 a2 a3 a4 a5 a6 a7 => wpAny_pure (k h' a1 a2 a3 a4 a5 a6 a7)) (F.args_zip_next_1 _))))
theorem z8N {z TI TO i1 i2 l1 l2 : Addr} {k1 k2 : Nat} {xs ys : Array Value} {a b : Value} {Q : Option Value -> Shared -> Prop} (hh : A.handled = none) (D : ZipApart z TI TO i1 i2 l1 l2)
    (gz : IsZip s.heap z TI TO .none) (gI : IsPair s.heap TI (.ref i1) (.ref i2)) (gO : IsPair s.heap TO a b)
    (j1 : s.heap.IsTupleIter i1 l1 k1) (j2 : s.heap.IsTupleIter i2 l2 k2) (t1 : s.heap.IsTuple l1 xs) (t2 : s.heap.IsTuple l2 ys) (hend : xs[k1]? = none \/ ys[k2]? = none)
    (k : ∀ h', (∀ c o, c ≠ z -> c ≠ TO -> c ≠ i1 -> c ≠ i2 -> s.heap.get? c = some o -> h'.get? c = some o) -> Q none { s with heap := h' }) : wpAny (model prog w) A (pyNext (.ref z)) Q E s := by
  have ty : s.TypeIs (.ref z) "zip" := ⟨_, gz, rfl⟩
  unfold pyNext
  refine wpAny_bind (wpAny_attempt (wpAny_callSpecial?_slot (name := Str.ofString "__next__") ty F.slot_zip_next (wpAny_call_entry F.slot_zip_next ty F.entry_zip_next
    (z9r hh D gz gI gO j1 j2 t1 t2 hend fun h' e kk he => ?_) (F.args_zip_next_1 _))))
  obtain ⟨o, ho, hc⟩ := he
  refine wpAny_bind (wpAny_isInstance (T := "StopIteration") (b := true) ⟨o, ho, hc⟩ isSubtype_stop ?_)
  exact wpAny_pure (k _ kk)
abbrev zt1 (h : Heap) (l1 : Addr) : Heap := h.push { cls := .type "tuple_iterator", data := .fields #[.ref l1, .int 0 0] }
abbrev zt2 (h : Heap) (l1 l2 : Addr) : Heap := (zt1 h l1).push { cls := .type "tuple_iterator", data := .fields #[.ref l2, .int 0 0] }
abbrev zt3 (h : Heap) (l1 l2 : Addr) : Heap := (zt2 h l1 l2).push { cls := .type "tuple", data := .seq #[.ref h.objs.size, .ref (zt1 h l1).objs.size] }
abbrev zt4 (h : Heap) (l1 l2 : Addr) : Heap := (zt3 h l1 l2).push { cls := .type "tuple", data := .seq #[.none, .none] }
abbrev zt5 (h : Heap) (l1 l2 : Addr) : Heap := (zt4 h l1 l2).push { cls := .type "zip", data := .fields #[.none, .bool false, .bool false, .ref (zt2 h l1 l2).objs.size, .ref (zt3 h l1 l2).objs.size] }
theorem z7A (l1 l2 : Addr) (xs ys : Array Value) :
    Meets (Builtin.«zip.__new__» ⟨[.type "zip", .ref l1, .ref l2], []⟩) (fun _ R s => s.heap.IsTuple l1 xs /\ s.heap.IsTuple l2 ys /\ R (.ok (.ret (.ref (zt4 s.heap l1 l2).objs.size))) { s with heap := zt5 s.heap l1 l2 }) :=
  .of_wp fun prog w A R s h => by
    obtain ⟨hp, g, d, tk, os⟩ := s
    obtain ⟨t1, t2, h⟩ := h
    have hsub := sub_zip
    have hL1 : Heap.IsTuple (Shared.heap ⟨hp, g, d, tk, os⟩) l1 xs := t1
    have hL2 : Heap.IsTuple (Shared.heap ⟨hp.push { cls := .type "tuple_iterator", data := .fields #[.ref l1, .int 0 0] }, g, d, tk, os⟩) l2 ys := t2.at fun o e => Heap.get?_push_of_some _ e
    wp_walk using wpAny_pyIter_tuple hL1, wpAny_pyIter_tuple hL2
    exact ⟨_, rfl, h⟩
theorem z8O {l1 l2 : Addr} {xs ys : Array Value} {Q : Value -> Shared -> Prop} (t1 : s.heap.IsTuple l1 xs) (t2 : s.heap.IsTuple l2 ys)
    (h : ∀ h', IsZip h' (s.heap.objs.size + 4) (s.heap.objs.size + 2) (s.heap.objs.size + 3) .none -> IsPair h' (s.heap.objs.size + 2) (.ref s.heap.objs.size) (.ref (s.heap.objs.size + 1)) ->
      IsPair h' (s.heap.objs.size + 3) .none .none -> h'.IsTupleIter s.heap.objs.size l1 0 -> h'.IsTupleIter (s.heap.objs.size + 1) l2 0 -> h'.objs.size = s.heap.objs.size + 5 ->
      (∀ c o, s.heap.get? c = some o -> h'.get? c = some o) -> Q (.ref (s.heap.objs.size + 4)) { s with heap := h' }) :
    wpAny (model prog w) A (call (.type "zip") [.ref l1, .ref l2]) Q E s := by
  refine callType_new F.called_zip (by decide) (F.typeCall_zip_2 _ _) (F.newCall_zip_2 _ _) (fun obj => F.args_object_init_3 obj _ _) F.entry_zip_new (z7A l1 l2 xs ys) ⟨t1, t2, ?_⟩
  have z1 : (zt1 s.heap l1).objs.size = s.heap.objs.size + 1 := Heap.size_push ..
  have z2 : (zt2 s.heap l1 l2).objs.size = s.heap.objs.size + 2 := by rw [Heap.size_push, z1]
  have z3 : (zt3 s.heap l1 l2).objs.size = s.heap.objs.size + 3 := by rw [Heap.size_push, z2]
  have z4 : (zt4 s.heap l1 l2).objs.size = s.heap.objs.size + 4 := by rw [Heap.size_push, z3]
  have z5 : (zt5 s.heap l1 l2).objs.size = s.heap.objs.size + 5 := by rw [Heap.size_push, z4]
  have g5 : (zt5 s.heap l1 l2).get? (zt4 s.heap l1 l2).objs.size = some _ := Heap.get?_push_size _ rfl
  have g4 : (zt5 s.heap l1 l2).get? (zt3 s.heap l1 l2).objs.size = some _ := Heap.get?_push_of_some _ (Heap.get?_push_size _ rfl)
  have g3 : (zt5 s.heap l1 l2).get? (zt2 s.heap l1 l2).objs.size = some _ := Heap.get?_push_of_some _ (Heap.get?_push_of_some _ (Heap.get?_push_size _ rfl))
  have g2 : (zt5 s.heap l1 l2).get? (zt1 s.heap l1).objs.size = some _ := Heap.get?_push_of_some _ (Heap.get?_push_of_some _ (Heap.get?_push_of_some _ (Heap.get?_push_size _ rfl)))
  have g1 : (zt5 s.heap l1 l2).get? s.heap.objs.size = some _ := Heap.get?_push_of_some _ (Heap.get?_push_of_some _ (Heap.get?_push_of_some _ (Heap.get?_push_of_some _ (Heap.get?_push_size _ rfl))))
  show _ /\ _
  rw [z2, z3, z4] at g5
  rw [z1, z2] at g3
  rw [z3] at g4
  rw [z1] at g2
  rw [z4]
  exact ⟨⟨_, g5, rfl⟩, h _ g5 g3 g4 ⟨_, g1, rfl, rfl⟩ ⟨_, g2, rfl, rfl⟩ z5 fun c o p => Heap.get?_push_of_some _ (Heap.get?_push_of_some _ (Heap.get?_push_of_some _ (Heap.get?_push_of_some _ (Heap.get?_push_of_some _ p))))⟩
end
def Itz (K : PySem.W.Frag) (a b : Addr) (xs ys : List V) : It :=
  ⟨fun i H => SqT K H a xs /\ SqT K H b ys /\ i < xs.length /\ i < ys.length, fun i H x H' => ∃ T u v, H T = none /\ x = .ref T /\ H' = upd H T (.tup [u, v]) /\ xs[i]? = some u /\ ys[i]? = some v,
    fun i H => SqT K H a xs /\ SqT K H b ys /\ (xs.length <= i \/ ys.length <= i)⟩
theorem z8P {P : Program} {w : World} {K : PySem.W.Frag} {es : List Expr} {k : Nat} {pos : Pos} (z TI TO i1 i2 a b : Addr) (xs ys : List V) (D : ZipApart z TI TO i1 i2 a b) :
    Turn P w K (.Tuple es k pos) (Itz K a b xs ys) [z, TI, TO, i1, i2] z (fun i h => IsZip h z TI TO .none /\ IsPair h TI (.ref i1) (.ref i2) /\ (∃ u v, IsPair h TO u v) /\ h.IsTupleIter i1 a i /\ h.IsTupleIter i2 b i) where
  mem := List.mem_cons_self
  obj := fun i h st c hc => by
    obtain ⟨gz, gI, ⟨u, v, gO⟩, ⟨o1, e1, c1, d1⟩, ⟨o2, e2, c2, d2⟩⟩ := st
    simp only [List.mem_cons, List.mem_nil_iff, or_false] at hc
    rcases hc with rfl | rfl | rfl | rfl | rfl
    . exact ⟨_, gz, fun v q => by cases q⟩
    . exact ⟨_, gI, fun v q => by cases q⟩
    . exact ⟨_, gO, fun v q => by cases q⟩
    . exact ⟨o1, e1, fun v q => by rw [d1] at q; cases q⟩
    . exact ⟨o2, e2, fun v q => by rw [d2] at q; cases q⟩
  keep := fun i h h' st kk => by
    obtain ⟨gz, gI, ⟨u, v, gO⟩, j1, j2⟩ := st
    exact ⟨kk z (by simp) _ gz, kk TI (by simp) _ gI, ⟨u, v, kk TO (by simp) _ gO⟩, j1.at fun o e => kk i1 (by simp) o e, j2.at fun o e => kk i2 (by simp) o e⟩
  item := by
    intro X hP hw hK hc i pins s σ H E I hf st hg
    subst hP hw hK
    obtain ⟨ha, hb, hi, hj⟩ := hg
    obtain ⟨gz, gI, ⟨p, q, gO⟩, j1, j2⟩ := st
    obtain ⟨its1, rv1, t1, _⟩ := I.tuple ha
    obtain ⟨its2, rv2, t2, _⟩ := I.tuple hb
    have hx : xs[i]? = some xs[i] := List.getElem?_eq_getElem hi
    have hy : ys[i]? = some ys[i] := List.getElem?_eq_getElem hj
    obtain ⟨u, hu, ru⟩ := rv1.get hx
    obtain ⟨v, hv, rv⟩ := rv2.get hy
    have nT : H s.heap.objs.size = none := I.hok.fresh (Nat.le_refl _)
    have F0 : ∀ c ∈ [z, TI, TO, i1, i2], H c = none := fun c hc' => (hf c hc').1
    refine z8M D gz gI gO j1 j2 (show s.heap.IsTuple a its1.toArray from t1) (show s.heap.IsTuple b its2.toArray from t2) (x := u) (y := v) (by simpa using hu) (by simpa using hv) fun h' a1 a2 a3 a4 a5 a6 a7 => ?_
    refine ⟨.ref s.heap.objs.size, rfl, wpAny_letOwnedTupleGo_zip a1 fun h'' gz'' sb => ?_⟩
    have lt : ∀ {c o}, s.heap.get? c = some o -> c ≠ s.heap.objs.size := fun e => Nat.ne_of_lt (Heap.lt_size e)
    have kk : ∀ c o, c ∉ [z, TO, i1, i2] -> s.heap.get? c = some o -> h''.get? c = some o := fun c o hc' e => by
      simp only [List.mem_cons, List.mem_nil_iff, or_false, not_or] at hc'
      exact (sb.2 c hc'.1).trans (a7 c o hc'.1 hc'.2.1 hc'.2.2.1 hc'.2.2.2 e)
    have gT : IsPair h'' s.heap.objs.size u v := (sb.2 _ (Ne.symm (lt gz))).trans a5
    have nb : ∀ c y, H c = some y -> c ∉ [z, TO, i1, i2] := fun c y e hc' => by
      have := F0 c (by simp only [List.mem_cons, List.mem_nil_iff, or_false] at hc' ⊢; rcases hc' with h | h | h | h <;> simp [h])
      rw [this] at e
      cases e
    have sub : ∀ c, c ∈ [z, TO, i1, i2] -> c ∈ [z, TI, TO, i1, i2] := fun c hc' => by
      simp only [List.mem_cons, List.mem_nil_iff, or_false] at hc' ⊢
      rcases hc' with h | h | h | h <;> simp [h]
    have I1 : Inv X pins σ (upd H s.heap.objs.size (.tup [xs[i], ys[i]])) { s with heap := h'', toks := s.toks } := by
      refine I.step (g' := s.gens) (d' := s.drawn) (ch := [z, TO, i1, i2]) (fun c hc' => ?_) (fun c o _ _ hc' e _ => kk c o hc' e) (fun c o _ _ hc' e _ => ⟨o.slots, kk c o hc' e⟩) (fun c o _ e n => ?_)
        (fun c o hc' e => ⟨o, kk c o hc' e⟩) (fun c zs e => ?_) (fun c ob y e => ?_) (fun c ps e => ⟨#[], ?_⟩) (fun m hm => ?_) (fun c y e => ?_) I.bare
      . obtain ⟨_, f1, _, f3, f4, f5⟩ := hf c (sub c hc')
        exact ⟨f3, f1, f4, f5⟩
      . rw [z07 (lt e)]
        exact n
      . rw [z07 (z08 e nT)]
        exact e
      . rw [z07 (z08 e nT)]
        exact e
      . rw [z07 (z08 e nT), e]
        simp
      . obtain ⟨o, es', ep, ho', r⟩ := hm
        refine ⟨o, es', ep, kk _ o (fun hc' => ?_) ho', r⟩
        exact (hf _ (sub _ hc')).2.1 rfl
      . by_cases hb' : c = s.heap.objs.size
        . subst hb'
          rw [upd_same] at e
          cases e
          exact ⟨by show 2 <= sizeLine; decide, [u, v], .cons ru (.cons rv .nil), _, gT, rfl, _, rfl⟩
        . rw [z07 hb'] at e
          refine (I.hok c y e).stay (fun d o hd e' => ?_) (fun d e' => by rw [z07 (z08 e' nT)]; exact e') fun d zs e' => by rw [z07 (z08 e' nT)]; exact e'
          rcases hd with h | h
          . subst h
            exact kk d o (nb d y e) e'
          . exact kk d o (nb d _ h) e'
    refine ⟨.ref s.heap.objs.size, _, I1, rfl, ⟨_, xs[i], ys[i], nT, rfl, rfl, hx, hy⟩, ⟨gz'', (sb.2 _ D.TIz).trans (a7 _ _ D.TIz D.TITO D.TIi1 D.TIi2 gI), ⟨_, _, (sb.2 _ D.TOz).trans a2⟩, a3.at fun o e => (sb.2 _ D.i1z).trans e, a4.at fun o e => (sb.2 _ D.i2z).trans e⟩, fun c hc' => ?_⟩
    rw [z07]
    . exact F0 c hc'
    . simp only [List.mem_cons, List.mem_nil_iff, or_false] at hc'
      rcases hc' with rfl | rfl | rfl | rfl | rfl
      . exact lt gz
      . exact lt gI
      . exact lt gO
      . obtain ⟨_, e, _⟩ := j1; exact lt e
      . obtain ⟨_, e, _⟩ := j2; exact lt e
  done := by
    intro X hP hw hK hc i pins s σ H E I hf st hg
    subst hP hw hK
    obtain ⟨ha, hb, hend⟩ := hg
    obtain ⟨gz, gI, ⟨p, q, gO⟩, j1, j2⟩ := st
    obtain ⟨its1, rv1, t1, _⟩ := I.tuple ha
    obtain ⟨its2, rv2, t2, _⟩ := I.tuple hb
    have l1 := rv1.length
    have l2 := rv2.length
    have hend' : its1.toArray[i]? = none \/ its2.toArray[i]? = none := by
      rcases hend with h | h
      . exact .inl (by rw [List.getElem?_toArray]; exact List.getElem?_eq_none (by omega))
      . exact .inr (by rw [List.getElem?_toArray]; exact List.getElem?_eq_none (by omega))
    have sub : ∀ c, c ∈ [z, TO, i1, i2] -> c ∈ [z, TI, TO, i1, i2] := fun c hc' => by
      simp only [List.mem_cons, List.mem_nil_iff, or_false] at hc' ⊢
      rcases hc' with h | h | h | h <;> simp [h]
    have nb : ∀ c y, H c = some y -> c ∉ [z, TO, i1, i2] := fun c y e hc' => by
      rw [(hf c (sub c hc')).1] at e
      cases e
    refine z8N (I.ok.hd hc) D gz gI gO j1 j2 (show s.heap.IsTuple a its1.toArray from t1) (show s.heap.IsTuple b its2.toArray from t2) hend' fun h' a7 => ⟨rfl, ?_⟩
    have kk : ∀ c o, c ∉ [z, TO, i1, i2] -> s.heap.get? c = some o -> h'.get? c = some o := fun c o hc' e => by
      simp only [List.mem_cons, List.mem_nil_iff, or_false, not_or] at hc'
      exact a7 c o hc'.1 hc'.2.1 hc'.2.2.1 hc'.2.2.2 e
    refine I.step (t' := s.toks) (g' := s.gens) (d' := s.drawn) (ch := [z, TO, i1, i2]) (fun c hc' => ?_) (fun c o _ _ hc' e _ => kk c o hc' e) (fun c o _ _ hc' e _ => ⟨o.slots, kk c o hc' e⟩) (fun c o _ e n => n)
      (fun c o hc' e => ⟨o, kk c o hc' e⟩) (fun c zs e => e) (fun c ob y e => e) (fun c ps e => ⟨#[], by rw [e]; simp⟩) (fun m hm => ?_) (fun c y e => ?_) I.bare
    . obtain ⟨_, f1, _, f3, f4, f5⟩ := hf c (sub c hc')
      exact ⟨f3, f1, f4, f5⟩
    . obtain ⟨o, es', ep, ho', r⟩ := hm
      exact ⟨o, es', ep, kk _ o (fun hc' => (hf _ (sub _ hc')).2.1 rfl) ho', r⟩
    . refine (I.hok c y e).stay (fun d o hd e' => ?_) (fun d e' => e') fun d zs e' => e'
      rcases hd with h | h
      . subst h
        exact kk d o (nb d y e) e'
      . exact kk d o (nb d _ h) e'
  self := fun _ _ _ _ _ st h => wpAny_pyIter_zip st.1 h
section
variable {X : Cx}
def zE2 (K : PySem.W.Frag) (ta : TA) : TI := fun σ H R => ta σ H fun vs H1 => ∃ a b xs ys, vs = [.ref a, .ref b] /\ SqT K H1 a xs /\ SqT K H1 b ys /\ R (Itz K a b xs ys) H1
theorem zAe {l1 l2 : Expr} {ta : TA} {p pos : Pos} {es : List Expr} {k : Nat} {tp : Pos} (hg : Gl X "zip") (hm : X.mg "zip" = none) (ha : PA X [l1, l2] ta) (hs : starEach [l1, l2] X.env = [(false, eval l1 X.env), (false, eval l2 X.env)] := by rfl) (hs2 : starEach [l2] X.env = [(false, eval l2 X.env)] := by rfl) :
    PI X (.Tuple es k tp) (.Call (.Name "zip" p) [l1, l2] [] pos) (zE2 X.K ta) := by
  intro pins s σ H R I h
  refine Call_ (z1w I hg hm boot_zip (PyProof.Rows.callWith_type1 (thn (ha pos pins s σ H _ I h) fun us s1 ⟨vs, H1, I1, r1, q1⟩ => ?_) (by rw [hs, hs2]) (by rw [hs2]; rfl)))
  obtain ⟨a, b, xs, ys, e, ta', tb', q⟩ := q1
  subst e
  obtain ⟨u, v, rfl, ru, rv⟩ := vals2 r1
  cases (show u = Value.ref a from ru)
  cases (show v = Value.ref b from rv)
  obtain ⟨its1, rv1, t1, _⟩ := I1.tuple ta'
  obtain ⟨its2, rv2, t2, _⟩ := I1.tuple tb'
  have la : a < s1.heap.objs.size := by obtain ⟨_, e, _⟩ := t1; exact Heap.lt_size e
  have lb : b < s1.heap.objs.size := by obtain ⟨_, e, _⟩ := t2; exact Heap.lt_size e
  refine z8O (show s1.heap.IsTuple a its1.toArray from t1) (show s1.heap.IsTuple b its2.toArray from t2) fun h' a1 a2 a3 a4 a5 a6 a7 => ?_
  refine wpAny_pyIter_zip (s := { s1 with heap := h' }) a1 ?_
  refine ⟨s1.heap.objs.size + 4, [s1.heap.objs.size + 4, s1.heap.objs.size + 2, s1.heap.objs.size + 3, s1.heap.objs.size, s1.heap.objs.size + 1], _, _, H1, rfl, I1.kept (t' := s1.toks) a7,
    z8P _ _ _ _ _ a b xs ys (zipApart_new la lb), ⟨a1, a2, ⟨_, _, a3⟩, a4, a5⟩, fun c hc => ?_, q⟩
  have ge : s1.heap.objs.size <= c := by
    simp only [List.mem_cons, List.mem_nil_iff, or_false] at hc
    rcases hc with e | e | e | e | e <;> rw [e]
    . exact Nat.le_add_right _ _
    . exact Nat.le_add_right _ _
    . exact Nat.le_add_right _ _
    . exact Nat.le_refl _
    . exact Nat.le_add_right _ _
  exact I1.fpOk ge (I1.hok.fresh ge)
end
def zCO (sc dsc : Scope) (N : List Str) (ix : List Nat) : Bool :=
  sc.kind == .function && sc.names.all (fun y => y.2 != .cell) && sc.names.all (fun y => y.2 != .free || dsc.names.lookup y.1 == some .cell || dsc.names.lookup y.1 == some .free) &&
    sc.names.all (fun y => y.2 != .local || sc.names.lookup y.1 == some .local) && ix.all (fun i => match N[i]? with | some x => sc.names.lookup x == some .free | none => false)
theorem BlkSc.look {X : Cx} {sc dsc : Scope} {locs N : List Str} {ix : List Nat} (hs : X.env.scope = dsc) (hN : X.N = N) (c : zCO sc dsc N ix = true) : BlkSc X sc locs ix := by
  unfold zCO at c
  rw [Bool.and_eq_true, Bool.and_eq_true, Bool.and_eq_true, Bool.and_eq_true] at c
  obtain ⟨⟨⟨⟨c1, c2⟩, c3⟩, c4⟩, c5⟩ := c
  refine ⟨by simpa using c1, fun y hy => ?_, fun y hy hk => ?_, fun y hy hk => ?_, fun i hi => ?_⟩
  . simpa using List.all_eq_true.mp c2 y hy
  . have q := List.all_eq_true.mp c3 y hy
    have z : X.env.kindOf y.1 = dsc.names.lookup y.1 := by rw [<- hs]; rfl
    rw [z]
    rw [hk] at q
    simpa using q
  . have q := List.all_eq_true.mp c4 y hy
    rw [hk] at q
    simpa using q
  . have q := List.all_eq_true.mp c5 i hi
    rw [hN]
    cases hx : N[i]? with
    | none => rw [hx] at q; cases q
    | some x =>
      rw [hx] at q
      exact ⟨x, rfl, by simpa using q⟩
section
variable {X : Cx} {sc : Scope} {cl : List (Str × Addr)} {C : Addr} {N : List Str} {fp : List Addr} {s2 : Shared} {H2 : Hp} {pn : List (Addr × Obj)}
theorem z4E : IxR (cxC X sc cl C N fp s2 H2 pn) (zDe X.K) := z17
theorem z20 : IxR (cxC X sc cl C N fp s2 H2 pn) (zDf X.K) := z0K
theorem z4n : z2G (cxC X sc cl C N fp s2 H2 pn) (.builtin "len") (fun xs H Q => ∃ p ys, xs = [.ref p] /\ (SqL X.K H p ys \/ SqT X.K H p ys) /\ Q (.int ys.length) H) := z0B
theorem z4F {es : List Expr} {k n : Nat} {t : TGs} {pos : Pos} (hc : X.calm = true) (h : PGs (cxC X sc cl C N fp s2 H2 pn) es t)
    (hn : (assignEach es (cxC X sc cl C N fp s2 H2 pn).env).length = n := by rfl) (hst : (assignEach es (cxC X sc cl C N fp s2 H2 pn).env).findIdx? (·.1) = none := by rfl) :
    PG (cxC X sc cl C N fp s2 H2 pn) (.Tuple es k pos) (zDa X.K n t) := z4c hc h hn hst
end
theorem z0f {J : It} {n : Nat} {g : TG} {te : TE} {σ0 : St} {H1 : Hp} {Fin : List V -> Hp -> Prop} (Pv : Nat -> St -> List V -> Hp -> Prop) (h0 : Pv 0 σ0 [] H1) (hn : n <= sizeLine) (len : ∀ i σ ys H, Pv i σ ys H -> ys.length = i)
    (stop : ∀ σ ys H, Pv n σ ys H -> J.stop n H) (go : ∀ i σ ys H, i < n -> Pv i σ ys H -> J.go i H)
    (hs : ∀ i σ ys H x H' (Z : St -> List V -> Hp -> Prop), i < n -> Pv i σ ys H -> J.yld i H x H' -> (∀ σ' ys' H', Pv (i + 1) σ' ys' H' -> Z σ' ys' H') -> g x σ H' fun σ2 H2 => te σ2 H2 fun y H3 => Z σ2 (ys ++ [y]) H3) (hd : ∀ σ ys H, Pv n σ ys H -> Fin ys H) :
    ∃ W : Nat -> Nat -> St -> List V -> Hp -> Prop, (∃ m, W 0 m σ0 [] H1) /\ z9p J g zDg te Fin W := by
  refine ⟨fun i m σ ys H => m = n - i /\ i <= n /\ Pv i σ ys H, ⟨n, rfl, Nat.zero_le _, h0⟩, ?_⟩
  rintro i m σ ys H ⟨rfl, hi, p⟩
  by_cases hlt : i < n
  . refine .inr ⟨go i σ ys H hlt p, by rw [len i σ ys H p]; omega, fun x H' y => ?_⟩
    have q := hs i σ ys H x H' (fun σ2 ys2 H3 => ∃ m', m' < n - i /\ m' = n - (i + 1) /\ i + 1 <= n /\ Pv (i + 1) σ2 ys2 H3) hlt p y fun σ' ys' H'' p' => ⟨n - (i + 1), by omega, rfl, hlt, p'⟩
    exact q
  . have e : i = n := by omega
    subst e
    exact .inl ⟨stop σ ys H p, by rw [len i σ ys H p]; exact hn, hd σ ys H p⟩
def Alk : Nat -> Hp -> V -> V -> Prop
  | 0, _, _, _ => False
  | n + 1, H, x, y => (x = y /\ (x = .non \/ (∃ b, x = .bl b) \/ (∃ i, x = .int i) \/ ∃ z, x = .str z)) \/
      ∃ a b xs ys, x = .ref a /\ y = .ref b /\ ((H a = some (.lst xs) /\ H b = some (.lst ys)) \/ (H a = some (.tup xs) /\ H b = some (.tup ys))) /\ xs.length <= 1000000 /\ xs.length = ys.length /\ ∀ (i : Nat) u v, xs[i]? = some u -> ys[i]? = some v -> Alk n H u v
theorem Alk.int {n : Nat} {H : Hp} (i : Int) : Alk (n + 1) H (.int i) (.int i) := .inl ⟨rfl, .inr (.inr (.inl ⟨i, rfl⟩))⟩
theorem Alk.non {n : Nat} {H : Hp} : Alk (n + 1) H .non .non := .inl ⟨rfl, .inl rfl⟩
theorem Alk.bl {n : Nat} {H : Hp} (b : Bool) : Alk (n + 1) H (.bl b) (.bl b) := .inl ⟨rfl, .inr (.inl ⟨b, rfl⟩)⟩
structure BltA (mg : Str -> Option Value) : Prop where
  isi : mg "isinstance" = none
  tup : mg "tuple" = none
  lst : mg "list" = none
  boo : mg "bool" = none
  str : mg "str" = none
  int : mg "int" = none
  len : mg "len" = none
  all : mg "all" = none
  rng : mg "range" = none
end L2
namespace G
open PySem
def z06 : List (Option Int) -> Int
  | [] => 0
  | c :: r => c.getD 0 + 16 * z06 r
def z0E : List (Option Int) -> Int
  | [] => 0
  | c :: r => (if c.isSome = true then 1 else 0) + 2 * z0E r
def Cell (c : Option Int) : Prop := ∀ z, c = some z -> 0 <= z /\ z <= 15
def Cells (r : List (Option Int)) : Prop := ∀ c ∈ r, Cell c
theorem Cells.tail {c : Option Int} {r : List (Option Int)} (h : Cells (c :: r)) : Cells r := fun d hd => h d (List.mem_cons_of_mem _ hd)
theorem Cell.get {c : Option Int} (h : Cell c) : 0 <= c.getD 0 /\ c.getD 0 <= 15 := by
  cases c with
  | none => exact ⟨by decide, by decide⟩
  | some z => exact h z rfl
theorem z4G (n : Nat) : (16 : Int) ^ (n + 1) = 16 * 16 ^ n := by rw [Int.pow_succ, Int.mul_comm]
theorem z7k (n : Nat) : (2 : Int) ^ (n + 1) = 2 * 2 ^ n := by rw [Int.pow_succ, Int.mul_comm]
theorem z4o : ∀ n : Nat, (0 : Int) < 16 ^ n
  | 0 => by decide
  | n + 1 => by have := z4o n; rw [z4G]; omega
theorem z2S : ∀ n : Nat, (0 : Int) < 2 ^ n
  | 0 => by decide
  | n + 1 => by have := z2S n; rw [z7k]; omega
theorem z27 : ∀ {r : List (Option Int)}, Cells r -> 0 <= z06 r /\ z06 r < 16 ^ r.length
  | [], _ => ⟨by decide, by decide⟩
  | c :: r, h => by
    have ih := z27 h.tail
    have hc := (h c List.mem_cons_self).get
    show 0 <= c.getD 0 + 16 * z06 r /\ c.getD 0 + 16 * z06 r < 16 ^ (r.length + 1)
    rw [z4G]
    omega
theorem z21 : ∀ (r : List (Option Int)), 0 <= z0E r /\ z0E r < 2 ^ r.length
  | [] => ⟨by decide, by decide⟩
  | c :: r => by
    have ih := z21 r
    show 0 <= (if c.isSome = true then 1 else 0) + 2 * z0E r /\ (if c.isSome = true then 1 else 0) + 2 * z0E r < (2 : Int) ^ (r.length + 1)
    rw [z7k]
    split <;> omega
theorem z3o (c : Option Int) : ∀ r : List (Option Int), z06 (r ++ [c]) = z06 r + c.getD 0 * 16 ^ r.length
  | [] => by show c.getD 0 + 16 * 0 = 0 + c.getD 0 * 1; omega
  | d :: r => by
    have ih := z3o c r
    show d.getD 0 + 16 * z06 (r ++ [c]) = d.getD 0 + 16 * z06 r + c.getD 0 * 16 ^ (r.length + 1)
    rw [ih, z4G, Int.mul_add, <- Int.mul_assoc, Int.mul_comm 16 (c.getD 0), Int.mul_assoc, Int.add_assoc]
theorem z4p (c : Option Int) : ∀ r : List (Option Int), z0E (r ++ [c]) = z0E r + (if c.isSome = true then 1 else 0) * 2 ^ r.length
  | [] => by show (if c.isSome = true then 1 else 0) + 2 * 0 = 0 + (if c.isSome = true then (1 : Int) else 0) * 1; omega
  | d :: r => by
    have ih := z4p c r
    show (if d.isSome = true then 1 else 0) + 2 * z0E (r ++ [c]) = (if d.isSome = true then 1 else 0) + 2 * z0E r + (if c.isSome = true then (1 : Int) else 0) * 2 ^ (r.length + 1)
    rw [ih, z7k, Int.mul_add, <- Int.mul_assoc, Int.mul_comm 2 (if c.isSome = true then (1 : Int) else 0), Int.mul_assoc, Int.add_assoc]
theorem zBP (a d k : Nat) (h : d < 2 ^ k) : (2 ^ k * a) &&& d = 0 := by
  have e1 : d &&& (2 ^ k - 1) = d := by rw [Nat.and_two_pow_sub_one_eq_mod, Nat.mod_eq_of_lt h]
  have e2 : (2 ^ k * a) &&& (2 ^ k - 1) = 0 := by rw [Nat.and_two_pow_sub_one_eq_mod, Nat.mul_mod_right]
  have f : (2 ^ k * a) &&& (d &&& (2 ^ k - 1)) = ((2 ^ k * a) &&& (2 ^ k - 1)) &&& d := by rw [Nat.and_comm d (2 ^ k - 1), Nat.and_assoc]
  rw [e1, e2, Nat.zero_and] at f
  exact f
theorem z3p (k : Nat) : ((2 ^ k : Nat) : Int) = (2 : Int) ^ k := by
  induction k with
  | zero => rfl
  | succ k ih => rw [Nat.pow_succ, Int.natCast_mul, ih, Int.pow_succ]; rfl
theorem z5d {p c : Int} {k : Nat} (p0 : 0 <= p) (p1 : p < 2 ^ k) (c0 : 0 <= c) : Builtin.bitOr p (c * 2 ^ k) = p + c * 2 ^ k := by
  obtain ⟨P, rfl⟩ := Int.eq_ofNat_of_zero_le p0
  obtain ⟨C, rfl⟩ := Int.eq_ofNat_of_zero_le c0
  have e : ((C : Int) * 2 ^ k) = ((2 ^ k * C : Nat) : Int) := by rw [Int.natCast_mul, z3p, Int.mul_comm]
  rw [e, PyProof.Rows.bitOr_and, PyProof.Rows.bitAnd_pp (Int.natCast_nonneg _) (Int.natCast_nonneg _), Int.toNat_natCast, Int.toNat_natCast]
  have hP : P < 2 ^ k := by
    rw [<- z3p] at p1
    omega
  rw [Nat.and_comm, zBP C P k hP]
  omega
theorem zAf (x : Nat) : (2 : Int) ^ (4 * x) = 16 ^ x := by
  induction x with
  | zero => rfl
  | succ x ih =>
    rw [show 4 * (x + 1) = 4 * x + 1 + 1 + 1 + 1 by omega, z7k, z7k, z7k, z7k, ih, z4G]
    omega
end G
namespace L2
open PySem PySem.Spec PyProof.Rows G
def z0S : Option Int -> V
  | none => .non
  | some z => .int z
structure RowsAt (H : Hp) (l : Addr) (ps : List Addr) (rows : List (List (Option Int))) : Prop where
  lst : H l = some (.lst (ps.map V.ref))
  len : ps.length = rows.length
  row : ∀ (i : Nat) p r, ps[i]? = some p -> rows[i]? = some r -> H p = some (.lst (r.map z0S))
theorem RowsAt.mono {H H' : Hp} {l : Addr} {ps : List Addr} {rows : List (List (Option Int))} (s : Same H H') (h : RowsAt H l ps rows) : RowsAt H' l ps rows := ⟨s _ _ h.lst, h.len, fun i p r e1 e2 => s _ _ (h.row i p r e1 e2)⟩
structure Rect (w h : Nat) (rows : List (List (Option Int))) : Prop where
  len : rows.length = h
  h1 : 1 <= h
  h2 : h <= 64
  w1 : 1 <= w
  w2 : w <= 64
  row : ∀ r ∈ rows, r.length = w /\ Cells r
def PicAt (H : Hp) (p : Addr) (w : Nat) (rows : List (List (Option Int))) : Prop :=
  ∃ pp pm, H p = some (.tup [.int (w : Int), .int (rows.length : Int), .ref pp, .ref pm]) /\ H pp = some (.tup ((rows.map z06).map V.int)) /\ H pm = some (.tup ((rows.map z0E).map V.int))
theorem PicAt.mono {H H' : Hp} {p : Addr} {w : Nat} {rows : List (List (Option Int))} (s : Same H H') (h : PicAt H p w rows) : PicAt H' p w rows := by
  obtain ⟨pp, pm, h1, h2, h3⟩ := h
  exact ⟨pp, pm, s _ _ h1, s _ _ h2, s _ _ h3⟩
theorem Alk.cell {n : Nat} {H : Hp} (c : Option Int) : Alk (n + 1) H (z0S c) (z0S c) := by
  cases c with
  | none => exact Alk.non
  | some z => exact Alk.int z
theorem zBQ {ns : List Int} (h : 0 < ns.length) (k : Int) : ∃ z, atI (ns.map V.int) (k % ((ns.map V.int).length : Int)) = some (.int z) := by
  have e : ((ns.map V.int).length : Int) = (ns.length : Int) := by rw [List.length_map]
  rw [e]
  have h1 := Int.emod_nonneg k (show (ns.length : Int) ≠ 0 by omega)
  have h2 := Int.emod_lt_of_pos k (show (0 : Int) < ns.length by omega)
  have e2 : k % (ns.length : Int) = (((k % (ns.length : Int)).toNat : Nat) : Int) := by omega
  rw [e2]
  have hj : (k % (ns.length : Int)).toNat < ns.length := by omega
  refine ⟨ns[(k % (ns.length : Int)).toNat], z0d ?_⟩
  rw [List.getElem?_map, List.getElem?_eq_getElem hj]
  rfl
def look (w h : Nat) (rows : List (List (Option Int))) (x y : Int) : Option Int := if 0 <= x /\ x < w /\ 0 <= y /\ y < h then (rows.getD y.toNat []).getD x.toNat none else none
theorem zCP {zs : List Int} {y : Int} {z : Int} (h0 : 0 <= y) (h : zs[y.toNat]? = some z) : atI (zs.map V.int) y = some (.int z) := by
  have e : y = ((y.toNat : Nat) : Int) := by omega
  rw [e]
  exact z0d (by rw [List.getElem?_map, h]; rfl)
def zAg (K : PySem.W.Frag) : Sp := fun vs H Q _ => ∃ (a : Addr) (ns : List Int) (k m : Int), vs = [.ref a, .int k, .int m] /\ SqL K H a (ns.map V.int) /\ 0 <= k /\ k < 1000000 /\ 0 < m /\ ∀ r, 0 <= r -> r < m -> Q (.int r) H
def zAh (K : PySem.W.Frag) : Sp := fun vs H Q _ => ∃ (a : Addr) (ns : List Int) (k w h : Int), vs = [.ref a, .int k, .int w, .int h] /\ SqL K H a (ns.map V.int) /\ 0 <= k /\ k < 10000 /\ 1 <= w /\ w <= 64 /\ 1 <= h /\ h <= 64 /\
  ∀ l ps rows H', Same H H' -> H l = none -> (∀ p ∈ ps, H p = none) -> RowsAt H' l ps rows -> Rect w.toNat h.toNat rows -> Q (.ref l) H'
def z4H : Sp := fun vs H Q _ => ∃ l ps rows w h, vs = [.ref l] /\ RowsAt H l ps rows /\ Rect w h rows /\ ∀ p H', Same H H' -> PicAt H' p w rows -> Q (.ref p) H'
def z8Q : Sp := fun vs H Q _ => ∃ l r, vs = [.ref l] /\ H l = some (.lst (r.map z0S)) /\ Cells r /\ r.length <= 64 /\ ∀ H', Same H H' -> Q (.int (z06 r)) H'
def zAi : Sp := fun vs H Q _ => ∃ l r, vs = [.ref l] /\ H l = some (.lst (r.map z0S)) /\ Cells r /\ r.length <= 64 /\ ∀ H', Same H H' -> Q (.int (z0E r)) H'
theorem zE3 (x : Int) : Builtin.bitAnd x 1 = x % 2 := bitAnd_m1 x
structure Ow (P : Program) (w : World) (K : PySem.W.Frag) (mg : Str -> Option Value) (base : Heap) (x : Str) (ps : List Str) (k : Nat) (sp : Sp) : Prop where
  ex : ∃ (f : Addr) (fd : FuncData), mg x = some (.ref f) /\ PySem.W.keepIn K (.ref f) = true /\ Binds K fd ps [] /\ FnOk P w K mg base CX0 k f fd ps sp
theorem Df.ow {P : Program} {w : World} {K : PySem.W.Frag} {mg : Str -> Option Value} {base : Heap} {x : Str} {st : Stmt} {ps : List Str} {f : Addr} {fd : FuncData} {k : Nat} {sp : Sp} (D : Df K mg x st ps f fd) (F : FnOk P w K mg base CX0 k f fd ps sp) :
    Ow P w K mg base x ps k sp := ⟨f, fd, D.m, D.F.kp, D.b, F⟩
section
variable {X : Cx} {k j : Nat} {ps : List Str} {sp : Sp} {x : Str} {p pos : Pos} {e : Expr} {es : List Expr} {t : TA}
theorem z0F (O : Ow X.prog X.w X.K X.mg X.base x ps k sp) (hr : Room j X.A) (hg : Gl X x) (ha : PA X (e :: es) t) (hk : k <= j := by decide) (hdb : (x == ("__debug__" : Str)) = false := by decide)
    (he : starEach (e :: es) X.env = (false, eval e X.env) :: starEach es X.env := by rfl) (hpl : (backTo pos (starEach es X.env)).any (·.1) = false := by rfl) :
    PE X (.Call (.Name x p) (e :: es) [] pos) (z76 sp [] E0 t) := by
  obtain ⟨f, fd, m, kp, b, F⟩ := O.ex
  exact z4A F (hr.mono hk) hg m kp b .nil z9m ha hdb he hpl
end
theorem z2g {c A B : Prop} [Decidable c] (h1 : c -> A) (h2 : ¬ c -> B) : if decide c = true then A else B := by
  by_cases h : c
  . rw [decide_eq_true h, if_pos rfl]; exact h1 h
  . rw [decide_eq_false h, if_neg Bool.false_ne_true]; exact h2 h
theorem zAj {c A B : Prop} [Decidable c] (h1 : ¬ c -> A) (h2 : c -> B) : if (!decide c) = true then A else B := by
  by_cases h : c
  . rw [decide_eq_true h, Bool.not_true, if_neg Bool.false_ne_true]; exact h2 h
  . rw [decide_eq_false h, Bool.not_false, if_pos rfl]; exact h1 h
theorem mulL {i j : Int} (h1 : -18446744073709551616 < i) (h2 : i < 18446744073709551616) : CMul i j := .inl ⟨h1, h2⟩
theorem mulR {i j : Int} (h1 : -18446744073709551616 < j) (h2 : j < 18446744073709551616) : CMul i j := .inr ⟨h1, h2⟩
theorem powS {i j : Int} (h1 : 0 <= j) (h2 : j <= 1000000) (h3 : i.natAbs < 18446744073709551616) : zD2 i j := ⟨h1, h2, h3⟩
theorem szV {xs : List V} (h : xs.length <= 100000) : xs.length <= sizeLine := Nat.le_trans h (by decide)
theorem z2N {j : Int} (h1 : 0 <= j) (h2 : j <= 1000000000) : -(2 ^ 62) <= j /\ j < 2 ^ 62 := by
  have : (1000000000 : Int) < 2 ^ 62 := by decide
  omega
def zE4 (t u : TS) : TS := fun D σ H => ∃ I : St -> Hp -> Prop, t { D with nx := I } σ H /\ ∀ σ' H', I σ' H' -> u D σ' H'
theorem z22 {X : Cx} {st : Stmt} {rest : List Stmt} {t u : TS} (h1 : PS X st t) (h2 : PSs X rest u) : PSs X (st :: rest) (zE4 t u) := by
  intro pins s σ H D I h
  obtain ⟨J, h, hj⟩ := h
  refine wpAny_execs_cons (thn (h1 pins s σ H { D with nx := J } I h) fun f s1 q => ?_)
  cases f with
  | next =>
    obtain ⟨σ', H', I', q⟩ := q
    exact h2 pins s1 σ' H' D I' (hj _ _ q)
  | ret v => exact q
  | brk => exact q
  | cont => exact q
end L2
namespace L2
open PySem PySem.Spec PyProof.Rows G
structure RowsB (H0 H : Hp) (l : Addr) (ps : List Addr) (rows : List (List (Option Int))) : Prop where
  same : Same H0 H
  fl : H0 l = none
  fp : ∀ p ∈ ps, H0 p = none /\ p ≠ l
  rat : RowsAt H l ps rows
theorem Same.put {H0 H : Hp} {p : Addr} {o : HO} (s : Same H0 H) (h : H0 p = none) : Same H0 (upd H p o) := fun b u e => by
  rw [z07 (z08 e h)]
  exact s b u e
theorem RowsB.put {H0 H : Hp} {l p : Addr} {ps : List Addr} {rows : List (List (Option Int))} {o : HO} (B : RowsB H0 H l ps rows) (h0 : H0 p = none) (hl : p ≠ l) (hp : p ∉ ps) : RowsB H0 (upd H p o) l ps rows where
  same := B.same.put h0
  fl := B.fl
  fp := B.fp
  rat := ⟨by rw [z07 (Ne.symm hl)]; exact B.rat.lst, B.rat.len, fun i q r e1 e2 => by
    have hq : q ≠ p := fun e => hp (by rw [<- e]; exact List.mem_of_getElem? e1)
    rw [z07 hq]
    exact B.rat.row i q r e1 e2⟩
theorem RowsB.push {H0 H : Hp} {l p : Addr} {ps : List Addr} {rows : List (List (Option Int))} {r : List (Option Int)} (B : RowsB H0 H l ps rows) (h0 : H0 p = none) (hl : p ≠ l) (hr : H p = some (.lst (r.map z0S))) :
    RowsB H0 (upd H l (.lst (ps.map V.ref ++ [.ref p]))) l (ps ++ [p]) (rows ++ [r]) where
  same := B.same.put B.fl
  fl := B.fl
  fp := fun q hq => by
    rcases List.mem_append.mp hq with h | h
    . exact B.fp q h
    . rw [List.mem_singleton.mp h]
      exact ⟨h0, hl⟩
  rat := ⟨by rw [upd_same, List.map_append]; rfl, by rw [List.length_append, List.length_append, B.rat.len]; rfl, fun i q s e1 e2 => by
    have hq : q ≠ l := by
      rcases List.mem_append.mp (List.mem_of_getElem? e1) with h | h
      . exact (B.fp q h).2
      . rw [List.mem_singleton.mp h]
        exact hl
    rw [z07 hq]
    have hlen := B.rat.len
    by_cases hi : i < ps.length
    . rw [List.getElem?_append_left hi] at e1
      rw [List.getElem?_append_left (by omega)] at e2
      exact B.rat.row i q s e1 e2
    . rw [List.getElem?_append_right (by omega)] at e1
      rw [List.getElem?_append_right (by omega)] at e2
      rw [hlen] at e1
      cases hj : i - rows.length with
      | zero =>
        rw [hj] at e1 e2
        cases e1
        cases e2
        exact hr
      | succ n =>
        rw [hj] at e1
        cases e1⟩
theorem z5e {H0 H : Hp} {l : Addr} (s : Same H0 H) (h : H l = none) : RowsB H0 (upd H l (.lst [])) l [] [] :=
  ⟨s.trans (Same.new h), s.free h, (fun _ hp => nomatch hp), ⟨upd_same, rfl, (fun _ _ _ e => nomatch e)⟩⟩
theorem Rect.ne {w h : Nat} {rows : List (List (Option Int))} (R : Rect w h rows) : 0 < rows.length := by have := R.len; have := R.h1; omega
theorem RowsAt.at {H : Hp} {l : Addr} {ps : List Addr} {rows : List (List (Option Int))} (a : RowsAt H l ps rows) {i : Nat} (hi : i < rows.length) : ∃ p, ps[i]? = some p /\ H p = some (.lst ((rows[i]'hi).map z0S)) := by
  have hl := a.len
  exact ⟨ps[i]'(by omega), List.getElem?_eq_getElem _, a.row i _ _ (List.getElem?_eq_getElem _) (List.getElem?_eq_getElem _)⟩
theorem RowsAt.atI {H : Hp} {l : Addr} {ps : List Addr} {rows : List (List (Option Int))} (a : RowsAt H l ps rows) {i : Nat} (hi : i < rows.length) : ∃ p, L2.atI (ps.map V.ref) (i : Int) = some (.ref p) /\ H p = some (.lst ((rows[i]'hi).map z0S)) := by
  obtain ⟨p, h1, h2⟩ := a.at hi
  exact ⟨p, z0d (by rw [List.getElem?_map, h1]; rfl), h2⟩
theorem Rect.row0 {w h : Nat} {rows : List (List (Option Int))} (R : Rect w h rows) {i : Nat} (hi : i < rows.length) : (rows[i]'hi).length = w /\ Cells (rows[i]'hi) := R.row _ (List.getElem_mem hi)
theorem zBR {w h : Nat} {rows : List (List (Option Int))} {x y : Int} (x0 : 0 <= x) (x1 : x < w) (y0 : 0 <= y) (y1 : y < h) (hy : y.toNat < rows.length) (hx : x.toNat < (rows[y.toNat]'hy).length) : look w h rows x y = (rows[y.toNat]'hy)[x.toNat]'hx := by
  unfold look
  have e1 : rows.getD y.toNat [] = rows[y.toNat]'hy := by rw [List.getD_eq_getElem?_getD, List.getElem?_eq_getElem hy]; rfl
  rw [if_pos ⟨x0, x1, y0, y1⟩, e1, List.getD_eq_getElem?_getD, List.getElem?_eq_getElem hx]
  rfl
end L2
namespace L2
open PySem PySem.Spec PyProof.Rows G
def inB (x : V) (a b : Int) : Bool := match x with
  | .int i => decide (a <= i) && decide (i <= b)
  | _ => false
def z3O : Sp := fun vs H Q _ => ∃ x T, vs = [x] /\ tyS H x = some T /\ Q (.bl (T == "int")) H
theorem z3P : ∀ T ∈ zAc, (if z79 T "int" = true then (!z79 T "bool") else false) = (T == "int") := by decide
theorem z5f {H : Hp} {x : V} {T : String} (h : tyS H x = some T) (n : ¬ ∃ i, x = V.int i) : (T == "int") = false := by
  cases x with
  | non => cases h; rfl
  | bl b => cases h; rfl
  | int i => exact absurd ⟨i, rfl⟩ n
  | str z => cases h; rfl
  | byt b => cases h
  | flt b => cases h
  | ty n => cases h
  | ref a =>
    simp only [tyS] at h
    split at h <;> first | (cases h; rfl) | cases h
def z35 : Sp := fun vs H Q _ => ∃ x a b T, vs = [x, .int a, .int b] /\ tyS H x = some T /\ Q (.bl (inB x a b)) H
def zAk : Sp := fun vs H Q _ => ∃ x T, vs = [x] /\ tyS H x = some T /\ Q (.bl (inB x 1 64)) H
end L2
namespace L2
open PySem PySem.Spec PyProof.Rows G
end L2
namespace L2
open PySem PySem.Spec PyProof.Rows G
set_option maxRecDepth 100000 in
theorem z2z : fillsNumberSlot (.type "tuple") "mul" = pure false :=
  PySem.fillsNumberSlot_seq (id := "tuple.__mul__") (r := some (.builtin "tuple.__rmul__")) F.slot_tuple_mul.lookup (by decide +kernel) F.slot_tuple_rmul.lookup (by decide +kernel)
set_option maxRecDepth 100000 in
theorem z4q : seqRepeat? (.type "tuple") = pure (some (.builtin "tuple.__mul__")) := by
  unfold seqRepeat?
  rw [PySem.seqSlot_of (T := "tuple") (name := "__mul__") (id := "tuple.__mul__") F.slot_tuple_mul.lookup (by decide +kernel), PySem.seqSlot_of (T := "tuple") (name := "__rmul__") (id := "tuple.__rmul__") F.slot_tuple_rmul.lookup (by decide +kernel)]
  rfl
theorem z3b (a : Int) (t : Tok) (l : Addr) (items : Array Value) (n : Nat) (dd : Option Addr) (sl : Array (Option Value)) :
    Meets (Builtin.«int.__rmul__» ⟨[.int a t, .ref l], []⟩) (fun _ R s => s.heap.get? l = some ⟨.type "tuple", dd, .seq items n, sl⟩ /\ R (.ok (.ret Value.notImplemented)) s) :=
  .of_wp fun prog w A R s h => by obtain ⟨hp, g, d, tk, os⟩ := s; obtain ⟨hl, h⟩ := h; wp_walk; exact ⟨_, rfl, h⟩
theorem z5g (l : Addr) (v : Value) (n : Nat) (u : Tok) (dd : Option Addr) (sl : Array (Option Value)) :
    Meets (Builtin.«tuple.__mul__» ⟨[.ref l, .int 1 u], []⟩) (fun _ R s => s.heap.get? l = some ⟨.type "tuple", dd, .seq #[v] n, sl⟩ /\ R (.ok (.ret (.ref l))) s) :=
  .of_wp fun prog w A R s h => by
    obtain ⟨hp, g, d, tk, os⟩ := s; obtain ⟨hl, h⟩ := h
    wp_walk; exact ⟨_, rfl, h⟩
theorem zC3 {α : Type} {M : Model} {A : Around} {E : Value -> Shared -> Prop} {s : Shared} {c : Prop} [Decidable c] {t f : Sem α} {Q : α -> Shared -> Prop} (n : ¬ c) (h : wpAny M A f Q E s) : wpAny M A (if c then t else f) Q E s := by
  rw [if_neg n]
  exact h
theorem z6X (v : Value) (k : Nat) : List.foldl (fun x1 x2 => x1 ++ x2) #[] (List.replicate k #[v]) = (List.replicate k v).toArray := by
  have := foldl_rep [v] k []
  rw [List.nil_append] at this
  refine Eq.trans this ?_
  congr 1
  induction k with
  | zero => rfl
  | succ k ih => rw [List.replicate_succ, List.flatten_cons, ih (foldl_rep [v] k []), List.replicate_succ]; rfl
theorem z5h (l : Addr) (v : Value) (n : Nat) (k : Int) (u : Tok) (dd : Option Addr) (sl : Array (Option Value)) (h2 : 2 <= k) (h3 : k <= 10000) :
    Meets (Builtin.«tuple.__mul__» ⟨[.ref l, .int k u], []⟩) (fun _ R s => s.heap.get? l = some ⟨.type "tuple", dd, .seq #[v] n, sl⟩ /\
      R (.ok (.ret (.ref s.heap.objs.size))) { s with heap := s.heap.push { cls := .type "tuple", data := .seq ((List.replicate k.toNat #[v]).foldl (· ++ ·) #[]) } }) :=
  .of_wp fun prog w A R s h => by
    obtain ⟨hp, g, d, tk, os⟩ := s; obtain ⟨hl, h⟩ := h
    have c1 : (decide (k < -2 ^ 63) || decide (k ≥ 2 ^ 63)) = false := by
      have : (10000 : Int) < 2 ^ 63 := by decide
      rw [decide_eq_false (by omega), decide_eq_false (by omega)]
      rfl
    have c2 : ((#[v] : Array Value).isEmpty || k == 1) = false := by
      have : (k == 1) = false := beq_false_of_ne (by omega)
      rw [this]
      rfl
    have c3 : (decide (k <= 0) || (#[v] : Array Value).isEmpty) = false := by
      rw [decide_eq_false (by omega)]
      rfl
    have c4 : ¬ (((#[v] : Array Value).size : Int) * k > (2 ^ 63 - 1) / 8) := by
      show ¬ ((1 : Int) * k > (2 ^ 63 - 1) / 8)
      omega
    have c5 : Builtin.Tuple.tupleTooMany (((#[v] : Array Value).size : Int) * k) = false := by
      show Builtin.Tuple.tupleTooMany ((1 : Int) * k) = false
      unfold Builtin.Tuple.tupleTooMany
      have z : (10000 : Int) <= (sizeLine : Int) := by decide
      exact decide_eq_false (by omega)
    wp_walk
    refine zC3 (by rw [c1]; exact Bool.false_ne_true) ?_
    wp_walk
    refine zC3 (by rw [c2]; exact Bool.false_ne_true) ?_
    refine zC3 (by rw [c3]; exact Bool.false_ne_true) ?_
    refine zC3 c4 ?_
    refine zC3 (by rw [c5]; exact Bool.false_ne_true) ?_
    wp_walk
    refine zC3 (by
      rw [z6X, List.size_toArray, List.length_replicate]
      have z : (10000 : Nat) <= sizeLine := by decide
      omega) ?_
    wp_walk
    exact ⟨_, rfl, h⟩
section
variable {X : Cx}
def zDD : R2 := fun x y H Q => ∃ a k v, x = .ref a /\ y = .int k /\ H a = some (.tup [v]) /\ 1 <= k /\ k <= 10000 /\ ∀ p H', Same H H' -> H' p = some (.tup (List.replicate k.toNat v)) -> Q (.ref p) H'
theorem z8R : OpR X (binaryOp .Mult) zDD := by
  intro pins s σ H x y v u Q I rx ry h
  obtain ⟨a, k, z, rfl, rfl, ha, k1, k2, q⟩ := h
  cases rx
  obtain ⟨t, rfl⟩ := ry
  obtain ⟨_, its, rv, o, ho, hc, n, hd⟩ := (show ObjOk X.prog X.w H s.heap a (.tup [z]) from I.hok a _ ha)
  obtain ⟨w', rfl, rz⟩ := Vals.one rv
  obtain ⟨oc, od, dt, sl⟩ := o
  cases (show oc = Value.type "tuple" from hc)
  cases (show dt = Data.seq _ n from hd)
  refine wpAny_binaryOp_repeat_ref (T := "tuple") (U := "int") (by decide) ⟨_, ho, rfl⟩ (fun s' => typeIs_int s' k t) z2z F.fills_int_mul F.slot_int_rmul z4q F.slot_int_index.lookup
    (call_meets F.slot_int_rmul (typeIs_int s k t) F.entry_int_rmul (F.args_int_rmul_2 _ _) (z3b k t a _ n _ _) ⟨ho, rfl, ⟨_, ho, rfl⟩, ?_⟩)
  by_cases e : k = 1
  . subst e
    exact call_meets F.slot_tuple_mul ⟨_, ho, rfl⟩ F.entry_tuple_mul (F.args_tuple_mul_2 _ _) (z5g a w' n t od sl) ⟨ho, ⟨.ref a, H, I, rfl, q a H (Same.refl _) ha⟩⟩
  . refine call_meets F.slot_tuple_mul ⟨_, ho, rfl⟩ F.entry_tuple_mul (F.args_tuple_mul_2 _ _) (z5h a w' n k t od sl (by omega) k2) ⟨ho, ?_⟩
    rw [z6X]
    have rr : Vals (List.replicate k.toNat z) (List.replicate k.toNat w') := by
      induction k.toNat with
      | zero => exact .nil
      | succ m ih => rw [List.replicate_succ, List.replicate_succ]; exact .cons rz ih
    have hz : (List.replicate k.toNat z).length <= sizeLine := by
      rw [List.length_replicate]
      exact Nat.le_of_lt (Nat.lt_of_le_of_lt (show k.toNat <= 10000 by omega) (by decide))
    exact ⟨.ref _, upd H s.heap.objs.size (.tup (List.replicate k.toNat z)), I.laid (t' := s.toks) (fun b u e => Heap.get?_push_of_some _ e) (Nat.le_refl _) ⟨hz, _, rr, ⟨_, Heap.get?_push_size _ rfl, rfl, _, rfl⟩⟩, rfl, q _ _ (Same.new I.fresh) upd_same⟩
end
structure FunD (K : PySem.W.Frag) (x qual : Str) (st : Stmt) (f : Addr) (fd : FuncData) (T : Addr) : Prop where
  ex : ∃ (oc : Value) (od : Option Addr) (kV doc pm : Value) (an : Option Addr) (cdv ct : Value) (osl : Array (Option Value)),
    fd = PySem.W.fnOf x qual (z0C st) (z0A st) (z02 st) (.ref T) kV doc pm an cdv ct /\ K.lookup f = some ⟨oc, od, .func fd, osl⟩ /\ PySem.W.codeIn K cdv qual = true
  kp : PySem.W.keepIn K (.ref f) = true
theorem FunD.ok {P : Program} {w : World} {K : PySem.W.Frag} {mg : Str -> Option Value} {base : Heap} {x qual : Str} {st : Stmt} {f T : Addr} {fd : FuncData} {N ps : List Str} {k : Nat} {sp : Sp} (F : FunD K x qual st f fd T) (S : FnScope N ps (z02 st)) (len : ∀ vs H Q E, sp vs H Q E -> vs.length = ps.length)
    (hbody : ∀ (cdv : Value) (A : Around) (outer : List Env) (s : Shared) (H : Hp) (vs : List V) (Q : VK) (E : XK), Room k (A.deeper (envOfC qual (z02 st) s.heap.objs.size f cdv)) -> sp vs H Q E ->
      ∃ t, PSs (z81 CX0 P w K mg base N qual (z02 st) f cdv A outer s H E).nox (z0A st) t /\ t { nx := fun _ H' => Q .non H', rt := Q } (start N vs) H) : FnOk P w K mg base CX0 (k + 1) f fd ps sp := by
  obtain ⟨oc, od, kV, doc, pm, an, cdv, ct, osl, rfl, lk, hcd⟩ := F.ex
  refine z9i lk hcd S len fun A outer s H vs Q E hr hsp => ?_
  obtain ⟨t, h, q⟩ := hbody cdv A outer s H vs Q E hr hsp
  exact ⟨t, h.nox, q⟩
structure Owd (P : Program) (w : World) (K : PySem.W.Frag) (mg : Str -> Option Value) (base : Heap) (x : Str) (ps : List Str) (dvs : List V) (k : Nat) (sp : Sp) : Prop where
  ex : ∃ (f : Addr) (fd : FuncData) (ds : List Value), mg x = some (.ref f) /\ PySem.W.keepIn K (.ref f) = true /\ Binds K fd ps ds /\ Vals dvs ds /\ FnOk P w K mg base CX0 k f fd ps sp
theorem z4I {X : Cx} {k j : Nat} {ps : List Str} {sp : Sp} {dvs : List V} {x : Str} {p pos : Pos} {e : Expr} {es : List Expr} {t : TA} (O : Owd X.prog X.w X.K X.mg X.base x ps dvs k sp) (hr : Room j X.A) (hg : Gl X x) (ha : PA X (e :: es) t) (hk : k <= j := by decide) (hdb : (x == ("__debug__" : Str)) = false := by decide)
    (he : starEach (e :: es) X.env = (false, eval e X.env) :: starEach es X.env := by rfl) (hpl : (backTo pos (starEach es X.env)).any (·.1) = false := by rfl) :
    PE X (.Call (.Name x p) (e :: es) [] pos) (z76 sp dvs E0 t) := by
  obtain ⟨f, fd, ds, m, kp, b, r, F⟩ := O.ex
  exact z4A F (hr.mono hk) hg m kp b r z9m ha hdb he hpl
section
variable {X : Cx} {sc : Scope} {cl : List (Str × Addr)} {C : Addr} {N : List Str} {fp : List Addr} {s2 : Shared} {H2 : Hp} {pn : List (Addr × Obj)} {tg l : Expr} {tl : TE}
end
structure DfD (K : PySem.W.Frag) (mg : Str -> Option Value) (x : Str) (st : Stmt) (ps : List Str) (f : Addr) (fd : FuncData) (T : Addr) : Prop where
  F : FunD K x x st f fd T
  b : Binds K fd ps []
  b1 : Binds K fd ps [.none]
  m : mg x = some (.ref f)
theorem DfD.ow {P : Program} {w : World} {K : PySem.W.Frag} {mg : Str -> Option Value} {base : Heap} {x : Str} {st : Stmt} {ps : List Str} {f T : Addr} {fd : FuncData} {k : Nat} {sp : Sp} (D : DfD K mg x st ps f fd T) (F : FnOk P w K mg base CX0 k f fd ps sp) :
    Ow P w K mg base x ps k sp := ⟨f, fd, D.m, D.F.kp, D.b, F⟩
theorem DfD.owd {P : Program} {w : World} {K : PySem.W.Frag} {mg : Str -> Option Value} {base : Heap} {x : Str} {st : Stmt} {ps : List Str} {f T : Addr} {fd : FuncData} {k : Nat} {sp : Sp} (D : DfD K mg x st ps f fd T) (F : FnOk P w K mg base CX0 k f fd ps sp) :
    Owd P w K mg base x ps [.non] k sp := ⟨f, fd, [.none], D.m, D.F.kp, D.b1, .cons rfl .nil, F⟩
theorem z5i {K : PySem.W.Frag} {x qual : Str} {st : Stmt} {f T : Addr} {oc : Value} {od an : Option Addr} {osl : Array (Option Value)} {kV doc pm cdv ct : Value} (l : K.lookup f = some ⟨oc, od, .func (PySem.W.fnOf x qual (z0C st) (z0A st) (z02 st) (.ref T) kV doc pm an cdv ct), osl⟩)
    (c : PySem.W.codeIn K cdv qual = true) (k : PySem.W.keepIn K (.ref f) = true) : FunD K x qual st f (PySem.W.fnOf x qual (z0C st) (z0A st) (z02 st) (.ref T) kV doc pm an cdv ct) T := ⟨⟨oc, od, kV, doc, pm, an, cdv, ct, osl, rfl, l, c⟩, k⟩
end L2
namespace L2
open PySem PySem.Spec PyProof.Rows G
end L2
namespace L2
open PySem PySem.Spec PyProof.Rows G
def z2T : Sp := fun vs H Q _ => ∃ (w h : Int) (c : Option Int), vs = [.int w, .int h, z0S c] /\ 1 <= w /\ w <= 64 /\ 1 <= h /\ h <= 64 /\ Cell c /\ ∀ p H', Same H H' -> PicAt H' p w.toNat (List.replicate h.toNat (List.replicate w.toNat c)) -> Q (.ref p) H'
theorem z4J {α : Type} (x : α) : ∀ k : Nat, (List.replicate k [x]).flatten = List.replicate k x
  | 0 => rfl
  | k + 1 => by rw [List.replicate_succ, List.flatten_cons, z4J x k, List.replicate_succ]; rfl
theorem z4r {c : Option Int} (h : Cell c) (k : Nat) : Cells (List.replicate k c) := fun d hd => by
  rw [List.eq_of_mem_replicate hd]
  exact h
end L2
namespace G
open PySem
def z3c : Nat -> Int -> Int -> Bool
  | 0, P, M => decide (P = 0) && decide (M = 0)
  | n + 1, P, M => (decide (M % 2 = 1) || decide (P % 16 = 0)) && z3c n (P / 16) (M / 2)
def roomI : Nat -> Int -> Int
  | 0, _ => 0
  | n + 1, M => (if M % 2 = 1 then 15 else 0) + 16 * roomI n (M / 2)
theorem z36 : ∀ (n : Nat) (M : Int), 0 <= roomI n M /\ roomI n M < 16 ^ n
  | 0, _ => ⟨Int.le_refl 0, (show (0 : Int) < 1 by decide)⟩
  | n + 1, M => by
    have ih := z36 n (M / 2)
    show 0 <= (if M % 2 = 1 then 15 else 0) + 16 * roomI n (M / 2) /\ (if M % 2 = 1 then 15 else 0) + 16 * roomI n (M / 2) < (16 : Int) ^ (n + 1)
    rw [z4G]
    split <;> omega
theorem z3q : ∀ (n : Nat) (M : Int), roomI (n + 1) M = roomI n M + (if M / 2 ^ n % 2 = 1 then 15 else 0) * 16 ^ n
  | 0, M => by
    show (if M % 2 = 1 then 15 else 0) + 16 * 0 = 0 + (if M / 1 % 2 = 1 then 15 else 0) * 1
    have : M / 1 = M := by omega
    rw [this]
    omega
  | n + 1, M => by
    have ih := z3q n (M / 2)
    have e : roomI (n + 1 + 1) M = (if M % 2 = 1 then 15 else 0) + 16 * roomI (n + 1) (M / 2) := rfl
    have e' : roomI (n + 1) M = (if M % 2 = 1 then 15 else 0) + 16 * roomI n (M / 2) := rfl
    have d : M / 2 / 2 ^ n = M / 2 ^ (n + 1) := by rw [Int.ediv_ediv_of_nonneg (by decide), z7k]
    rw [e, ih, e', d, z4G, Int.mul_add, <- Int.mul_assoc, <- Int.mul_assoc, Int.mul_comm 16 (if M / 2 ^ (n + 1) % 2 = 1 then 15 else 0)]
    omega
theorem zDE (P r R : Int) (hP : 0 <= P) (hR : 0 <= R) (hr : r = 0 \/ r = 15) : Builtin.bitAnd P (r + 16 * R) = (if r = 15 then P % 16 else 0) + 16 * Builtin.bitAnd (P / 16) R := by
  obtain ⟨p, rfl⟩ := Int.eq_ofNat_of_zero_le hP
  obtain ⟨q, rfl⟩ := Int.eq_ofNat_of_zero_le hR
  have e1 : ((p : Int) / 16).toNat = p / 16 := by omega
  rw [PyProof.Rows.bitAnd_pp (by omega) (by rcases hr with h | h <;> rw [h] <;> omega), PyProof.Rows.bitAnd_pp (by omega) (by omega), e1, Int.toNat_natCast, Int.toNat_natCast]
  have key : ∀ m : Nat, m < 16 -> ((p &&& (m + 16 * q) : Nat)) = ((p % 16 &&& m)) + 16 * (p / 16 &&& q) := fun m hm => by
    have a := Nat.and_mod_two_pow (a := p) (b := m + 16 * q) (n := 4)
    have b := Nat.and_div_two_pow (a := p) (b := m + 16 * q) (n := 4)
    have c1 : (m + 16 * q) % 2 ^ 4 = m := by show (m + 16 * q) % 16 = m; omega
    have c2 : (m + 16 * q) / 2 ^ 4 = q := by show (m + 16 * q) / 16 = q; omega
    rw [c1] at a
    rw [c2] at b
    have a' : (p &&& (m + 16 * q)) % 16 = p % 16 &&& m := a
    have b' : (p &&& (m + 16 * q)) / 16 = p / 16 &&& q := b
    omega
  rcases hr with h | h
  . subst h
    have t : ((0 : Int) + 16 * (q : Int)).toNat = 0 + 16 * q := by omega
    rw [t, key 0 (by decide), Nat.and_zero, if_neg (by decide)]
    omega
  . subst h
    have t : ((15 : Int) + 16 * (q : Int)).toNat = 15 + 16 * q := by omega
    have m15 : p % 16 &&& 15 = p % 16 := by
      have := Nat.and_two_pow_sub_one_eq_mod (p % 16) 4
      rw [show 2 ^ 4 - 1 = 15 from rfl] at this
      rw [this]
      show p % 16 % 16 = p % 16
      omega
    rw [t, key 15 (by decide), m15, if_pos rfl]
    omega
theorem z3r : ∀ (n : Nat) (P M : Int), 0 <= P -> 0 <= M -> z3c n P M = (decide (M / 2 ^ n = 0) && decide (Builtin.bitAnd P (Builtin.bitNot (roomI n M)) = 0))
  | 0, P, M, hP, hM => by
    show (decide (P = 0) && decide (M = 0)) = (decide (M / 1 = 0) && decide (Builtin.bitAnd P (Builtin.bitNot 0) = 0))
    rw [PyProof.Rows.bitAnd_not, PyProof.Rows.bitAnd_zero, Bool.and_comm]
    have e1 : M / 1 = M := by omega
    have e2 : P - 0 = P := by omega
    rw [e1, e2]
  | n + 1, P, M, hP, hM => by
    have ih := z3r n (P / 16) (M / 2) (by omega) (by omega)
    have hr := z36 n (M / 2)
    have h0 : (if M % 2 = 1 then (15 : Int) else 0) = 0 \/ (if M % 2 = 1 then (15 : Int) else 0) = 15 := by split <;> simp
    have a := zDE P (if M % 2 = 1 then 15 else 0) (roomI n (M / 2)) hP hr.1 h0
    have d : M / 2 / 2 ^ n = M / 2 ^ (n + 1) := by rw [Int.ediv_ediv_of_nonneg (by decide), z7k]
    have le : Builtin.bitAnd (P / 16) (roomI n (M / 2)) <= P / 16 := by
      rw [PyProof.Rows.bitAnd_pp (by omega) hr.1]
      have := Nat.and_le_left (n := (P / 16).toNat) (m := (roomI n (M / 2)).toNat)
      omega
    show ((decide (M % 2 = 1) || decide (P % 16 = 0)) && z3c n (P / 16) (M / 2)) = (decide (M / 2 ^ (n + 1) = 0) && decide (Builtin.bitAnd P (Builtin.bitNot ((if M % 2 = 1 then 15 else 0) + 16 * roomI n (M / 2))) = 0))
    rw [PyProof.Rows.bitAnd_not P, a, ih, d, PyProof.Rows.bitAnd_not (P / 16)]
    generalize Builtin.bitAnd (P / 16) (roomI n (M / 2)) = b at le
    by_cases hm : M % 2 = 1
    . rw [if_pos hm, if_pos rfl, decide_eq_true hm, Bool.true_or, Bool.true_and]
      congr 1
      exact decide_eq_decide.mpr ⟨fun h => by omega, fun h => by omega⟩
    . rw [if_neg hm, if_neg (by decide), decide_eq_false hm, Bool.false_or, <- Bool.and_assoc, Bool.and_comm (decide (P % 16 = 0)), Bool.and_assoc]
      congr 1
      rw [<- Bool.decide_and]
      exact decide_eq_decide.mpr ⟨fun ⟨h1, h2⟩ => by omega, fun h => by constructor <;> omega⟩
end G
namespace L2
open PySem PySem.Spec PyProof.Rows
def zDF (K : PySem.W.Frag) : R2 := fun x y H Q => ∃ a b xs ys, x = .ref a /\ y = .ref b /\ SqT K H a xs /\ SqT K H b ys /\ xs.length + ys.length <= sizeLine /\
  (xs = [] -> Q (.ref b) H) /\ (xs ≠ [] -> ys = [] -> Q (.ref a) H) /\ (xs ≠ [] -> ys ≠ [] -> ∀ p, H p = none -> Q (.ref p) (upd H p (.tup (xs ++ ys))))
section
variable {X : Cx}
theorem z8S : OpR X (binaryOp .Add) (zDF X.K) := by
  intro pins s σ H x y v u Q I rx ry h
  obtain ⟨a, b, xs, ys, rfl, rfl, ha, hb, hz, q0, q1, q2⟩ := h
  by_cases hx : xs = []
  . cases rx
    cases ry
    obtain ⟨its, r1, p1, _⟩ := I.tuple ha
    obtain ⟨its2, r2, p2, _⟩ := I.tuple hb
    obtain ⟨⟨cls, dd, data, sl⟩, ho, hc, n, hd⟩ := id p1
    obtain ⟨⟨cls2, dd2, data2, sl2⟩, ho2, hc2, n2, hd2⟩ := id p2
    simp only at hc hd hc2 hd2
    subst hc hd hc2 hd2
    have hv : its = [] := r1.nil_iff.mpr hx
    exact concat_meets ⟨_, ho, rfl⟩ ⟨_, ho2, rfl⟩ noFill_tuple_add seq_tuple_add PySem.F.slot_tuple_add PySem.F.entry_tuple_add (PySem.F.args_tuple_add_2 _ _)
      (tuple_addW0 a b its.toArray its2.toArray n n2 dd dd2 sl sl2 (by simp [hv])) ⟨ho, ho2, ⟨.ref b, H, I, rfl, q0 hx⟩⟩
  . exact zBG pins s σ H _ _ v u Q I rx ry ⟨a, b, xs, ys, rfl, rfl, ha, hb, hx, hz, q1 hx, q2 hx⟩
theorem z3Q : ∀ (ns ms : List Int), ((List.range (min ns.length ms.length)).all (fun j => ns.getD j 0 == ms.getD j 0) && ns.length == ms.length) = decide (ns = ms)
  | [], [] => rfl
  | [], m :: ms => rfl
  | n :: ns, [] => rfl
  | n :: ns, m :: ms => by
    have ih := z3Q ns ms
    have e : min (n :: ns).length (m :: ms).length = min ns.length ms.length + 1 := by rw [List.length_cons, List.length_cons]; omega
    rw [e, List.range_succ_eq_map, List.all_cons, List.all_map]
    have e2 : ((fun j => (n :: ns).getD j 0 == (m :: ms).getD j 0) ∘ Nat.succ) = fun j => ns.getD j 0 == ms.getD j 0 := rfl
    have e3 : ((n :: ns).length == (m :: ms).length) = (ns.length == ms.length) := by
      rw [List.length_cons, List.length_cons]
      by_cases hh : ns.length = ms.length
      . rw [hh]; simp
      . rw [beq_eq_false_iff_ne.mpr hh, beq_eq_false_iff_ne.mpr (by omega)]
    rw [e2, e3, Bool.and_assoc, ih]
    show ((n == m) && decide (ns = ms)) = decide (n :: ns = m :: ms)
    by_cases h1 : n = m
    . by_cases h2 : ns = ms
      . rw [h1, h2]; simp
      . rw [decide_eq_false h2, Bool.and_false, decide_eq_false (fun h => h2 (by injection h))]
    . rw [beq_eq_false_iff_ne.mpr h1, Bool.false_and, decide_eq_false (fun h => h1 (by injection h))]
theorem z4s {pins : List (Addr × Obj)} {σ : St} {H : Hp} {s : Shared} {A : Around} {a b : Addr} {ns ms : List Int} (hu : A.units < cLine) (I : Inv X pins σ H s) (ha : SqT X.K H a (ns.map V.int)) (hb : SqT X.K H b (ms.map V.int)) : SeqAt.EqAt A s (.ref a) (.ref b) (decide (ns = ms)) := by
  by_cases e : a = b
  . subst e
    have q := I.tuple_inj ha hb
    have q' : ns = ms := (List.map_inj_right (fun _ _ h => by injection h)).mp q
    rw [decide_eq_true q']
    exact SeqAt.EqAt.same _
  . obtain ⟨its, r1, p1, _⟩ := I.tuple ha
    obtain ⟨its2, r2, p2, _⟩ := I.tuple hb
    have l1 := r1.length
    have l2 := r2.length
    rw [List.length_map] at l1 l2
    refine SeqAt.EqAt.of_refs e ?_
    have q := SeqAt.RcAt.tuples (A := A) (s := s) (e := fun j => ns.getD j 0 == ms.getD j 0) p1 p2 hu fun j h1 h2 => ?_
    . rw [List.size_toArray, List.size_toArray, <- l1, <- l2, z3Q] at q
      exact q
    . rw [List.size_toArray] at h1 h2
      have g1 : (ns.map V.int)[j]? = some (.int (ns.getD j 0)) := by
        rw [List.getElem?_map, List.getD_eq_getElem?_getD, List.getElem?_eq_getElem (by omega)]; rfl
      have g2 : (ms.map V.int)[j]? = some (.int (ms.getD j 0)) := by
        rw [List.getElem?_map, List.getD_eq_getElem?_getD, List.getElem?_eq_getElem (by omega)]; rfl
      obtain ⟨u1, e1, t1, rfl⟩ := Vals.get r1 g1
      obtain ⟨u2, e2, t2, rfl⟩ := Vals.get r2 g2
      have f1 : its.toArray[j] = Value.int (ns.getD j 0) t1 := by
        rw [List.getElem?_eq_getElem h1] at e1
        simpa using Option.some.inj e1
      have f2 : its2.toArray[j] = Value.int (ms.getD j 0) t2 := by
        rw [List.getElem?_eq_getElem h2] at e2
        simpa using Option.some.inj e2
      rw [f1, f2]
      exact SeqAt.EqAt.int_int _ _ _ _
def zE5 (K : PySem.W.Frag) : R2 := fun x y H Q => ∃ (a b pa pb qa qb : Addr) (w h w' h' : Int) (ns ms ns' ms' : List Int), x = .ref a /\ y = .ref b /\ SqT K H a [.int w, .int h, .ref pa, .ref pb] /\ SqT K H b [.int w', .int h', .ref qa, .ref qb] /\
  SqT K H pa (ns.map V.int) /\ SqT K H pb (ms.map V.int) /\ SqT K H qa (ns'.map V.int) /\ SqT K H qb (ms'.map V.int) /\ Q (.bl ((w == w') && ((h == h') && (decide (ns = ns') && decide (ms = ms'))))) H
theorem zCQ (hu : X.A.units + 1 < cLine) : OpR X (compareOp .Eq) (zE5 X.K) := by
  intro pins s σ H x y v u Q I rx ry h0
  obtain ⟨a, b, pa, pb, qa, qb, w, h, w', h', ns, ms, ns', ms', rfl, rfl, ha, hb, h1, h2, h3, h4, q⟩ := h0
  cases rx
  cases ry
  obtain ⟨its, r1, p1, _⟩ := I.tuple ha
  obtain ⟨its2, r2, p2, _⟩ := I.tuple hb
  cases r1 with
  | @cons _ u1 _ _ x1 r1 => cases r1 with
    | @cons _ u2 _ _ x2 r1 => cases r1 with
      | @cons _ u3 _ _ x3 r1 => cases r1 with
        | @cons _ u4 _ _ x4 r1 =>
          cases r1
          cases r2 with
          | @cons _ v1 _ _ y1 r2 => cases r2 with
            | @cons _ v2 _ _ y2 r2 => cases r2 with
              | @cons _ v3 _ _ y3 r2 => cases r2 with
                | @cons _ v4 _ _ y4 r2 =>
                  cases r2
                  obtain ⟨t1, rfl⟩ := x1
                  obtain ⟨t2, rfl⟩ := x2
                  obtain ⟨t3, rfl⟩ := y1
                  obtain ⟨t4, rfl⟩ := y2
                  cases (show u3 = Value.ref pa from x3)
                  cases (show u4 = Value.ref pb from x4)
                  cases (show v3 = Value.ref qa from y3)
                  cases (show v4 = Value.ref qb from y4)
                  have d1 := z4s (A := X.A.in1) hu I h1 h3
                  have d2 := z4s (A := X.A.in1) hu I h2 h4
                  refine SeqAt.eq_tupleAt (e := fun j => match j with | 0 => w == w' | 1 => h == h' | 2 => decide (ns = ns') | _ => decide (ms = ms')) p1 p2 (by omega) (fun j j1 j2 => ?_) ⟨.bl _, H, I, rfl, ?_⟩
                  . have c4 : j < 4 := j1
                    match j, c4 with
                    | 0, _ => exact SeqAt.EqAt.int_int _ _ _ _
                    | 1, _ => exact SeqAt.EqAt.int_int _ _ _ _
                    | 2, _ => exact d1
                    | 3, _ => exact d2
                  . have e : ((List.range (min 4 4)).all (fun j => match j with | 0 => w == w' | 1 => h == h' | 2 => decide (ns = ns') | _ => decide (ms = ms')) && ((4 : Nat) == 4)) = ((w == w') && ((h == h') && (decide (ns = ns') && decide (ms = ms')))) := by
                      show (((w == w') && ((h == h') && (decide (ns = ns') && (decide (ms = ms') && true)))) && true) = _
                      rw [Bool.and_true, Bool.and_true]
                    show Q (.bl ((List.range (min 4 4)).all (fun j => match j with | 0 => w == w' | 1 => h == h' | 2 => decide (ns = ns') | _ => decide (ms = ms')) && ((4 : Nat) == 4))) H
                    rw [e]
                    exact q
def zDG (i j : Int) : Prop := i.natAbs < 2 ^ 1000 /\ j.natAbs < 2 ^ 1000
theorem z5j {x : Int} {n : Nat} (h : x.natAbs < 2 ^ n) : Builtin.Int.intBits x <= n := by
  unfold Builtin.Int.intBits
  split
  . exact Nat.zero_le _
  . rename_i h0
    have hx : x.natAbs ≠ 0 := fun e => h0 (by rw [Int.natAbs_eq_zero.mp e]; rfl)
    exact (Nat.log2_lt hx).mpr h
theorem zBS : OpR X (binaryOp .Mult) (rI zDG fun i j => .int (i * j)) := opI fun _ _ _ _ _ _ _ hc q => mul_int q (IntMulOk.of_bits (Nat.le_trans (z5j hc.1) (by decide)) (Nat.le_trans (z5j hc.2) (by decide)))
end
def z8T : Sp := fun vs H Q _ => ∃ w m : Int, vs = [.int w, .int m] /\ 0 <= w /\ w <= 64 /\ 0 <= m /\ Q (.int (G.roomI w.toNat m)) H
end L2
namespace G
def tk : Nat -> List (Option Int) -> List (Option Int)
  | 0, _ => []
  | w + 1, [] => none :: tk w []
  | w + 1, c :: r => c :: tk w r
theorem z8U : ∀ (w : Nat) (r : List (Option Int)), (tk w r).length = w
  | 0, _ => rfl
  | w + 1, [] => by show (tk w []).length + 1 = w + 1; rw [z8U w]
  | w + 1, c :: r => by show (tk w r).length + 1 = w + 1; rw [z8U w]
theorem z8V : ∀ (w : Nat) (r : List (Option Int)) (i : Nat), i < w -> (tk w r)[i]? = some ((r[i]?).join)
  | 0, _, i, h => absurd h (Nat.not_lt_zero i)
  | w + 1, [], 0, _ => rfl
  | w + 1, [], i + 1, h => by
    show (tk w [])[i]? = _
    rw [z8V w [] i (by omega)]
    rfl
  | w + 1, c :: r, 0, _ => rfl
  | w + 1, c :: r, i + 1, h => by
    show (tk w r)[i]? = _
    rw [z8V w r i (by omega)]
    rfl
theorem z4t {b c p m : Int} (hb : 0 < b) (hm : 0 < m) (c0 : 0 <= c) (c1 : c < b) : (c + b * p) % (b * m) = c + b * (p % m) := by
  have e : p = p % m + m * (p / m) := (Int.emod_add_mul_ediv p m).symm
  have q0 := Int.emod_nonneg p (show m ≠ 0 by omega)
  have q1 := Int.emod_lt_of_pos p hm
  have e1 : c + b * p = (c + b * (p % m)) + b * m * (p / m) := by
    rw [Int.mul_assoc, Int.add_assoc, <- Int.mul_add, <- e]
  rw [e1, Int.add_mul_emod_self_left]
  have h0 : 0 <= b * (p % m) := Int.mul_nonneg (by omega) q0
  refine Int.emod_eq_of_lt (by omega) ?_
  have h1 : b * (p % m + 1) <= b * m := Int.mul_le_mul_of_nonneg_left (by omega) (by omega)
  rw [Int.mul_add] at h1
  omega
theorem z4K : ∀ (w : Nat) {r : List (Option Int)}, Cells r -> z06 (tk w r) = z06 r % 16 ^ w
  | 0, r, _ => by
    show (0 : Int) = z06 r % 1
    omega
  | w + 1, [], h => by
    have ih := z4K w h
    show (0 : Int) + 16 * z06 (tk w []) = 0 % 16 ^ (w + 1)
    rw [ih]
    show (0 : Int) + 16 * (0 % 16 ^ w) = _
    rw [Int.zero_emod, Int.zero_emod]
    rfl
  | w + 1, c :: r, h => by
    have ih := z4K w h.tail
    have hc := (h c List.mem_cons_self).get
    show c.getD 0 + 16 * z06 (tk w r) = (c.getD 0 + 16 * z06 r) % 16 ^ (w + 1)
    rw [ih, z4G, z4t (by decide) (z4o w) hc.1 (by omega)]
theorem z5k : ∀ (w : Nat) (r : List (Option Int)), z0E (tk w r) = z0E r % 2 ^ w
  | 0, r => by
    show (0 : Int) = z0E r % 1
    omega
  | w + 1, [] => by
    have ih := z5k w []
    show (if (none : Option Int).isSome = true then (1 : Int) else 0) + 2 * z0E (tk w []) = 0 % 2 ^ (w + 1)
    rw [ih, if_neg (by simp)]
    show (0 : Int) + 2 * (0 % 2 ^ w) = _
    rw [Int.zero_emod, Int.zero_emod]
    rfl
  | w + 1, c :: r => by
    have ih := z5k w r
    show (if c.isSome = true then (1 : Int) else 0) + 2 * z0E (tk w r) = ((if c.isSome = true then 1 else 0) + 2 * z0E r) % 2 ^ (w + 1)
    rw [ih, z7k, z4t (by decide) (z2S w) (by split <;> decide) (by split <;> decide)]
theorem z3s : ∀ (x : Nat) {r : List (Option Int)}, Cells r -> z06 (r.drop x) = z06 r / 16 ^ x
  | 0, r, _ => by
    show z06 r = z06 r / 1
    omega
  | x + 1, [], _ => by
    show (0 : Int) = 0 / 16 ^ (x + 1)
    rw [Int.zero_ediv]
  | x + 1, c :: r, h => by
    have ih := z3s x h.tail
    have hc := (h c List.mem_cons_self).get
    show z06 (r.drop x) = (c.getD 0 + 16 * z06 r) / 16 ^ (x + 1)
    rw [z4G, <- Int.ediv_ediv_of_nonneg (by decide), ih]
    congr 1
    omega
theorem z4u : ∀ (x : Nat) (r : List (Option Int)), z0E (r.drop x) = z0E r / 2 ^ x
  | 0, r => by
    show z0E r = z0E r / 1
    omega
  | x + 1, [] => by
    show (0 : Int) = 0 / 2 ^ (x + 1)
    rw [Int.zero_ediv]
  | x + 1, c :: r => by
    have ih := z4u x r
    show z0E (r.drop x) = ((if c.isSome = true then 1 else 0) + 2 * z0E r) / 2 ^ (x + 1)
    rw [z7k, <- Int.ediv_ediv_of_nonneg (by decide), ih]
    congr 1
    split <;> omega
theorem z4v (r : List (Option Int)) : ∀ k : Nat, z06 (List.replicate k none ++ r) = z06 r * 16 ^ k
  | 0 => by
    show z06 r = z06 r * 1
    omega
  | k + 1 => by
    have ih := z4v r k
    show (0 : Int) + 16 * z06 (List.replicate k none ++ r) = _
    rw [ih, z4G, <- Int.mul_assoc, <- Int.mul_assoc, Int.mul_comm (z06 r) 16]
    omega
theorem z6Y (r : List (Option Int)) : ∀ k : Nat, z0E (List.replicate k none ++ r) = z0E r * 2 ^ k
  | 0 => by
    show z0E r = z0E r * 1
    omega
  | k + 1 => by
    have ih := z6Y r k
    show (if (none : Option Int).isSome = true then (1 : Int) else 0) + 2 * z0E (List.replicate k none ++ r) = _
    rw [ih, z7k, <- Int.mul_assoc, <- Int.mul_assoc, Int.mul_comm (z0E r) 2, if_neg (by simp)]
    omega
def z2U (x : Int) (r : List (Option Int)) : List (Option Int) := if 0 <= x then r.drop x.toNat else List.replicate (-x).toNat none ++ r
def zAl (b at' many : Int) : Int := (if 0 <= at' then b / 2 ^ at'.toNat else b * 2 ^ (-at').toNat) % 2 ^ many.toNat
theorem z5l {x : Int} {r : List (Option Int)} (h : Cells r) : Cells (z2U x r) := by
  unfold z2U
  split
  . exact fun c hc => h c (List.mem_of_mem_drop hc)
  . intro c hc
    rcases List.mem_append.mp hc with e | e
    . rw [List.eq_of_mem_replicate e]; exact fun z q => nomatch q
    . exact h c e
theorem z8W {r : List (Option Int)} (h : Cells r) (x : Int) (w : Nat) : zAl (z06 r) (4 * x) (4 * (w : Int)) = z06 (tk w (z2U x r)) := by
  rw [z4K w (z5l h)]
  unfold zAl z2U
  have e : (4 * (w : Int)).toNat = 4 * w := by omega
  rw [e, zAf]
  by_cases hx : 0 <= x
  . have e2 : (4 * x).toNat = 4 * x.toNat := by omega
    rw [if_pos (by omega), if_pos hx, z3s _ h, e2, zAf]
  . have e2 : (-(4 * x)).toNat = 4 * (-x).toNat := by omega
    rw [if_neg (by omega), if_neg hx, z4v, e2, zAf]
theorem z9s (r : List (Option Int)) (x : Int) (w : Nat) : zAl (z0E r) x (w : Int) = z0E (tk w (z2U x r)) := by
  rw [z5k]
  unfold zAl z2U
  have e : ((w : Int)).toNat = w := by omega
  rw [e]
  by_cases hx : 0 <= x
  . rw [if_pos hx, if_pos hx, z4u]
  . rw [if_neg hx, if_neg hx, z6Y]
def atR (r : List (Option Int)) (x : Int) : Option Int := if 0 <= x then (r[x.toNat]?).join else none
theorem z8X (r : List (Option Int)) (x : Int) (i : Nat) : ((z2U x r)[i]?).join = atR r (x + i) := by
  unfold z2U atR
  by_cases hx : 0 <= x
  . have e : x.toNat + i = (x + (i : Int)).toNat := by omega
    rw [if_pos hx, if_pos (by omega), List.getElem?_drop, e]
  . rw [if_neg hx]
    by_cases hi : 0 <= x + (i : Int)
    . have e : i - (-x).toNat = (x + (i : Int)).toNat := by omega
      rw [if_pos hi, List.getElem?_append_right (by rw [List.length_replicate]; omega), List.length_replicate, e]
    . rw [if_neg hi, List.getElem?_append_left (by rw [List.length_replicate]; omega), List.getElem?_replicate, if_pos (by omega)]
      rfl
theorem z8Y (r : List (Option Int)) (x : Int) (w : Nat) : tk w (z2U x r) = (List.range w).map fun (i : Nat) => atR r (x + (i : Int)) := by
  refine List.ext_getElem? fun i => ?_
  by_cases hi : i < w
  . rw [z8V w _ i hi, z8X, List.getElem?_map, List.getElem?_range hi]
    rfl
  . rw [List.getElem?_eq_none (by rw [z8U]; omega), List.getElem?_eq_none (by rw [List.length_map, List.length_range]; omega)]
end G
namespace G
open PySem
theorem zAm (k a A d D : Nat) (ha : a < 2 ^ k) (hd : d < 2 ^ k) : (a + 2 ^ k * A) &&& (d + 2 ^ k * D) = (a &&& d) + 2 ^ k * (A &&& D) := by
  have m1 : (a + 2 ^ k * A) % 2 ^ k = a := by rw [Nat.add_mul_mod_self_left, Nat.mod_eq_of_lt ha]
  have m2 : (d + 2 ^ k * D) % 2 ^ k = d := by rw [Nat.add_mul_mod_self_left, Nat.mod_eq_of_lt hd]
  have p : 0 < 2 ^ k := Nat.pow_pos (by decide)
  have d1 : (a + 2 ^ k * A) / 2 ^ k = A := by rw [Nat.add_mul_div_left _ _ p, Nat.div_eq_of_lt ha, Nat.zero_add]
  have d2 : (d + 2 ^ k * D) / 2 ^ k = D := by rw [Nat.add_mul_div_left _ _ p, Nat.div_eq_of_lt hd, Nat.zero_add]
  have e := Nat.mod_add_div ((a + 2 ^ k * A) &&& (d + 2 ^ k * D)) (2 ^ k)
  rw [Nat.and_mod_two_pow, Nat.and_div_two_pow, m1, m2, d1, d2] at e
  exact e.symm
theorem z5m {a A d D : Int} (a0 : 0 <= a) (a1 : a < 16) (d0 : 0 <= d) (d1 : d < 16) (hA : 0 <= A) (hD : 0 <= D) : Builtin.bitAnd (a + 16 * A) (d + 16 * D) = Builtin.bitAnd a d + 16 * Builtin.bitAnd A D := by
  obtain ⟨a, rfl⟩ := Int.eq_ofNat_of_zero_le a0
  obtain ⟨d, rfl⟩ := Int.eq_ofNat_of_zero_le d0
  obtain ⟨A, rfl⟩ := Int.eq_ofNat_of_zero_le hA
  obtain ⟨D, rfl⟩ := Int.eq_ofNat_of_zero_le hD
  have t1 : ((a : Int) + 16 * (A : Int)).toNat = a + 2 ^ 4 * A := by show _ = a + 16 * A; omega
  have t2 : ((d : Int) + 16 * (D : Int)).toNat = d + 2 ^ 4 * D := by show _ = d + 16 * D; omega
  rw [PyProof.Rows.bitAnd_pp (by omega) (by omega), PyProof.Rows.bitAnd_pp a0 d0, PyProof.Rows.bitAnd_pp hA hD, t1, t2, Int.toNat_natCast, Int.toNat_natCast, Int.toNat_natCast, Int.toNat_natCast, zAm 4 a A d D (by show a < 16; omega) (by show d < 16; omega)]
  show (((a &&& d) + 16 * (A &&& D) : Nat) : Int) = _
  omega
theorem zCR {a A d D : Int} (a0 : 0 <= a) (a1 : a < 2) (d0 : 0 <= d) (d1 : d < 2) (hA : 0 <= A) (hD : 0 <= D) : Builtin.bitAnd (a + 2 * A) (d + 2 * D) = Builtin.bitAnd a d + 2 * Builtin.bitAnd A D := by
  obtain ⟨a, rfl⟩ := Int.eq_ofNat_of_zero_le a0
  obtain ⟨d, rfl⟩ := Int.eq_ofNat_of_zero_le d0
  obtain ⟨A, rfl⟩ := Int.eq_ofNat_of_zero_le hA
  obtain ⟨D, rfl⟩ := Int.eq_ofNat_of_zero_le hD
  have t1 : ((a : Int) + 2 * (A : Int)).toNat = a + 2 ^ 1 * A := by show _ = a + 2 * A; omega
  have t2 : ((d : Int) + 2 * (D : Int)).toNat = d + 2 ^ 1 * D := by show _ = d + 2 * D; omega
  rw [PyProof.Rows.bitAnd_pp (by omega) (by omega), PyProof.Rows.bitAnd_pp a0 d0, PyProof.Rows.bitAnd_pp hA hD, t1, t2, Int.toNat_natCast, Int.toNat_natCast, Int.toNat_natCast, Int.toNat_natCast, zAm 1 a A d D (by show a < 2; omega) (by show d < 2; omega)]
  show (((a &&& d) + 2 * (A &&& D) : Nat) : Int) = _
  omega
theorem zAn {a A d D : Int} (a0 : 0 <= a) (a1 : a < 16) (d0 : 0 <= d) (d1 : d < 16) (hA : 0 <= A) (hD : 0 <= D) : Builtin.bitOr (a + 16 * A) (d + 16 * D) = Builtin.bitOr a d + 16 * Builtin.bitOr A D := by
  rw [PyProof.Rows.bitOr_and, z5m a0 a1 d0 d1 hA hD, PyProof.Rows.bitOr_and a d, PyProof.Rows.bitOr_and A D]
  omega
theorem zDH {a A d D : Int} (a0 : 0 <= a) (a1 : a < 2) (d0 : 0 <= d) (d1 : d < 2) (hA : 0 <= A) (hD : 0 <= D) : Builtin.bitOr (a + 2 * A) (d + 2 * D) = Builtin.bitOr a d + 2 * Builtin.bitOr A D := by
  rw [PyProof.Rows.bitOr_and, zCR a0 a1 d0 d1 hA hD, PyProof.Rows.bitOr_and a d, PyProof.Rows.bitOr_and A D]
  omega
theorem zCS (a : Int) : Builtin.bitOr a 0 = a := by rw [PyProof.Rows.bitOr_and, PyProof.Rows.bitAnd_zero]; omega
theorem zDh (a : Int) : Builtin.bitOr 0 a = a := by rw [PyProof.Rows.bitOr_comm, zCS]
def layR : List (Option Int) -> List (Option Int) -> List (Option Int)
  | u :: us, c :: cs => c.or u :: layR us cs
  | _, _ => []
theorem z8Z : ∀ (us cs : List (Option Int)), us.length = cs.length -> (layR us cs).length = us.length
  | [], [], _ => rfl
  | u :: us, c :: cs, h => by
    show (layR us cs).length + 1 = us.length + 1
    rw [z8Z us cs (by simpa using h)]
  | [], _ :: _, h => by cases h
  | _ :: _, [], h => by cases h
theorem z8a : ∀ (us cs : List (Option Int)) (i : Nat), us.length = cs.length -> i < us.length -> (layR us cs)[i]? = some (((cs[i]?).join).or ((us[i]?).join))
  | u :: us, c :: cs, 0, _, _ => rfl
  | u :: us, c :: cs, i + 1, h, hi => by
    show (layR us cs)[i]? = _
    rw [z8a us cs i (by simpa using h) (by simpa using hi)]
    rfl
  | [], _, _, _, hi => by cases hi
  | _ :: _, [], _, h, _ => by cases h
theorem z6Z : ∀ (us cs : List (Option Int)), us.length = cs.length -> Builtin.bitOr (z0E us) (z0E cs) = z0E (layR us cs)
  | [], [], _ => by show Builtin.bitOr 0 0 = 0; rw [zCS]
  | [], _ :: _, h => by cases h
  | _ :: _, [], h => by cases h
  | u :: us, c :: cs, h => by
    have ih := z6Z us cs (by simpa using h)
    have h1 := z21 us
    have h2 := z21 cs
    show Builtin.bitOr ((if u.isSome = true then 1 else 0) + 2 * z0E us) ((if c.isSome = true then 1 else 0) + 2 * z0E cs) = (if (c.or u).isSome = true then 1 else 0) + 2 * z0E (layR us cs)
    rw [zDH (by split <;> decide) (by split <;> decide) (by split <;> decide) (by split <;> decide) h1.1 h2.1, ih]
    congr 1
    cases u with
    | none =>
      show Builtin.bitOr 0 (if c.isSome = true then 1 else 0) = _
      rw [zDh]
      cases c <;> rfl
    | some a =>
      cases c with
      | none =>
        show Builtin.bitOr 1 0 = 1
        rw [zCS]
      | some b =>
        show Builtin.bitOr 1 1 = 1
        rw [PyProof.Rows.bitOr_and, PyProof.Rows.bitAnd_self]
        rfl
theorem z4w : ∀ (us cs : List (Option Int)), us.length = cs.length -> Cells us -> Cells cs ->
    Builtin.bitOr (Builtin.bitAnd (z06 us) (Builtin.bitNot (roomI us.length (z0E cs)))) (z06 cs) = z06 (layR us cs)
  | [], [], _, _, _ => by
    show Builtin.bitOr (Builtin.bitAnd 0 (Builtin.bitNot 0)) 0 = 0
    rw [zCS, PyProof.Rows.bitAnd_not, PyProof.Rows.bitAnd_zero]
    rfl
  | [], _ :: _, h, _, _ => by cases h
  | _ :: _, [], h, _, _ => by cases h
  | u :: us, c :: cs, h, hu, hc => by
    have ih := z4w us cs (by simpa using h) hu.tail hc.tail
    have p1 := z27 hu.tail
    have p2 := z27 hc.tail
    have c1 := (hu u List.mem_cons_self).get
    have c2 := (hc c List.mem_cons_self).get
    have m := z21 cs
    have er : roomI (us.length + 1) (z0E (c :: cs)) = (if c.isSome = true then 15 else 0) + 16 * roomI us.length (z0E cs) := by
      show (if ((if c.isSome = true then 1 else 0) + 2 * z0E cs) % 2 = 1 then (15 : Int) else 0) + 16 * roomI us.length (((if c.isSome = true then 1 else 0) + 2 * z0E cs) / 2) = _
      have e2 : ((if c.isSome = true then 1 else 0) + 2 * z0E cs) / 2 = z0E cs := by split <;> omega
      rw [e2]
      congr 1
      cases c with
      | none => rw [if_neg (by simp), if_neg (by simp)]
      | some z => rw [if_pos (by rw [if_pos (show (some z).isSome = true from rfl)]; omega), if_pos (show (some z).isSome = true from rfl)]
    have rr := z36 us.length (z0E cs)
    rw [PyProof.Rows.bitAnd_not] at ih
    have le : Builtin.bitAnd (z06 us) (roomI us.length (z0E cs)) <= z06 us := by
      rw [PyProof.Rows.bitAnd_pp p1.1 rr.1]
      have := Nat.and_le_left (n := (z06 us).toNat) (m := (roomI us.length (z0E cs)).toNat)
      omega
    show Builtin.bitOr (Builtin.bitAnd (u.getD 0 + 16 * z06 us) (Builtin.bitNot (roomI (us.length + 1) (z0E (c :: cs))))) (c.getD 0 + 16 * z06 cs) = (c.or u).getD 0 + 16 * z06 (layR us cs)
    rw [er, PyProof.Rows.bitAnd_not, <- ih]
    cases c with
    | none =>
      rw [if_neg (by simp), z5m c1.1 (by omega) (by decide) (by decide) p1.1 rr.1, PyProof.Rows.bitAnd_zero]
      have e : u.getD 0 + 16 * z06 us - (0 + 16 * Builtin.bitAnd (z06 us) (roomI us.length (z0E cs))) = u.getD 0 + 16 * (z06 us - Builtin.bitAnd (z06 us) (roomI us.length (z0E cs))) := by omega
      rw [e]
      show Builtin.bitOr _ (0 + 16 * z06 cs) = u.getD 0 + _
      rw [zAn c1.1 (by omega) (by decide) (by decide) (by omega) p2.1, zCS]
    | some z =>
      have z0 : (0 : Int) <= z /\ z <= 15 := c2
      rw [if_pos (show (some z).isSome = true from rfl), z5m c1.1 (by omega) (by decide) (by decide) p1.1 rr.1, PyProof.Rows.bitAnd_m4]
      have e : u.getD 0 + 16 * z06 us - (u.getD 0 % 16 + 16 * Builtin.bitAnd (z06 us) (roomI us.length (z0E cs))) = 0 + 16 * (z06 us - Builtin.bitAnd (z06 us) (roomI us.length (z0E cs))) := by omega
      rw [e]
      show Builtin.bitOr _ (z + 16 * z06 cs) = z + _
      rw [zAn (by decide) (by decide) z0.1 (by omega) (by omega) p2.1, zDh]
def isP (r : List (Option Int)) (i : Nat) : Prop := ((r[i]?).join).isSome = true
end G
namespace G
theorem zCT {r : List (Option Int)} {i : Nat} (h : isP r i) : i < r.length := by
  unfold isP at h
  cases hi : r[i]? with
  | none => rw [hi] at h; cases h
  | some c => exact (List.getElem?_eq_some_iff.mp hi).1
end G
namespace L2
open G
abbrev Rws := List (List (Option Int))
def z2V (rows : Rws) (x y : Nat) : Option Int := (((rows[y]?).getD [])[x]?).join
def z1M (w h : Nat) (f : Nat -> Nat -> Option Int) : Rws := (List.range h).map fun y => (List.range w).map fun x => f x y
theorem z6a (w h : Nat) (f : Nat -> Nat -> Option Int) : (z1M w h f).length = h := by unfold z1M; rw [List.length_map, List.length_range]
theorem z6b {w h : Nat} {f : Nat -> Nat -> Option Int} {y : Nat} (hy : y < h) : (z1M w h f)[y]? = some ((List.range w).map fun x => f x y) := by
  unfold z1M
  rw [List.getElem?_map, List.getElem?_range hy]
  rfl
theorem z4x {w h : Nat} {f : Nat -> Nat -> Option Int} {x y : Nat} (hx : x < w) (hy : y < h) : z2V (z1M w h f) x y = f x y := by
  unfold z2V
  rw [z6b hy]
  show (((List.range w).map fun x => f x y)[x]?).join = _
  rw [List.getElem?_map, List.getElem?_range hx]
  rfl
theorem z2h {w h : Nat} {f g : Nat -> Nat -> Option Int} (e : ∀ x y, x < w -> y < h -> f x y = g x y) : z1M w h f = z1M w h g := by
  unfold z1M
  refine List.map_congr_left fun y hy => List.map_congr_left fun x hx => e x y (List.mem_range.mp hx) (List.mem_range.mp hy)
theorem Rect.cell {w h : Nat} {rows : Rws} (R : Rect w h rows) (x y : Nat) : Cell (z2V rows x y) := by
  unfold z2V
  cases hy : rows[y]? with
  | none => exact fun z e => nomatch e
  | some r =>
    show Cell ((r[x]?).join)
    cases hx : r[x]? with
    | none => exact fun z e => nomatch e
    | some c => exact (R.row r (List.mem_of_getElem? hy)).2 c (List.mem_of_getElem? hx)
theorem z23 {w h : Nat} {f : Nat -> Nat -> Option Int} (h1 : 1 <= h) (h2 : h <= 64) (w1 : 1 <= w) (w2 : w <= 64) (hc : ∀ x y, Cell (f x y)) : Rect w h (z1M w h f) :=
  ⟨z6a w h f, h1, h2, w1, w2, fun r hr => by
    unfold z1M at hr
    obtain ⟨y, _, rfl⟩ := List.mem_map.mp hr
    refine ⟨by rw [List.length_map, List.length_range], fun c hc' => ?_⟩
    obtain ⟨x, _, rfl⟩ := List.mem_map.mp hc'
    exact hc x y⟩
def zE6 (w h : Nat) (rows : Rws) : Rws := z1M w h fun x y => z2V rows x (h - 1 - y)
theorem Rect.upd {w h : Nat} {rows : Rws} (R : Rect w h rows) : Rect w h (zE6 w h rows) := z23 R.h1 R.h2 R.w1 R.w2 fun _ _ => R.cell _ _
theorem z8b (w y : Nat) (f : Nat -> Nat -> Option Int) : z1M w (y + 1) f = z1M w y f ++ [(List.range w).map fun x => f x y] := by
  unfold z1M
  rw [List.range_succ, List.map_append]
  rfl
end L2
namespace L2
open PySem PySem.Spec PyProof.Rows G
def zDI (i j : Int) : Prop := 0 <= j /\ j <= 1000000 /\ i.natAbs < 2 ^ 1000
theorem zE7 {X : Cx} : OpR X (binaryOp .LShift) (rI zDI fun i j => .int (i * 2 ^ j.toNat)) := opI fun i j _ _ _ _ _ hc q => lshift_int hc.1 (by
  have hb : Builtin.Int.intBits i <= 1000 := z5j hc.2.2
  have h2 := hc.2.1
  omega) q
def rowAt (rows : List (List (Option Int))) (y : Int) : List (Option Int) := if 0 <= y then (rows[y.toNat]?).getD [] else []
def zAt (zs : List Int) (y : Int) : Int := if 0 <= y then (zs[y.toNat]?).getD 0 else 0
theorem z5n (f : List (Option Int) -> Int) (h0 : f [] = 0) (rows : List (List (Option Int))) (y : Int) : zAt (rows.map f) y = f (rowAt rows y) := by
  unfold zAt rowAt
  split
  . rw [List.getElem?_map]
    cases rows[y.toNat]? with
    | none => exact h0.symm
    | some r => rfl
  . exact h0.symm
theorem z2I {w h : Nat} {rows : List (List (Option Int))} (R : Rect w h rows) (y : Int) : Cells (rowAt rows y) := by
  unfold rowAt
  split
  . cases hr : rows[y.toNat]? with
    | none => exact fun _ h => nomatch h
    | some r => exact (R.row r (List.mem_of_getElem? hr)).2
  . exact fun _ h => nomatch h
theorem z2i {w h : Nat} {rows : List (List (Option Int))} (R : Rect w h rows) (x y : Int) : look w h rows x y = atR (rowAt rows y) x := by
  have hR := R.len
  unfold look atR rowAt
  by_cases hy : 0 <= y
  . rw [if_pos hy]
    by_cases hy2 : y < h
    . have hl : y.toNat < rows.length := by omega
      have hw := (R.row0 hl).1
      have eg : rows.getD y.toNat [] = rows[y.toNat]'hl := by rw [List.getD_eq_getElem?_getD, List.getElem?_eq_getElem hl]; rfl
      rw [eg, List.getElem?_eq_getElem hl]
      show (if 0 <= x /\ x < w /\ 0 <= y /\ y < h then (rows[y.toNat]'hl).getD x.toNat none else none) = if 0 <= x then ((rows[y.toNat]'hl)[x.toNat]?).join else none
      by_cases hx : 0 <= x
      . rw [if_pos hx]
        by_cases hx2 : x < w
        . rw [if_pos ⟨hx, hx2, hy, hy2⟩, List.getD_eq_getElem?_getD, List.getElem?_eq_getElem (by omega)]
          rfl
        . rw [if_neg (fun h => hx2 h.2.1), List.getElem?_eq_none (by omega)]
          rfl
      . rw [if_neg hx, if_neg (fun h => hx h.1)]
    . rw [if_neg (fun h => hy2 h.2.2.2), List.getElem?_eq_none (show rows.length <= y.toNat by omega)]
      show none = if 0 <= x then (([] : List (Option Int))[x.toNat]?).join else none
      split <;> rfl
  . rw [if_neg hy, if_neg (fun h => hy h.2.2.1)]
    split <;> rfl
def z5o (rows : List (List (Option Int))) (x y : Int) (w : Nat) : List (Option Int) := (List.range w).map fun (i : Nat) => atR (rowAt rows y) (x + (i : Int))
def cutRows (rows : List (List (Option Int))) (x y : Int) (w h : Nat) : List (List (Option Int)) := (List.range h).map fun (j : Nat) => z5o rows x (y + (j : Int)) w
theorem z37 (rows : List (List (Option Int))) (x y : Int) (w : Nat) : (z5o rows x y w).length = w := by unfold z5o; rw [List.length_map, List.length_range]
theorem z1j (rows : List (List (Option Int))) (x y : Int) (w h : Nat) : (cutRows rows x y w h).length = h := by unfold cutRows; rw [List.length_map, List.length_range]
theorem z6c {r : List (Option Int)} (h : Cells r) (x : Int) : Cell (atR r x) := by
  unfold atR
  split
  . cases hr : r[x.toNat]? with
    | none => exact fun z e => nomatch e
    | some c => exact h c (List.mem_of_getElem? hr)
  . exact fun z e => nomatch e
theorem z7B {w h : Nat} {rows : List (List (Option Int))} (R : Rect w h rows) (x y : Int) (w' : Nat) : Cells (z5o rows x y w') := fun c hc => by
  unfold z5o at hc
  obtain ⟨i, _, rfl⟩ := List.mem_map.mp hc
  exact z6c (z2I R y) _
theorem z9t {w h : Nat} {rows : List (List (Option Int))} (R : Rect w h rows) (x y : Int) {w' h' : Nat} (w1 : 1 <= w') (w2 : w' <= 64) (h1 : 1 <= h') (h2 : h' <= 64) : Rect w' h' (cutRows rows x y w' h') :=
  ⟨z1j _ _ _ _ _, h1, h2, w1, w2, fun r hr => by
    unfold cutRows at hr
    obtain ⟨j, _, rfl⟩ := List.mem_map.mp hr
    exact ⟨z37 _ _ _ _, z7B R _ _ _⟩⟩
theorem z7C {w h : Nat} {rows : List (List (Option Int))} (R : Rect w h rows) (x y : Int) (w' : Nat) : z06 (z5o rows x y w') = zAl (zAt (rows.map z06) y) (4 * x) (4 * (w' : Int)) := by
  rw [z5n z06 rfl, z8W (z2I R y), z8Y]
  rfl
theorem z8c (rows : List (List (Option Int))) (x y : Int) (w' : Nat) : z0E (z5o rows x y w') = zAl (zAt (rows.map z0E) y) x (w' : Int) := by
  rw [z5n z0E rfl, z9s, z8Y]
  rfl
theorem zBT {w h : Nat} {rows : List (List (Option Int))} (R : Rect w h rows) {x : Int} {w' : Nat} (hx : x <= -(w' : Int) \/ (w : Int) <= x) (y : Int) (h' : Nat) : cutRows rows x y w' h' = List.replicate h' (List.replicate w' none) := by
  refine List.eq_replicate_iff.mpr ⟨z1j _ _ _ _ _, fun r hr => ?_⟩
  unfold cutRows at hr
  obtain ⟨j, _, rfl⟩ := List.mem_map.mp hr
  refine List.eq_replicate_iff.mpr ⟨z37 _ _ _ _, fun c hc => ?_⟩
  unfold z5o at hc
  obtain ⟨i, hi, rfl⟩ := List.mem_map.mp hc
  have hi' : i < w' := List.mem_range.mp hi
  rw [<- z2i R]
  unfold look
  rw [if_neg (by omega)]
theorem z4y {w h : Nat} {rows : List (List (Option Int))} (R : Rect w h rows) (f : List (Option Int) -> Int) (h0 : f [] = 0) (hf : ∀ r, Cells r -> r.length = w -> 0 <= f r /\ f r < 2 ^ 256) (y : Int) : 0 <= zAt (rows.map f) y /\ zAt (rows.map f) y < 2 ^ 256 := by
  rw [z5n f h0]
  unfold rowAt
  split
  . cases hr : rows[y.toNat]? with
    | none => show 0 <= f [] /\ f [] < 2 ^ 256; rw [h0]; exact ⟨by decide, by decide⟩
    | some r => exact hf r (R.row r (List.mem_of_getElem? hr)).2 (R.row r (List.mem_of_getElem? hr)).1
  . rw [h0]; exact ⟨by decide, by decide⟩
theorem z4z {n : Nat} (h : n <= 64) : (16 : Int) ^ n <= 2 ^ 256 /\ (2 : Int) ^ n <= 2 ^ 256 := by
  have key : ∀ {a b : Nat}, a <= b -> (2 : Int) ^ a <= 2 ^ b := fun {a b} hab => by
    rw [<- z3p, <- z3p]
    exact Int.ofNat_le.mpr (Nat.pow_le_pow_right (by decide) hab)
  exact ⟨by rw [<- zAf]; exact key (by omega), key (by omega)⟩
theorem z50 {w h : Nat} {rows : List (List (Option Int))} (R : Rect w h rows) (y : Int) : 0 <= zAt (rows.map z06) y /\ zAt (rows.map z06) y < 2 ^ 256 :=
  z4y R z06 rfl (fun r hc hl => by
    have h1 := z27 hc
    have h2 := (z4z (n := r.length) (by have := R.w2; omega)).1
    omega) y
theorem z5p {w h : Nat} {rows : List (List (Option Int))} (R : Rect w h rows) (y : Int) : 0 <= zAt (rows.map z0E) y /\ zAt (rows.map z0E) y < 2 ^ 256 :=
  z4y R z0E rfl (fun r hc hl => by
    have h1 := z21 r
    have h2 := (z4z (n := r.length) (by have := R.w2; omega)).2
    omega) y
theorem z8d {b : Int} {m : Nat} (h : 0 <= b) : Builtin.bitAnd b (1 * 2 ^ m - 1) = b % 2 ^ m := by
  obtain ⟨n, rfl⟩ := Int.eq_ofNat_of_zero_le h
  have p := z2S m
  have e : (1 : Int) * 2 ^ m - 1 = ((2 ^ m - 1 : Nat) : Int) := by
    have := Nat.pow_pos (n := m) (show 0 < 2 by decide)
    rw [Int.ofNat_sub (by omega), z3p]
    omega
  rw [e, PyProof.Rows.bitAnd_pp (Int.natCast_nonneg _) (Int.natCast_nonneg _), Int.toNat_natCast, Int.toNat_natCast, Nat.and_two_pow_sub_one_eq_mod, Int.natCast_emod, z3p]
def z51 : Sp := fun vs H Q _ => ∃ (t : Addr) (zs : List Int) (y : Int), vs = [.ref t, .int y] /\ H t = some (.tup (zs.map V.int)) /\ Q (.int (zAt zs y)) H
def z52 : Sp := fun vs H Q _ => ∃ b a m : Int, vs = [.int b, .int a, .int m] /\ 0 <= b /\ b < 2 ^ 256 /\ -1000 <= a /\ a <= 1000 /\ 0 <= m /\ m <= 1000 /\ Q (.int (zAl b a m)) H
def zCU : Sp := fun vs H Q _ => ∃ p x y w h rows w' h', vs = [.ref p, .int x, .int y, .int w', .int h'] /\ PicAt H p w rows /\ Rect w h rows /\ 1 <= w' /\ w' <= 64 /\ 1 <= h' /\ h' <= 64 /\
  ∀ q H', Same H H' -> PicAt H' q w'.toNat (cutRows rows x y w'.toNat h'.toNat) -> Q (.ref q) H'
end L2
namespace L2
open PySem PySem.Spec PyProof.Rows G
structure Made (H H2 : Hp) (f : Nat -> List (Option Int)) (i : Nat) (qs : List Addr) : Prop where
  same : Same H H2
  len : qs.length = i
  fr : ∀ q ∈ qs, H q = none
  at' : ∀ (j : Nat) q, qs[j]? = some q -> H2 q = some (.lst ((f j).map z0S))
  nd : qs.Nodup
theorem Made.rows {H H2 : Hp} {f : Nat -> List (Option Int)} {n : Nat} {qs : List Addr} {l : Addr} (M : Made H H2 f n qs) (nl : H2 l = none) : RowsB H (upd H2 l (.lst (qs.map V.ref))) l qs ((List.range n).map f) where
  same := M.same.trans (Same.new nl)
  fl := M.same.free nl
  fp := fun p hp => ⟨M.fr p hp, fun e => by
    obtain ⟨j, hj, ej⟩ := List.mem_iff_getElem.mp hp
    have := M.at' j p (by rw [List.getElem?_eq_getElem hj, ej])
    rw [e, nl] at this
    cases this⟩
  rat := ⟨upd_same, by rw [M.len, List.length_map, List.length_range], fun i p r e1 e2 => by
    have hi : i < n := by
      have := (List.getElem?_eq_some_iff.mp e1).1
      have := M.len
      omega
    rw [List.getElem?_map, List.getElem?_range hi] at e2
    cases e2
    exact (Same.new nl) _ _ (M.at' i p e1)⟩
theorem z3t {α : Type} (f : Nat -> α) (i : Nat) : (List.range (i + 1)).map f = (List.range i).map f ++ [f i] := by
  rw [List.range_succ, List.map_append]
  rfl
theorem PicAt.of {H : Hp} {p : Addr} {w : Nat} {rows rows' : List (List (Option Int))} (h : PicAt H p w rows) (e : rows = rows') : PicAt H p w rows' := e ▸ h
theorem RowsAt.cell {H : Hp} {l : Addr} {ps : List Addr} {rows : List (List (Option Int))} {w h : Nat} (a : RowsAt H l ps rows) (R : Rect w h rows) {x y : Nat} (hx : x < w) (hy : y < h) :
    ∃ p xs, ps[y]? = some p /\ L2.atI (ps.map V.ref) (y : Int) = some (.ref p) /\ H p = some (.lst xs) /\ L2.atI xs (x : Int) = some (z0S (z2V rows x y)) := by
  have hR := R.len
  have hl : y < rows.length := by omega
  obtain ⟨p, e0, g⟩ := a.at hl
  have e1 : L2.atI (ps.map V.ref) (y : Int) = some (.ref p) := z0d (by rw [List.getElem?_map, e0]; rfl)
  have hw := (R.row0 hl).1
  refine ⟨p, _, e0, e1, g, z0d ?_⟩
  have e : z2V rows x y = (rows[y]'hl)[x]'(by omega) := by
    unfold z2V
    rw [List.getElem?_eq_getElem hl]
    show ((rows[y]'hl)[x]?).join = _
    rw [List.getElem?_eq_getElem (by omega)]
    rfl
  rw [List.getElem?_map, List.getElem?_eq_getElem (by omega), e]
  rfl
abbrev z1u (h : Heap) (T : Addr) (x y v : Value) : Prop := h.get? T = some { cls := .type "tuple", data := .seq #[x, y, v] }
structure Ap3 (z TI TO i1 i2 i3 l1 l2 l3 : Addr) : Prop where
  TIz : TI ≠ z
  TOz : TO ≠ z
  i1z : i1 ≠ z
  i2z : i2 ≠ z
  i3z : i3 ≠ z
  TITO : TI ≠ TO
  TIi1 : TI ≠ i1
  TIi2 : TI ≠ i2
  TIi3 : TI ≠ i3
  TOi1 : TO ≠ i1
  TOi2 : TO ≠ i2
  TOi3 : TO ≠ i3
  i12 : i1 ≠ i2
  i13 : i1 ≠ i3
  i23 : i2 ≠ i3
  l1z : l1 ≠ z
  l2z : l2 ≠ z
  l3z : l3 ≠ z
  l2i1 : l2 ≠ i1
  l2TO : l2 ≠ TO
  l3i1 : l3 ≠ i1
  l3i2 : l3 ≠ i2
  l3TO : l3 ≠ TO
theorem zBU {n l1 l2 l3 : Nat} (h1 : l1 < n) (h2 : l2 < n) (h3 : l3 < n) : Ap3 (n + 5) (n + 3) (n + 4) n (n + 1) (n + 2) l1 l2 l3 := by
  constructor <;> (show (_ : Nat) ≠ (_ : Nat); omega)
section
variable {prog : Program} {w : World} {A : Around} {E : Value -> Shared -> Prop} {s : Shared}
theorem z3R {T : Addr} {a b c x : Value} {k : Nat} {Q : Unit -> Shared -> Prop} (hT : z1u s.heap T a b c)
    (h : ∀ h', h'.get? T = some { cls := .type "tuple", data := .seq ((#[a, b, c] : Array Value).setIfInBounds k x) } -> Heap.SameBut T s.heap h' -> Q () { s with heap := h' }) :
    wpAny (model prog w) A (updateSeq T (·.setIfInBounds k x)) Q E s := by
  refine wpAny_updateSeq hT rfl (h _ ?_ (Heap.SameBut.update ..))
  rw [Heap.get?_update_self _ hT rfl]
  simp [Obj.mapSeq]
theorem z8e {z TI TO i1 i2 i3 l1 l2 l3 : Addr} {k : Nat} {xs ys vs : Array Value} {x y v a b c : Value} {Q : Value -> Shared -> Prop} (D : Ap3 z TI TO i1 i2 i3 l1 l2 l3)
    (gz : IsZip s.heap z TI TO .none) (gI : z1u s.heap TI (.ref i1) (.ref i2) (.ref i3)) (gO : z1u s.heap TO a b c)
    (j1 : s.heap.IsTupleIter i1 l1 k) (j2 : s.heap.IsTupleIter i2 l2 k) (j3 : s.heap.IsTupleIter i3 l3 k) (t1 : s.heap.IsTuple l1 xs) (t2 : s.heap.IsTuple l2 ys) (t3 : s.heap.IsTuple l3 vs) (hx : xs[k]? = some x) (hy : ys[k]? = some y) (hv : vs[k]? = some v)
    (kk : ∀ h', IsZip h' z TI TO (rawInt s.heap.objs.size) -> z1u h' TO x y v -> h'.IsTupleIter i1 l1 (k + 1) -> h'.IsTupleIter i2 l2 (k + 1) -> h'.IsTupleIter i3 l3 (k + 1) -> z1u h' s.heap.objs.size x y v -> h'.objs.size = s.heap.objs.size + 1 ->
      (∀ c o, c ≠ z -> c ≠ TO -> c ≠ i1 -> c ≠ i2 -> c ≠ i3 -> s.heap.get? c = some o -> h'.get? c = some o) -> Q (.ref s.heap.objs.size) { s with heap := h' }) :
    wpAny (model prog w) A (Builtin.«zip.__next__» ⟨[.ref z], []⟩) (fun fin s' => ∃ v, fin = .done (.ret v) /\ Q v s') E s := by
  show wpAny _ _ (field (.ref z) 2 >>= _) _ _ _
  refine wpAny_bind (wpAny_field gz rfl (x := .bool false) rfl ?_)
  show wpAny _ _ (field (.ref z) 3 >>= _) _ _ _
  refine wpAny_bind (wpAny_field gz rfl (x := .ref TI) rfl ?_)
  refine wpAny_bind (wpAny_seqItems gI rfl ?_)
  show wpAny _ _ (Builtin.SmallTypes.ownedTupleIsFree (.ref z) >>= _) _ _ _
  refine wpAny_bind ?_
  unfold Builtin.SmallTypes.ownedTupleIsFree
  refine wpAny_bind (wpAny_field gz rfl (x := .none) rfl (wpAny_pure ?_))
  simp only [if_true]
  refine wpAny_bind (wpAny_rule ?_)
  refine wpAny_bind (wpAny_field gz rfl (x := .ref TO) rfl ?_)
  refine wpAny_bind (wpAny_setField_rec gz (by simp) fun q1 gz1 b1 => ?_)
  replace gz1 : IsZip q1 z TI TO .ellipsis := gz1
  refine wpAny_bind ?_
  simp only [List.zipIdx_cons, List.zipIdx_nil, List.forIn_cons, List.forIn_nil]
  refine wpAny_bind (wpAny_bind (wpAny_onRaise ?_))
  show wpAny _ _ (Builtin.SmallTypes.nextOf (.ref i1) >>= _) _ _ _
  refine wpAny_bind (z1P (j1.extBut b1.extBut D.i1z) (t1.extBut b1.extBut D.l1z) hx fun q2 j12 b2 => wpAny_pure ?_)
  have gO2 : z1u q2 TO a b c := b2.extBut _ _ D.TOi1 (b1.extBut _ _ D.TOz gO)
  refine wpAny_bind (wpAny_seqItems gO2 rfl ?_)
  refine wpAny_bind (z3R gO2 fun q3 gO3 b3 => ?_)
  replace gO3 : z1u q3 TO x b c := gO3
  refine wpAny_bind (wpAny_letGo (wpAny_pure ?_))
  refine wpAny_bind (wpAny_bind (wpAny_onRaise ?_))
  show wpAny _ _ (Builtin.SmallTypes.nextOf (.ref i2) >>= _) _ _ _
  refine wpAny_bind (z1P (((j2.extBut b1.extBut D.i2z).extBut b2.extBut D.i12.symm).extBut b3.extBut D.TOi2.symm) (((t2.extBut b1.extBut D.l2z).extBut b2.extBut D.l2i1).extBut b3.extBut D.l2TO) hy fun q4 j24 b4 => wpAny_pure ?_)
  have gO4 : z1u q4 TO x b c := b4.extBut _ _ D.TOi2 gO3
  refine wpAny_bind (wpAny_seqItems gO4 rfl ?_)
  refine wpAny_bind (z3R gO4 fun q5 gO5 b5 => ?_)
  replace gO5 : z1u q5 TO x y c := gO5
  refine wpAny_bind (wpAny_letGo (wpAny_pure ?_))
  refine wpAny_bind (wpAny_bind (wpAny_onRaise ?_))
  show wpAny _ _ (Builtin.SmallTypes.nextOf (.ref i3) >>= _) _ _ _
  refine wpAny_bind (z1P (((((j3.extBut b1.extBut D.i3z).extBut b2.extBut D.i13.symm).extBut b3.extBut D.TOi3.symm).extBut b4.extBut D.i23.symm).extBut b5.extBut D.TOi3.symm) (((((t3.extBut b1.extBut D.l3z).extBut b2.extBut D.l3i1).extBut b3.extBut D.l3TO).extBut b4.extBut D.l3i2).extBut b5.extBut D.l3TO) hv fun q6 j36 b6 => wpAny_pure ?_)
  have gO6 : z1u q6 TO x y c := b6.extBut _ _ D.TOi3 gO5
  refine wpAny_bind (wpAny_seqItems gO6 rfl ?_)
  refine wpAny_bind (z3R gO6 fun q7 gO7 b7 => ?_)
  replace gO7 : z1u q7 TO x y v := gO7
  refine wpAny_bind (wpAny_letGo (wpAny_pure (wpAny_pure ?_)))
  refine wpAny_bind (wpAny_seqItems gO7 rfl ?_)
  refine wpAny_bind (wpAny_newTuple ?_)
  have sz : q7.objs.size = s.heap.objs.size := by rw [b7.1, b6.1, b5.1, b4.1, b3.1, b2.1, b1.1]
  have gz7 : IsZip q7 z TI TO .ellipsis := b7.extBut _ _ D.TOz.symm (b6.extBut _ _ D.i3z.symm (b5.extBut _ _ D.TOz.symm (b4.extBut _ _ D.i2z.symm (b3.extBut _ _ D.TOz.symm (b2.extBut _ _ D.i1z.symm gz1)))))
  have kk7 : ∀ c o, c ≠ z -> c ≠ TO -> c ≠ i1 -> c ≠ i2 -> c ≠ i3 -> s.heap.get? c = some o -> q7.get? c = some o := fun c o c1 c2 c3 c4 c5 e => b7.extBut _ _ c2 (b6.extBut _ _ c5 (b5.extBut _ _ c2 (b4.extBut _ _ c4 (b3.extBut _ _ c2 (b2.extBut _ _ c3 (b1.extBut _ _ c1 e))))))
  have j17 : q7.IsTupleIter i1 l1 (k + 1) := ((((j12.extBut b3.extBut D.TOi1.symm).extBut b4.extBut D.i12).extBut b5.extBut D.TOi1.symm).extBut b6.extBut D.i13).extBut b7.extBut D.TOi1.symm
  have j27 : q7.IsTupleIter i2 l2 (k + 1) := ((j24.extBut b5.extBut D.TOi2.symm).extBut b6.extBut D.i23).extBut b7.extBut D.TOi2.symm
  have j37 : q7.IsTupleIter i3 l3 (k + 1) := j36.extBut b7.extBut D.TOi3.symm
  have zlt : z < q7.objs.size := Heap.lt_size gz7
  show wpAny _ _ (Builtin.SmallTypes.ownedTupleHandOut (.ref z) (.ref q7.objs.size) >>= _) _ _ _
  refine wpAny_bind ?_
  unfold Builtin.SmallTypes.ownedTupleHandOut
  have gz8 : IsZip (q7.push { cls := .type "tuple", data := .seq #[x, y, v] }) z TI TO .ellipsis := Heap.get?_push_of_some _ gz7
  refine wpAny_bind (wpAny_setField_rec gz8 (by simp) fun q9 gz9 b9 => ?_)
  replace gz9 : IsZip q9 z TI TO (rawInt q7.objs.size) := gz9
  refine wpAny_setField_rec gz9 (by simp) fun q10 gz10 b10 => ?_
  replace gz10 : IsZip q10 z TI TO (rawInt q7.objs.size) := gz10
  have up : ∀ c o, c ≠ z -> q7.get? c = some o -> q10.get? c = some o := fun c o c1 e => b10.extBut _ _ c1 (b9.extBut _ _ c1 (Heap.get?_push_of_some _ e))
  have gT : z1u q10 q7.objs.size x y v := b10.extBut _ _ (Nat.ne_of_gt zlt) (b9.extBut _ _ (Nat.ne_of_gt zlt) (Heap.get?_push_size _ rfl))
  have sz10 : q10.objs.size = q7.objs.size + 1 := by rw [b10.1, b9.1, Heap.size_push]
  rw [sz] at gz10 gT sz10
  refine wpAny_pure ⟨_, rfl, ?_⟩
  show Q (.ref q7.objs.size) _
  rw [sz]
  exact kk q10 gz10 (up _ _ D.TOz gO7) (j17.at fun o e => up _ o D.i1z e) (j27.at fun o e => up _ o D.i2z e) (j37.at fun o e => up _ o D.i3z e) gT sz10 fun c o c1 c2 c3 c4 c5 e => up c o c1 (kk7 c o c1 c2 c3 c4 c5 e)
theorem z9u {z TI TO i1 i2 i3 l1 : Addr} {k : Nat} {xs : Array Value} {Q : PySem.Fin -> Shared -> Prop} (hh : A.handled = none) (i1z : i1 ≠ z) (l1z : l1 ≠ z)
    (gz : IsZip s.heap z TI TO .none) (gI : z1u s.heap TI (.ref i1) (.ref i2) (.ref i3))
    (j1 : s.heap.IsTupleIter i1 l1 k) (t1 : s.heap.IsTuple l1 xs) (hx : xs[k]? = none)
    (kE : ∀ h' e, (∀ c o, c ≠ z -> c ≠ i1 -> s.heap.get? c = some o -> h'.get? c = some o) -> (∃ o, h'.get? e = some o /\ o.cls = .type "StopIteration") -> E (.ref e) { s with heap := h' }) :
    wpAny (model prog w) A (Builtin.«zip.__next__» ⟨[.ref z], []⟩) Q E s := by
  show wpAny _ _ (field (.ref z) 2 >>= _) _ _ _
  refine wpAny_bind (wpAny_field gz rfl (x := .bool false) rfl ?_)
  show wpAny _ _ (field (.ref z) 3 >>= _) _ _ _
  refine wpAny_bind (wpAny_field gz rfl (x := .ref TI) rfl ?_)
  refine wpAny_bind (wpAny_seqItems gI rfl ?_)
  show wpAny _ _ (Builtin.SmallTypes.ownedTupleIsFree (.ref z) >>= _) _ _ _
  refine wpAny_bind ?_
  unfold Builtin.SmallTypes.ownedTupleIsFree
  refine wpAny_bind (wpAny_field gz rfl (x := .none) rfl (wpAny_pure ?_))
  simp only [if_true]
  refine wpAny_bind (wpAny_rule ?_)
  refine wpAny_bind (wpAny_field gz rfl (x := .ref TO) rfl ?_)
  refine wpAny_bind (wpAny_setField_rec gz (by simp) fun q1 gz1 b1 => ?_)
  replace gz1 : IsZip q1 z TI TO .ellipsis := gz1
  refine wpAny_bind ?_
  simp only [List.zipIdx_cons, List.zipIdx_nil, List.forIn_cons, List.forIn_nil]
  refine wpAny_bind (wpAny_bind (wpAny_onRaise ?_))
  show wpAny _ _ (Builtin.SmallTypes.nextOf (.ref i1) >>= _) _ _ _
  refine wpAny_bind (z3N hh (j1.extBut b1.extBut i1z) (t1.extBut b1.extBut l1z) hx fun q2 e b2 he => ?_)
  obtain ⟨oe, ge, ce⟩ := he
  have gz2 : IsZip q2 z TI TO .ellipsis := b2 _ _ i1z.symm gz1
  have ez : e ≠ z := fun p => by subst p; rw [gz2] at ge; cases ge; simp at ce
  exact wpAny_setField_rec gz2 (by simp) fun q3 _ b3 => kE q3 e (fun c o c1 c3 p => b3.extBut _ _ c1 (b2 _ _ c3 (b1.extBut _ _ c1 p))) ⟨oe, b3.extBut _ _ ez ge, ce⟩
theorem z3d (a b c : Value) : checkTypeCall "zip" ⟨[a, b, c], []⟩ = pure () := by kernel_rfl
theorem z4L (a b c : Value) : checkBuiltinCall "zip.__new__" ⟨[.type "zip", a, b, c], []⟩ = pure () := by kernel_rfl
theorem z5q (a b c d : Value) : argsOk "object.__init__" ⟨[a, b, c, d], []⟩ := by
  unfold argsOk; rw [signature?_of (id := "object.__init__") (n := ['_', '_', 't', 'i', 'n', 'i', '_', '_']) (o := ['t', 'c', 'e', 'j', 'b', 'o']) (by kernel_rfl) F.owner_object]; kernel_rfl
abbrev zw1 (h : Heap) (l1 : Addr) : Heap := h.push { cls := .type "tuple_iterator", data := .fields #[.ref l1, .int 0 0] }
abbrev zw2 (h : Heap) (l1 l2 : Addr) : Heap := (zw1 h l1).push { cls := .type "tuple_iterator", data := .fields #[.ref l2, .int 0 0] }
abbrev zw3 (h : Heap) (l1 l2 l3 : Addr) : Heap := (zw2 h l1 l2).push { cls := .type "tuple_iterator", data := .fields #[.ref l3, .int 0 0] }
abbrev zw4 (h : Heap) (l1 l2 l3 : Addr) : Heap := (zw3 h l1 l2 l3).push { cls := .type "tuple", data := .seq #[.ref h.objs.size, .ref (zw1 h l1).objs.size, .ref (zw2 h l1 l2).objs.size] }
abbrev zw5 (h : Heap) (l1 l2 l3 : Addr) : Heap := (zw4 h l1 l2 l3).push { cls := .type "tuple", data := .seq #[.none, .none, .none] }
abbrev zw6 (h : Heap) (l1 l2 l3 : Addr) : Heap := (zw5 h l1 l2 l3).push { cls := .type "zip", data := .fields #[.none, .bool false, .bool false, .ref (zw3 h l1 l2 l3).objs.size, .ref (zw4 h l1 l2 l3).objs.size] }
theorem z7D (l1 l2 l3 : Addr) (xs ys vs : Array Value) :
    Meets (Builtin.«zip.__new__» ⟨[.type "zip", .ref l1, .ref l2, .ref l3], []⟩) (fun _ R s => s.heap.IsTuple l1 xs /\ s.heap.IsTuple l2 ys /\ s.heap.IsTuple l3 vs /\ R (.ok (.ret (.ref (zw5 s.heap l1 l2 l3).objs.size))) { s with heap := zw6 s.heap l1 l2 l3 }) :=
  .of_wp fun prog w A R s h => by
    obtain ⟨hp, g, d, tk, os⟩ := s
    obtain ⟨t1, t2, t3, h⟩ := h
    have hsub := sub_zip
    have hL1 : Heap.IsTuple (Shared.heap ⟨hp, g, d, tk, os⟩) l1 xs := t1
    have hL2 : Heap.IsTuple (Shared.heap ⟨hp.push { cls := .type "tuple_iterator", data := .fields #[.ref l1, .int 0 0] }, g, d, tk, os⟩) l2 ys := t2.at fun o e => Heap.get?_push_of_some _ e
    have hL3 : Heap.IsTuple (Shared.heap ⟨(hp.push { cls := .type "tuple_iterator", data := .fields #[.ref l1, .int 0 0] }).push { cls := .type "tuple_iterator", data := .fields #[.ref l2, .int 0 0] }, g, d, tk, os⟩) l3 vs := (t3.at fun o e => Heap.get?_push_of_some _ e).at fun o e => Heap.get?_push_of_some _ e
    wp_walk using wpAny_pyIter_tuple hL1, wpAny_pyIter_tuple hL2, wpAny_pyIter_tuple hL3
    exact ⟨_, rfl, h⟩
theorem z8f {l1 l2 l3 : Addr} {xs ys vs : Array Value} {Q : Value -> Shared -> Prop} (t1 : s.heap.IsTuple l1 xs) (t2 : s.heap.IsTuple l2 ys) (t3 : s.heap.IsTuple l3 vs)
    (h : ∀ h', IsZip h' (s.heap.objs.size + 5) (s.heap.objs.size + 3) (s.heap.objs.size + 4) .none -> z1u h' (s.heap.objs.size + 3) (.ref s.heap.objs.size) (.ref (s.heap.objs.size + 1)) (.ref (s.heap.objs.size + 2)) ->
      z1u h' (s.heap.objs.size + 4) .none .none .none -> h'.IsTupleIter s.heap.objs.size l1 0 -> h'.IsTupleIter (s.heap.objs.size + 1) l2 0 -> h'.IsTupleIter (s.heap.objs.size + 2) l3 0 ->
      (∀ c o, s.heap.get? c = some o -> h'.get? c = some o) -> Q (.ref (s.heap.objs.size + 5)) { s with heap := h' }) :
    wpAny (model prog w) A (call (.type "zip") [.ref l1, .ref l2, .ref l3]) Q E s := by
  refine callType_new F.called_zip (by decide) (z3d _ _ _) (z4L _ _ _) (fun obj => z5q obj _ _ _) F.entry_zip_new (z7D l1 l2 l3 xs ys vs) ⟨t1, t2, t3, ?_⟩
  have z1 : (zw1 s.heap l1).objs.size = s.heap.objs.size + 1 := Heap.size_push ..
  have z2 : (zw2 s.heap l1 l2).objs.size = s.heap.objs.size + 2 := by rw [Heap.size_push, z1]
  have z3 : (zw3 s.heap l1 l2 l3).objs.size = s.heap.objs.size + 3 := by rw [Heap.size_push, z2]
  have z4 : (zw4 s.heap l1 l2 l3).objs.size = s.heap.objs.size + 4 := by rw [Heap.size_push, z3]
  have z5 : (zw5 s.heap l1 l2 l3).objs.size = s.heap.objs.size + 5 := by rw [Heap.size_push, z4]
  have g6 : (zw6 s.heap l1 l2 l3).get? (zw5 s.heap l1 l2 l3).objs.size = some _ := Heap.get?_push_size _ rfl
  have g5 : (zw6 s.heap l1 l2 l3).get? (zw4 s.heap l1 l2 l3).objs.size = some _ := Heap.get?_push_of_some _ (Heap.get?_push_size _ rfl)
  have g4 : (zw6 s.heap l1 l2 l3).get? (zw3 s.heap l1 l2 l3).objs.size = some _ := Heap.get?_push_of_some _ (Heap.get?_push_of_some _ (Heap.get?_push_size _ rfl))
  have g3 : (zw6 s.heap l1 l2 l3).get? (zw2 s.heap l1 l2).objs.size = some _ := Heap.get?_push_of_some _ (Heap.get?_push_of_some _ (Heap.get?_push_of_some _ (Heap.get?_push_size _ rfl)))
  have g2 : (zw6 s.heap l1 l2 l3).get? (zw1 s.heap l1).objs.size = some _ := Heap.get?_push_of_some _ (Heap.get?_push_of_some _ (Heap.get?_push_of_some _ (Heap.get?_push_of_some _ (Heap.get?_push_size _ rfl))))
  have g1 : (zw6 s.heap l1 l2 l3).get? s.heap.objs.size = some _ := Heap.get?_push_of_some _ (Heap.get?_push_of_some _ (Heap.get?_push_of_some _ (Heap.get?_push_of_some _ (Heap.get?_push_of_some _ (Heap.get?_push_size _ rfl)))))
  show _ /\ _
  rw [z3, z4, z5] at g6
  rw [z1, z2, z3] at g4
  rw [z4] at g5
  rw [z2] at g3
  rw [z1] at g2
  rw [z5]
  exact ⟨⟨_, g6, rfl⟩, h _ g6 g4 g5 ⟨_, g1, rfl, rfl⟩ ⟨_, g2, rfl, rfl⟩ ⟨_, g3, rfl, rfl⟩ fun c o p => Heap.get?_push_of_some _ (Heap.get?_push_of_some _ (Heap.get?_push_of_some _ (Heap.get?_push_of_some _ (Heap.get?_push_of_some _ (Heap.get?_push_of_some _ p)))))⟩
end
def Itw (K : PySem.W.Frag) (a b c : Addr) (xs ys zs : List V) : It :=
  ⟨fun i H => SqT K H a xs /\ SqT K H b ys /\ SqT K H c zs /\ i < xs.length /\ i < ys.length /\ i < zs.length, fun i H x H' => ∃ T u v r, H T = none /\ x = .ref T /\ H' = upd H T (.tup [u, v, r]) /\ xs[i]? = some u /\ ys[i]? = some v /\ zs[i]? = some r,
    fun i H => SqT K H a xs /\ xs.length <= i⟩
theorem z8g {P : Program} {w : World} {K : PySem.W.Frag} {es : List Expr} {k : Nat} {pos : Pos} (z TI TO i1 i2 i3 a b c : Addr) (xs ys zs : List V) (D : Ap3 z TI TO i1 i2 i3 a b c) :
    Turn P w K (.Tuple es k pos) (Itw K a b c xs ys zs) [z, TI, TO, i1, i2, i3] z (fun i h => IsZip h z TI TO .none /\ z1u h TI (.ref i1) (.ref i2) (.ref i3) /\ (∃ u v r, z1u h TO u v r) /\ h.IsTupleIter i1 a i /\ h.IsTupleIter i2 b i /\ h.IsTupleIter i3 c i) where
  mem := List.mem_cons_self
  obj := fun i h st d hc => by
    obtain ⟨gz, gI, ⟨u, v, r, gO⟩, ⟨o1, e1, c1, d1⟩, ⟨o2, e2, c2, d2⟩, ⟨o3, e3, c3, d3⟩⟩ := st
    simp only [List.mem_cons, List.mem_nil_iff, or_false] at hc
    rcases hc with rfl | rfl | rfl | rfl | rfl | rfl
    . exact ⟨_, gz, fun v q => by cases q⟩
    . exact ⟨_, gI, fun v q => by cases q⟩
    . exact ⟨_, gO, fun v q => by cases q⟩
    . exact ⟨o1, e1, fun v q => by rw [d1] at q; cases q⟩
    . exact ⟨o2, e2, fun v q => by rw [d2] at q; cases q⟩
    . exact ⟨o3, e3, fun v q => by rw [d3] at q; cases q⟩
  keep := fun i h h' st kk => by
    obtain ⟨gz, gI, ⟨u, v, r, gO⟩, j1, j2, j3⟩ := st
    exact ⟨kk z (by simp) _ gz, kk TI (by simp) _ gI, ⟨u, v, r, kk TO (by simp) _ gO⟩, j1.at fun o e => kk i1 (by simp) o e, j2.at fun o e => kk i2 (by simp) o e, j3.at fun o e => kk i3 (by simp) o e⟩
  item := by
    intro X hP hw hK hc i pins s σ H E I hf st hg
    subst hP hw hK
    obtain ⟨ha, hb, hc', hi, hj, hk⟩ := hg
    obtain ⟨gz, gI, ⟨p, q, r', gO⟩, j1, j2, j3⟩ := st
    obtain ⟨its1, rv1, t1, _⟩ := I.tuple ha
    obtain ⟨its2, rv2, t2, _⟩ := I.tuple hb
    obtain ⟨its3, rv3, t3, _⟩ := I.tuple hc'
    have hx : xs[i]? = some xs[i] := List.getElem?_eq_getElem hi
    have hy : ys[i]? = some ys[i] := List.getElem?_eq_getElem hj
    have hz : zs[i]? = some zs[i] := List.getElem?_eq_getElem hk
    obtain ⟨u, hu, ru⟩ := rv1.get hx
    obtain ⟨v, hv, rv⟩ := rv2.get hy
    obtain ⟨r, hr, rr⟩ := rv3.get hz
    have nT : H s.heap.objs.size = none := I.hok.fresh (Nat.le_refl _)
    have F0 : ∀ d ∈ [z, TI, TO, i1, i2, i3], H d = none := fun d hd => (hf d hd).1
    have ty : s.TypeIs (.ref z) "zip" := ⟨_, gz, rfl⟩
    unfold pyNext
    refine wpAny_bind (wpAny_attempt (wpAny_callSpecial?_slot (name := Str.ofString "__next__") ty F.slot_zip_next (wpAny_call_entry F.slot_zip_next ty F.entry_zip_next
      (z8e D gz gI gO j1 j2 j3 (show s.heap.IsTuple a its1.toArray from t1) (show s.heap.IsTuple b its2.toArray from t2) (show s.heap.IsTuple c its3.toArray from t3) (x := u) (y := v) (v := r) (by simpa using hu) (by simpa using hv) (by simpa using hr) fun h' a1 a2 a3 a4 a4' a5 a6 a7 => wpAny_pure ?_) (F.args_zip_next_1 _))))
    refine ⟨.ref s.heap.objs.size, rfl, wpAny_letOwnedTupleGo_zip a1 fun h'' gz'' sb => ?_⟩
    have lt : ∀ {c o}, s.heap.get? c = some o -> c ≠ s.heap.objs.size := fun e => Nat.ne_of_lt (Heap.lt_size e)
    have kk : ∀ d o, d ∉ [z, TO, i1, i2, i3] -> s.heap.get? d = some o -> h''.get? d = some o := fun d o hd e => by
      simp only [List.mem_cons, List.mem_nil_iff, or_false, not_or] at hd
      exact (sb.2 d hd.1).trans (a7 d o hd.1 hd.2.1 hd.2.2.1 hd.2.2.2.1 hd.2.2.2.2 e)
    have gT : z1u h'' s.heap.objs.size u v r := (sb.2 _ (Ne.symm (lt gz))).trans a5
    have sub : ∀ d, d ∈ [z, TO, i1, i2, i3] -> d ∈ [z, TI, TO, i1, i2, i3] := fun d hd => by
      simp only [List.mem_cons, List.mem_nil_iff, or_false] at hd ⊢
      rcases hd with h | h | h | h | h <;> simp [h]
    have nb : ∀ d y, H d = some y -> d ∉ [z, TO, i1, i2, i3] := fun d y e hd => by
      rw [F0 d (sub d hd)] at e
      cases e
    have I1 : Inv X pins σ (upd H s.heap.objs.size (.tup [xs[i], ys[i], zs[i]])) { s with heap := h'', toks := s.toks } := by
      refine I.step (g' := s.gens) (d' := s.drawn) (ch := [z, TO, i1, i2, i3]) (fun d hd => ?_) (fun d o _ _ hd e _ => kk d o hd e) (fun d o _ _ hd e _ => ⟨o.slots, kk d o hd e⟩) (fun d o _ e n => ?_)
        (fun d o hd e => ⟨o, kk d o hd e⟩) (fun d zs e => ?_) (fun d ob y e => ?_) (fun d ps e => ⟨#[], ?_⟩) (fun m hm => ?_) (fun d y e => ?_) I.bare
      . obtain ⟨_, f1, _, f3, f4, f5⟩ := hf d (sub d hd)
        exact ⟨f3, f1, f4, f5⟩
      . rw [z07 (lt e)]
        exact n
      . rw [z07 (z08 e nT)]
        exact e
      . rw [z07 (z08 e nT)]
        exact e
      . rw [z07 (z08 e nT), e]
        simp
      . obtain ⟨o, es', ep, ho', r⟩ := hm
        refine ⟨o, es', ep, kk _ o (fun hd => ?_) ho', r⟩
        exact (hf _ (sub _ hd)).2.1 rfl
      . by_cases hb' : d = s.heap.objs.size
        . subst hb'
          rw [upd_same] at e
          cases e
          exact ⟨by show 3 <= sizeLine; decide, [u, v, r], .cons ru (.cons rv (.cons rr .nil)), _, gT, rfl, _, rfl⟩
        . rw [z07 hb'] at e
          refine (I.hok d y e).stay (fun d' o hd e' => ?_) (fun d' e' => by rw [z07 (z08 e' nT)]; exact e') fun d' zs e' => by rw [z07 (z08 e' nT)]; exact e'
          rcases hd with h | h
          . subst h
            exact kk d' o (nb d' y e) e'
          . exact kk d' o (nb d' _ h) e'
    refine ⟨.ref s.heap.objs.size, _, I1, rfl, ⟨_, xs[i], ys[i], zs[i], nT, rfl, rfl, hx, hy, hz⟩, ⟨gz'', (sb.2 _ D.TIz).trans (a7 _ _ D.TIz D.TITO D.TIi1 D.TIi2 D.TIi3 gI), ⟨_, _, _, (sb.2 _ D.TOz).trans a2⟩, a3.at fun o e => (sb.2 _ D.i1z).trans e, a4.at fun o e => (sb.2 _ D.i2z).trans e, a4'.at fun o e => (sb.2 _ D.i3z).trans e⟩, fun d hd => ?_⟩
    rw [z07]
    . exact F0 d hd
    . simp only [List.mem_cons, List.mem_nil_iff, or_false] at hd
      rcases hd with rfl | rfl | rfl | rfl | rfl | rfl
      . exact lt gz
      . exact lt gI
      . exact lt gO
      . obtain ⟨_, e, _⟩ := j1; exact lt e
      . obtain ⟨_, e, _⟩ := j2; exact lt e
      . obtain ⟨_, e, _⟩ := j3; exact lt e
  done := by
    intro X hP hw hK hc i pins s σ H E I hf st hg
    subst hP hw hK
    obtain ⟨ha, hend⟩ := hg
    obtain ⟨gz, gI, ⟨p, q, r', gO⟩, j1, j2, j3⟩ := st
    obtain ⟨its1, rv1, t1, _⟩ := I.tuple ha
    have l1 := rv1.length
    have hx : its1.toArray[i]? = none := by rw [List.getElem?_toArray]; exact List.getElem?_eq_none (by omega)
    have sub : ∀ d, d ∈ [z, i1] -> d ∈ [z, TI, TO, i1, i2, i3] := fun d hd => by
      simp only [List.mem_cons, List.mem_nil_iff, or_false] at hd ⊢
      rcases hd with h | h <;> simp [h]
    have nb : ∀ d y, H d = some y -> d ∉ [z, i1] := fun d y e hd => by
      rw [(hf d (sub d hd)).1] at e
      cases e
    have ty : s.TypeIs (.ref z) "zip" := ⟨_, gz, rfl⟩
    unfold pyNext
    refine wpAny_bind (wpAny_attempt (wpAny_callSpecial?_slot (name := Str.ofString "__next__") ty F.slot_zip_next (wpAny_call_entry F.slot_zip_next ty F.entry_zip_next
      (z9u (I.ok.hd hc) D.i1z D.l1z gz gI j1 (show s.heap.IsTuple a its1.toArray from t1) hx fun h' e a7 he => ?_) (F.args_zip_next_1 _))))
    obtain ⟨oe, hoe, hce⟩ := he
    refine wpAny_bind (wpAny_isInstance (T := "StopIteration") (b := true) ⟨oe, hoe, hce⟩ isSubtype_stop ?_)
    refine wpAny_pure ⟨rfl, ?_⟩
    have kk : ∀ d o, d ∉ [z, i1] -> s.heap.get? d = some o -> h'.get? d = some o := fun d o hd e => by
      simp only [List.mem_cons, List.mem_nil_iff, or_false, not_or] at hd
      exact a7 d o hd.1 hd.2 e
    refine I.step (t' := s.toks) (g' := s.gens) (d' := s.drawn) (ch := [z, i1]) (fun d hd => ?_) (fun d o _ _ hd e _ => kk d o hd e) (fun d o _ _ hd e _ => ⟨o.slots, kk d o hd e⟩) (fun d o _ e n => n)
      (fun d o hd e => ⟨o, kk d o hd e⟩) (fun d zs e => e) (fun d ob y e => e) (fun d ps e => ⟨#[], by rw [e]; simp⟩) (fun m hm => ?_) (fun d y e => ?_) I.bare
    . obtain ⟨_, f1, _, f3, f4, f5⟩ := hf d (sub d hd)
      exact ⟨f3, f1, f4, f5⟩
    . obtain ⟨o, es', ep, ho', r⟩ := hm
      exact ⟨o, es', ep, kk _ o (fun hd => (hf _ (sub _ hd)).2.1 rfl) ho', r⟩
    . refine (I.hok d y e).stay (fun d' o hd e' => ?_) (fun d' e' => e') fun d' zs e' => e'
      rcases hd with h | h
      . subst h
        exact kk d' o (nb d' y e) e'
      . exact kk d' o (nb d' _ h) e'
  self := fun _ _ _ _ _ st h => wpAny_pyIter_zip st.1 h
section
variable {X : Cx}
theorem vals3 {x y z : V} {us : List Value} (h : Vals [x, y, z] us) : ∃ a b c, us = [a, b, c] /\ RelV x a /\ RelV y b /\ RelV z c := by
  cases h with
  | cons h1 t => cases t with
    | cons h2 t => cases t with
      | cons h3 t => cases t; exact ⟨_, _, _, rfl, h1, h2, h3⟩
def zDJ (K : PySem.W.Frag) (ta : TA) : TI := fun σ H R => ta σ H fun vs H1 => ∃ a b c xs ys zs, vs = [.ref a, .ref b, .ref c] /\ SqT K H1 a xs /\ SqT K H1 b ys /\ SqT K H1 c zs /\ R (Itw K a b c xs ys zs) H1
theorem zBV {e1 e2 e3 : Expr} {ta : TA} {p pos : Pos} {es : List Expr} {k : Nat} {tp : Pos} (hg : Gl X "zip") (hm : X.mg "zip" = none) (ha : PA X [e1, e2, e3] ta) (hs : starEach [e1, e2, e3] X.env = (false, eval e1 X.env) :: starEach [e2, e3] X.env := by rfl) (hp : (backTo pos (starEach [e2, e3] X.env)).any (·.1) = false := by rfl) :
    PI X (.Tuple es k tp) (.Call (.Name "zip" p) [e1, e2, e3] [] pos) (zDJ X.K ta) := by
  intro pins s σ H R I h
  refine Call_ (z1w I hg hm boot_zip (PyProof.Rows.callWith_type1 (thn (ha pos pins s σ H _ I h) fun us s1 ⟨vs, H1, I1, r1, q1⟩ => ?_) hs hp))
  obtain ⟨a, b, c, xs, ys, zs, e, ta', tb', tc', q⟩ := q1
  subst e
  obtain ⟨u, v, r, rfl, ru, rv, rr⟩ := vals3 r1
  cases (show u = Value.ref a from ru)
  cases (show v = Value.ref b from rv)
  cases (show r = Value.ref c from rr)
  obtain ⟨its1, rv1, t1, _⟩ := I1.tuple ta'
  obtain ⟨its2, rv2, t2, _⟩ := I1.tuple tb'
  obtain ⟨its3, rv3, t3, _⟩ := I1.tuple tc'
  have la : a < s1.heap.objs.size := by obtain ⟨_, e, _⟩ := t1; exact Heap.lt_size e
  have lb : b < s1.heap.objs.size := by obtain ⟨_, e, _⟩ := t2; exact Heap.lt_size e
  have lc : c < s1.heap.objs.size := by obtain ⟨_, e, _⟩ := t3; exact Heap.lt_size e
  refine z8f (show s1.heap.IsTuple a its1.toArray from t1) (show s1.heap.IsTuple b its2.toArray from t2) (show s1.heap.IsTuple c its3.toArray from t3) fun h' a1 a2 a3 a4 a5 a6 a7 => ?_
  refine wpAny_pyIter_zip (s := { s1 with heap := h' }) a1 ?_
  refine ⟨s1.heap.objs.size + 5, [s1.heap.objs.size + 5, s1.heap.objs.size + 3, s1.heap.objs.size + 4, s1.heap.objs.size, s1.heap.objs.size + 1, s1.heap.objs.size + 2], _, _, H1, rfl, I1.kept (t' := s1.toks) a7,
    z8g _ _ _ _ _ _ a b c xs ys zs (zBU la lb lc), ⟨a1, a2, ⟨_, _, _, a3⟩, a4, a5, a6⟩, fun d hd => ?_, q⟩
  have ge : s1.heap.objs.size <= d := by
    simp only [List.mem_cons, List.mem_nil_iff, or_false] at hd
    rcases hd with e | e | e | e | e | e <;> rw [e]
    . exact Nat.le_add_right _ _
    . exact Nat.le_add_right _ _
    . exact Nat.le_add_right _ _
    . exact Nat.le_refl _
    . exact Nat.le_add_right _ _
    . exact Nat.le_add_right _ _
  exact I1.fpOk ge (I1.hok.fresh ge)
end
theorem z3u : ∀ {ns : List Int} {us : List Value}, Vals (ns.map V.int) us -> IntsAre us ns
  | [], _, .nil => .nil
  | n :: ns, _, .cons q t => by
    obtain ⟨k, rfl⟩ := q
    exact .cons n k (z3u t)
section
variable {X : Cx}
end
structure Df2 (K : PySem.W.Frag) (mg : Str -> Option Value) (x : Str) (st : Stmt) (ps : List Str) (f : Addr) (fd : FuncData) (T : Addr) (d e : Int) : Prop where
  F : FunD K x x st f fd T
  b : Binds K fd ps []
  b1 : ∃ t, Binds K fd ps [.int e t]
  b2 : ∃ t u, Binds K fd ps [.int d t, .int e u]
  m : mg x = some (.ref f)
section
variable {P : Program} {w : World} {K : PySem.W.Frag} {mg : Str -> Option Value} {base : Heap} {x : Str} {st : Stmt} {ps : List Str} {f T : Addr} {fd : FuncData} {k : Nat} {sp : Sp} {d e : Int}
theorem Df2.ow (D : Df2 K mg x st ps f fd T d e) (F : FnOk P w K mg base CX0 k f fd ps sp) : Ow P w K mg base x ps k sp := ⟨f, fd, D.m, D.F.kp, D.b, F⟩
theorem Df2.owd1 (D : Df2 K mg x st ps f fd T d e) (F : FnOk P w K mg base CX0 k f fd ps sp) : Owd P w K mg base x ps [.int e] k sp := by
  obtain ⟨t, b⟩ := D.b1
  exact ⟨f, fd, [.int e t], D.m, D.F.kp, b, .cons ⟨_, rfl⟩ .nil, F⟩
theorem Df2.owd2 (D : Df2 K mg x st ps f fd T d e) (F : FnOk P w K mg base CX0 k f fd ps sp) : Owd P w K mg base x ps [.int d, .int e] k sp := by
  obtain ⟨t, u, b⟩ := D.b2
  exact ⟨f, fd, [.int d t, .int e u], D.m, D.F.kp, b, .cons ⟨_, rfl⟩ (.cons ⟨_, rfl⟩ .nil), F⟩
end
end L2
namespace L2
open PySem PySem.Spec PyProof.Rows G
def z3S : Sp := fun vs H Q _ => ∃ w lo up m : Int, vs = [.int w, .int lo, .int up, .int m] /\ 0 <= w /\ w <= 64 /\ 0 <= m /\ Q (.int (Builtin.bitOr (Builtin.bitAnd lo (Builtin.bitNot (roomI w.toNat m))) up)) H
def z0Y (us cs : Rws) : Rws := List.zipWith layR us cs
theorem z3T {us cs : Rws} {j : Nat} {u c : List (Option Int)} (hu : us[j]? = some u) (hc : cs[j]? = some c) : (z0Y us cs)[j]? = some (layR u c) := by
  unfold z0Y
  rw [List.getElem?_zipWith, hu, hc]
theorem z3U {us cs : Rws} (h : us.length = cs.length) : (z0Y us cs).length = us.length := by
  unfold z0Y
  rw [List.length_zipWith, h, Nat.min_self]
def llR (w w2 h2 : Nat) (rows rows2 : Rws) (x y : Int) (j : Nat) : List (Option Int) := (List.range w).map fun (i : Nat) => (look w2 h2 rows2 ((i : Int) - x) ((j : Int) - y)).or (z2V rows i j)
theorem z8h {w h w2 h2 : Nat} {rows rows2 : Rws} (R : Rect w h rows) (R2 : Rect w2 h2 rows2) (x y : Int) : (List.range h).map (llR w w2 h2 rows rows2 x y) = z0Y rows (cutRows rows2 (-x) (-y) w h) := by
  have hR := R.len
  refine List.ext_getElem? fun j => ?_
  by_cases hj : j < h
  . have hl : j < rows.length := by omega
    have hu : rows[j]? = some (rows[j]'hl) := List.getElem?_eq_getElem hl
    have hc : (cutRows rows2 (-x) (-y) w h)[j]? = some (z5o rows2 (-x) (-y + (j : Int)) w) := by
      unfold cutRows
      rw [List.getElem?_map, List.getElem?_range hj]
      rfl
    have hw := (R.row0 hl).1
    rw [z3T hu hc, List.getElem?_map, List.getElem?_range hj]
    show some (llR w w2 h2 rows rows2 x y j) = _
    congr 1
    refine List.ext_getElem? fun i => ?_
    by_cases hi : i < w
    . rw [z8a _ _ i (by rw [z37]; omega) (by omega)]
      unfold llR z5o
      rw [List.getElem?_map, List.getElem?_range hi, List.getElem?_map, List.getElem?_range hi]
      show some ((look w2 h2 rows2 ((i : Int) - x) ((j : Int) - y)).or (z2V rows i j)) = some ((Option.some (atR (rowAt rows2 (-y + (j : Int))) (-x + (i : Int)))).join.or _)
      have e1 : (i : Int) - x = -x + (i : Int) := by omega
      have e2 : (j : Int) - y = -y + (j : Int) := by omega
      rw [z2i R2, e1, e2]
      have e3 : z2V rows i j = ((rows[j]'hl)[i]?).join := by
        unfold z2V
        rw [hu]
        rfl
      rw [e3]
      rfl
    . rw [List.getElem?_eq_none (by unfold llR; rw [List.length_map, List.length_range]; omega), List.getElem?_eq_none (by rw [z8Z _ _ (by rw [z37]; omega)]; omega)]
  . rw [List.getElem?_eq_none (by rw [List.length_map, List.length_range]; omega), List.getElem?_eq_none (by rw [z3U (by rw [z1j]; omega)]; omega)]
def z8i : Sp := fun vs H Q _ => ∃ (p o : Addr) (x y : Int) (w h w2 h2 : Nat) (rows rows2 : Rws), vs = [.ref p, .ref o, .int x, .int y] /\ PicAt H p w rows /\ Rect w h rows /\ PicAt H o w2 rows2 /\ Rect w2 h2 rows2 /\
  ∀ q H', Same H H' -> PicAt H' q w (z0Y rows (cutRows rows2 (-x) (-y) w h)) -> Q (.ref q) H'
def pt (rows : Rws) (x y : Nat) : Prop := (z2V rows x y).isSome = true
theorem zDK {w h : Nat} {rows : Rws} (R : Rect w h rows) {x y : Nat} (p : pt rows x y) : x < w /\ y < h := by
  have hR := R.len
  unfold pt z2V at p
  cases hr : rows[y]? with
  | none =>
    rw [hr] at p
    have p' : ((([] : List (Option Int))[x]?).join).isSome = true := p
    cases x <;> cases p'
  | some r =>
    rw [hr] at p
    have hw := (R.row r (List.mem_of_getElem? hr)).1
    have hy := (List.getElem?_eq_some_iff.mp hr).1
    have hx := zCT (r := r) (i := x) p
    omega
structure Gone (w : Nat) (rows : Rws) (y x : Nat) (A D : List Int) : Prop where
  len : A.length = D.length
  small : A.length <= y * w + x
  a : ∀ z, z ∈ A ↔ ∃ x' y' : Nat, (y' < y \/ (y' = y /\ x' < x)) /\ pt rows x' y' /\ z = (x' : Int)
  d : ∀ z, z ∈ D ↔ ∃ x' y' : Nat, (y' < y \/ (y' = y /\ x' < x)) /\ pt rows x' y' /\ z = (y' : Int)
theorem Gone.row {w h : Nat} {rows : Rws} (R : Rect w h rows) {y : Nat} {A D : List Int} (g : Gone w rows y w A D) : Gone w rows (y + 1) 0 A D := by
  have key : ∀ x' y' : Nat, pt rows x' y' -> ((y' < y \/ (y' = y /\ x' < w)) ↔ (y' < y + 1 \/ (y' = y + 1 /\ x' < 0))) := fun x' y' p => by
    have := (zDK R p).1
    omega
  refine ⟨g.len, by have := g.small; rw [Nat.add_mul]; omega, fun z => (g.a z).trans ⟨?_, ?_⟩, fun z => (g.d z).trans ⟨?_, ?_⟩⟩
  all_goals
    rintro ⟨x', y', h, p, e⟩
    exact ⟨x', y', by first | exact (key x' y' p).mp h | exact (key x' y' p).mpr h, p, e⟩
end L2
namespace L2
open PySem PySem.Spec PyProof.Rows G
def z8j (K : PySem.W.Frag) : Sp := fun vs H Q _ => ∃ (a : Addr) (ns : List Int) (k : Int), vs = [.ref a, .int k] /\ SqL K H a (ns.map V.int) /\ 0 <= k /\ k < 100000 /\ ∀ c, Cell c -> Q (z0S c) H
def z8k : Sp := fun vs H Q _ => ∃ (p d : Addr) (w h : Nat) (rows : Rws), vs = [.ref p, .ref d] /\ PicAt H p w rows /\ PicAt H d w rows /\ Rect w h rows /\ ∀ H', Same H H' -> Q (.bl true) H'
abbrev Bx := Int × Int × Int × Int
def bxV (b : Bx) : List V := [.int b.1, .int b.2.1, .int b.2.2.1, .int b.2.2.2]
def zE8 (b : Bx) (i j : Int) : Bool := (decide (b.1 <= i) && decide (i < b.1 + b.2.2.1)) && (decide (b.2.1 <= j) && decide (j < b.2.1 + b.2.2.2))
def zE9 (w h : Nat) (dx dy : Int) (i j : Int) : Bool := !(decide (0 <= i + dx) && decide (i + dx < w)) || !(decide (0 <= j + dy) && decide (j + dy < h))
def zEA (w h : Nat) (b : Bx) : Prop := 1 <= b.2.2.1 /\ 1 <= b.2.2.2 /\ 0 <= b.1 /\ 0 <= b.2.1 /\ b.1 + b.2.2.1 <= w /\ b.2.1 + b.2.2.2 <= h
structure FreshOk (w h : Nat) (dx dy : Int) (bs : List Bx) : Prop where
  len : bs.length <= 2
  box : ∀ b ∈ bs, zEA w h b
  cnt : ∀ i j : Nat, i < w -> j < h -> bs.countP (fun b => zE8 b i j) = if zE9 w h dx dy i j = true then 1 else 0
structure BxsAt (H : Hp) (l : Addr) (ts : List Addr) (bs : List Bx) : Prop where
  lst : H l = some (.lst (ts.map V.ref))
  len : ts.length = bs.length
  at' : ∀ (i : Nat) t b, ts[i]? = some t -> bs[i]? = some b -> H t = some (.tup (bxV b))
def z53 (z : Str) (lo hi : Option Int) : Str := ⟨((z.cps.toList.drop (HT.sIx z.length 0 lo)).take (HT.sIx z.length z.length hi - HT.sIx z.length 0 lo)).toArray⟩
theorem z8l (n : Nat) (v : Option Int) (d : Nat) : (match v with
    | none => (d : Int)
    | some i => max 0 (min (if i < 0 then i + (n : Int) else i) (n : Int))) = ((HT.sIx n d v : Nat) : Int) := by
  cases v with
  | none => rfl
  | some i =>
    simp only [HT.sIx]
    by_cases h : i < 0
    . simp only [h, if_true] <;> omega
    . simp only [h, if_false] <;> omega
theorem zAo (lo hi : Option Int) (n : Nat) : Builtin.Str.strSliceIndices lo hi 1 n = (List.range (HT.sIx n n hi - HT.sIx n 0 lo)).map (HT.sIx n 0 lo + ·) := by
  have h1 := z8l n lo 0
  have h2 := z8l n hi n
  unfold Builtin.Str.strSliceIndices
  simp only [show (1 : Int) > 0 by decide, if_true]
  rw [<- sliceRange_one]
  congr 1
theorem z4M (z : Str) (lo hi : Option Int) : (z53 z lo hi).length <= z.length := by
  show ((z.cps.toList.drop (HT.sIx z.length 0 lo)).take (HT.sIx z.length z.length hi - HT.sIx z.length 0 lo)).toArray.size <= z.cps.size
  rw [List.size_toArray, List.length_take, List.length_drop, Array.length_toList]
  omega
def zEB : V -> Option Int -> Option Int -> Hp -> VK -> Prop := fun x lo hi H Q => ∃ z, x = .str z /\ z.length <= sizeLine /\ Q (.str (z53 z lo hi)) H
section
variable {X : Cx}
theorem part_of : ∀ {v : Value} {o : Option Int}, IsPart v o -> ∃ p : Option (Int × Tok), v = partValue p /\ p.map (·.1) = o
  | _, _, .none => ⟨none, rfl, rfl⟩
  | _, _, .int i t => ⟨some (i, t), rfl, rfl⟩
theorem zAp : SlR X zEB := by
  intro pins s σ H x v vl vu lo hi sl Q I rx hs pl pu h
  obtain ⟨z, rfl, hz, q⟩ := h
  obtain ⟨t, rfl⟩ := rx
  obtain ⟨l, rfl, rfl⟩ := part_of pl
  obtain ⟨u, rfl, rfl⟩ := part_of pu
  refine ⟨"str", _, F.slot_str_getitem.lookup, typeIs_str _ z t, ?_⟩
  refine wpAny_getItem_str_slice (l := l) (u := u) (st := none) hs rfl ?_
  have e : (slicePicked z l u none).filterMap (z.cps[·]?) = (z.cps.toList.drop (HT.sIx z.length 0 (l.map (·.1)))).take (HT.sIx z.length z.length (u.map (·.1)) - HT.sIx z.length 0 (l.map (·.1))) := by
    unfold slicePicked
    rw [show ((none : Option (Int × Tok)).map (·.1)).getD 1 = 1 from rfl, zAo, pick_run]
  unfold sliceMade
  by_cases c : (((none : Option (Int × Tok)).map (·.1)).getD 1 == 1 && (slicePicked z l u none).length == z.length) = true
  . rw [if_pos c]
    have hl : (slicePicked z l u none).length = z.length := by
      have := (Bool.and_eq_true _ _).mp c
      exact beq_iff_eq.mp this.2
    have e2 : z53 z (l.map (·.1)) (u.map (·.1)) = z := by
      have hl2 : HT.sIx z.length z.length (u.map (·.1)) - HT.sIx z.length 0 (l.map (·.1)) = z.length := by
        unfold slicePicked at hl
        rw [show ((none : Option (Int × Tok)).map (·.1)).getD 1 = 1 from rfl, zAo, List.length_map, List.length_range] at hl
        exact hl
      have hle := HT.sIx_le z.length z.length (Nat.le_refl _) (u.map (·.1))
      have h0 : HT.sIx z.length 0 (l.map (·.1)) = 0 \/ z.length = 0 := by omega
      unfold z53
      rw [hl2]
      have hd : z.cps.toList.drop (HT.sIx z.length 0 (l.map (·.1))) = z.cps.toList := by
        rcases h0 with h0 | h0
        . rw [h0, List.drop_zero]
        . have hnil : z.cps.toList = [] := List.eq_nil_of_length_eq_zero (by rw [Array.length_toList]; exact h0)
          rw [hnil, List.drop_nil]
      rw [hd, show z.length = z.cps.toList.length from (Array.length_toList).symm, List.take_length]
    exact ⟨.str z, H, I, ⟨t, rfl⟩, by rw [e2] at q; exact q⟩
  . rw [if_neg c, e]
    exact ⟨Nat.le_trans (z4M z _ _) hz, .str (z53 z _ _), H, I.tok _, ⟨_, rfl⟩, q⟩
theorem z4N : ∀ {zs : List Str} {us : List Value}, Vals (zs.map V.str) us -> ∃ l : List (Str × Tok), us = strValues l /\ l.map (·.1) = zs
  | [], _, .nil => ⟨[], rfl, rfl⟩
  | z :: zs, _, .cons r t => by
    obtain ⟨l, e1, e2⟩ := z4N t
    obtain ⟨k, rfl⟩ := r
    exact ⟨(z, k) :: l, by rw [e1]; rfl, by rw [List.map_cons, e2]⟩
def z4O (sep : Str) (zs : List Str) : Nat := (zs.map fun z => z.length + sep.length).sum
theorem z3v (sep : Str) : ∀ (zs : List Str) (n : Nat), zs.foldl (fun a z => a + z.length + sep.length) n = n + z4O sep zs
  | [], n => rfl
  | z :: zs, n => by
    rw [List.foldl_cons, z3v sep zs]
    show n + z.length + sep.length + z4O sep zs = n + (z.length + sep.length + z4O sep zs)
    omega
theorem z2E (a b : Str) : (a ++ b).length = a.length + b.length := by
  show (a.cps ++ b.cps).size = _
  rw [Array.size_append]
  rfl
theorem z6d (sep : Str) : ∀ zs : List Str, (Str.join sep zs).length <= z4O sep zs
  | [] => Nat.zero_le _
  | [z] => by
    show z.length <= z.length + sep.length + 0
    omega
  | z :: y :: zs => by
    have ih := z6d sep (y :: zs)
    show (z ++ sep ++ Str.join sep (y :: zs)).length <= z.length + sep.length + z4O sep (y :: zs)
    rw [z2E, z2E]
    omega
theorem z6e {sep : Str} {m : Nat} : ∀ {zs : List Str}, (∀ z ∈ zs, z.length <= m) -> z4O sep zs <= zs.length * (m + sep.length)
  | [], _ => Nat.zero_le _
  | z :: zs, h => by
    have ih := z6e (sep := sep) (m := m) (zs := zs) fun y hy => h y (List.mem_cons_of_mem _ hy)
    have hz := h z List.mem_cons_self
    show z.length + sep.length + z4O sep zs <= (zs.length + 1) * (m + sep.length)
    rw [Nat.add_mul, Nat.one_mul]
    omega
def rJoin (K : PySem.W.Frag) : V -> List V -> Hp -> VK -> Prop := fun x vs H Q => ∃ (sep : Str) (a : Addr) (zs : List Str), x = .str sep /\ vs = [.ref a] /\ SqL K H a (zs.map V.str) /\ z4O sep zs <= sizeLine /\ Q (.str (Str.join sep zs)) H
theorem zBW : MtR X "str.join" (rJoin X.K) := by
  intro pins s σ H x vs v us Q I rx rv h
  obtain ⟨sep, a, zs, rfl, rfl, hS, hz, q⟩ := h
  obtain ⟨t, rfl⟩ := rx
  obtain ⟨u, rfl, ru⟩ := vals1 rv
  cases ru
  obtain ⟨its, r, pl, _⟩ := I.list hS
  obtain ⟨l, rfl, e⟩ := z4N r
  have hl : Builtin.Str.tooLong ((l.map (·.1)).toArray.foldl (· + ·.length + sep.length) 0) = false := by
    rw [e, List.foldl_toArray, z3v]
    unfold Builtin.Str.tooLong
    exact decide_eq_false (by omega)
  refine call_meets F.slot_str_join (typeIs_str _ sep t) F.entry_str_join (F.args_str_join_2 _ _) (meets_str_join_list sep t a l hl) ⟨pl.isList, ?_⟩
  have fin : ∀ tk, EP X pins σ Q (.str (Str.join sep zs) tk) { s with toks := s.toks + 1 } := fun tk => ⟨.str _, H, I.tok _, ⟨_, rfl⟩, q⟩
  unfold joinMade
  split
  . rename_i p
    have ez : zs = [p.1] := by rw [<- e]; rfl
    have q' : Q (.str p.1) H := by rw [ez] at q; exact q
    exact ⟨.str p.1, H, I, ⟨p.2, rfl⟩, q'⟩
  . rw [e, PySem.StrLaws.glued_eq_join]
    exact ⟨Nat.le_trans (z6d sep zs) hz, fin _⟩
end
end L2
namespace L2
open PySem PySem.Spec PyProof.Rows G
def z1b (ns : List Int) (k p m : Int) : Int := if ns.length = 0 then 0 else (ns.getD (k % (ns.length : Int)).toNat 0 + k * k) * 48271 % p % m
theorem z0X {ns : List Int} {k p m : Int} (h : 0 < m) : 0 <= z1b ns k p m /\ z1b ns k p m < m := by
  unfold z1b
  split
  . exact ⟨Int.le_refl _, h⟩
  . exact ⟨Int.emod_nonneg _ (by omega), Int.emod_lt_of_pos _ h⟩
def z1k (K : PySem.W.Frag) : Sp := fun vs H Q _ => ∃ (a : Addr) (ns : List Int) (k p m : Int), vs = [.ref a, .int k, .int p, .int m] /\ SqL K H a (ns.map V.int) /\ 0 <= k /\ k < 1000000 /\ 0 < p /\ 0 < m /\ Q (.int (z1b ns k p m)) H
theorem z9v {ns : List Int} (h : 0 < ns.length) (k : Int) : atI (ns.map V.int) (k % ((ns.map V.int).length : Int)) = some (.int (ns.getD (k % (ns.length : Int)).toNat 0)) := by
  have e : ((ns.map V.int).length : Int) = (ns.length : Int) := by rw [List.length_map]
  rw [e]
  have h1 := Int.emod_nonneg k (show (ns.length : Int) ≠ 0 by omega)
  have h2 := Int.emod_lt_of_pos k (show (0 : Int) < ns.length by omega)
  have e2 : k % (ns.length : Int) = (((k % (ns.length : Int)).toNat : Nat) : Int) := by omega
  have hj : (k % (ns.length : Int)).toNat < ns.length := by omega
  have e3 : ns.getD (k % (ns.length : Int)).toNat 0 = ns[(k % (ns.length : Int)).toNat] := by rw [List.getD_eq_getElem?_getD, List.getElem?_eq_getElem hj]; rfl
  rw [e3]
  conv => lhs; rw [e2]
  exact z0d (by rw [List.getElem?_map, List.getElem?_eq_getElem hj]; rfl)
def sgnL : List Nat := ((List.range 95).map fun c => c + 32).filter fun c => decide (c ≠ 37)
theorem z2W : sgnL.length = 94 := by decide +kernel
theorem zBX : sgnL.Nodup := by decide +kernel
def one (c : Nat) : Str := ⟨#[c]⟩
theorem one_inj {a b : Nat} (h : one a = one b) : a = b := by
  have := congrArg (fun z : Str => z.cps[0]?) h
  simpa [one] using this
theorem zBY (c : Nat) : (one c).length = 1 := rfl
def z2O (n : Int) : Nat := sgnL.getD (n % 94).toNat 0
def sgn (n : Int) : Str := one (z2O n)
theorem zCV (n : Int) : atI sgnL (n % 94) = some (z2O n) := by
  have h1 := Int.emod_nonneg n (show (94 : Int) ≠ 0 by decide)
  have h2 := Int.emod_lt_of_pos n (show (0 : Int) < 94 by decide)
  have e2 : n % 94 = (((n % 94).toNat : Nat) : Int) := by omega
  have hj : (n % 94).toNat < sgnL.length := by rw [z2W]; omega
  unfold z2O
  rw [List.getD_eq_getElem?_getD, List.getElem?_eq_getElem hj]
  conv => lhs; rw [e2]
  exact z0d (List.getElem?_eq_getElem hj)
theorem z6f {a b : Int} (h : z2O a = z2O b) : a % 94 = b % 94 := by
  have ha1 := Int.emod_nonneg a (show (94 : Int) ≠ 0 by decide)
  have ha2 := Int.emod_lt_of_pos a (show (0 : Int) < 94 by decide)
  have hb1 := Int.emod_nonneg b (show (94 : Int) ≠ 0 by decide)
  have hb2 := Int.emod_lt_of_pos b (show (0 : Int) < 94 by decide)
  have hj : (a % 94).toNat < sgnL.length := by rw [z2W]; omega
  have hk : (b % 94).toNat < sgnL.length := by rw [z2W]; omega
  unfold z2O at h
  rw [List.getD_eq_getElem?_getD, List.getD_eq_getElem?_getD, List.getElem?_eq_getElem hj, List.getElem?_eq_getElem hk] at h
  have := (List.getElem_inj zBX).mp h
  omega
def z8m : Sp := fun vs H Q _ => ∃ n : Int, vs = [.int n] /\ Q (.str (sgn n)) H
structure Sg where
  c : Nat
  w : Nat
  rows : Rws
def SgAt (hg : Nat) (H : Hp) (t : Addr) (S : Sg) : Prop := ∃ rl ps, H t = some (.tup [.str (one S.c), .ref rl]) /\ RowsAt H rl ps S.rows /\ Rect S.w hg S.rows
def PrAt (hg : Nat) (H : Hp) (t : Addr) (S : Sg) : Prop := ∃ p, H t = some (.tup [.str (one S.c), .ref p]) /\ PicAt H p S.w S.rows /\ Rect S.w hg S.rows
theorem SgAt.mono {hg : Nat} {H H' : Hp} {t : Addr} {S : Sg} (s : Same H H') (h : SgAt hg H t S) : SgAt hg H' t S := let ⟨rl, ps, a, b, c⟩ := h; ⟨rl, ps, s _ _ a, b.mono s, c⟩
theorem PrAt.mono {hg : Nat} {H H' : Hp} {t : Addr} {S : Sg} (s : Same H H') (h : PrAt hg H t S) : PrAt hg H' t S := let ⟨p, a, b, c⟩ := h; ⟨p, s _ _ a, b.mono s, c⟩
structure ListS (R : Hp -> Addr -> Sg -> Prop) (H : Hp) (l : Addr) (ts : List Addr) (Ss : List Sg) : Prop where
  lst : H l = some (.lst (ts.map V.ref))
  len : ts.length = Ss.length
  at' : ∀ (i : Nat) t S, ts[i]? = some t -> Ss[i]? = some S -> R H t S
abbrev SgsAt (hg : Nat) := ListS (SgAt hg)
abbrev PrsAt (hg : Nat) := ListS (PrAt hg)
theorem SgsAt.mono {hg : Nat} {H H' : Hp} {l : Addr} {ts : List Addr} {Ss : List Sg} (s : Same H H') (h : SgsAt hg H l ts Ss) : SgsAt hg H' l ts Ss := ⟨s _ _ h.lst, h.len, fun i t S a b => (h.at' i t S a b).mono s⟩
theorem PrsAt.mono {hg : Nat} {H H' : Hp} {l : Addr} {ts : List Addr} {Ss : List Sg} (s : Same H H') (h : PrsAt hg H l ts Ss) : PrsAt hg H' l ts Ss := ⟨s _ _ h.lst, h.len, fun i t S a b => (h.at' i t S a b).mono s⟩
theorem ListS.get {R : Hp -> Addr -> Sg -> Prop} {H : Hp} {l : Addr} {ts : List Addr} {Ss : List Sg} (h : ListS R H l ts Ss) {i : Nat} (hi : i < Ss.length) : ∃ t, ts[i]? = some t /\ R H t (Ss[i]'hi) /\ atI (ts.map V.ref) ((i : Nat) : Int) = some (.ref t) := by
  have h1 : i < ts.length := by rw [h.len]; exact hi
  have e := List.getElem?_eq_getElem h1
  exact ⟨_, e, h.at' i _ _ e (List.getElem?_eq_getElem hi), z0d (by rw [List.getElem?_map, e]; rfl)⟩
theorem z9w {R : Hp -> Addr -> Sg -> Prop} {H H' : Hp} {ts : List Addr} {Ss : List Sg} {t : Addr} (mono : ∀ t S, R H t S -> R H' t S) (h : ∀ (j : Nat) t S, ts[j]? = some t -> Ss[j]? = some S -> R H t S) (hn : ∀ S, Ss[ts.length]? = some S -> R H' t S) :
    ∀ (j : Nat) u S, (ts ++ [t])[j]? = some u -> Ss[j]? = some S -> R H' u S := fun j u S e1 e2 => by
  by_cases hj : j < ts.length
  . rw [List.getElem?_append_left hj] at e1
    exact mono u S (h j u S e1 e2)
  . rw [List.getElem?_append_right (by omega)] at e1
    cases hk : j - ts.length with
    | zero =>
      rw [hk] at e1
      cases e1
      have ej : j = ts.length := by omega
      rw [ej] at e2
      exact hn S e2
    | succ n =>
      rw [hk] at e1
      cases e1
def z8n (K : PySem.W.Frag) : Sp := fun vs H Q _ => ∃ (a : Addr) (ns : List Int) (k m h : Int), vs = [.ref a, .int k, .int m, .int h] /\ SqL K H a (ns.map V.int) /\ 0 <= k /\ k < 1000 /\ 1 <= m /\ m <= 60 /\ 1 <= h /\ h <= 64 /\
  ∀ l ts Ss H', Same H H' -> H l = none -> SgsAt h.toNat H' l ts Ss -> Ss.length = m.toNat -> (∀ (i : Nat) S, Ss[i]? = some S -> S.c = z2O (z1b ns k 10039 94 + 37 * i)) -> Q (.ref l) H'
def z8o : Sp := fun vs H Q _ => ∃ (l : Addr) (ts : List Addr) (Ss : List Sg) (hg : Nat), vs = [.ref l] /\ SgsAt hg H l ts Ss /\ Ss.length <= 60 /\ ∀ m us H', Same H H' -> H m = none -> PrsAt hg H' m us Ss -> Q (.ref m) H'
def known (Ss : List Sg) (c : Nat) : Bool := Ss.any fun S => decide (S.c = c)
def TextOf (Ss : List Sg) (z : Str) : Prop := ∀ c ∈ z.cps.toList, known Ss c = true
def zAq (K : PySem.W.Frag) : Sp := fun vs H Q _ => ∃ (a l : Addr) (ns : List Int) (k n : Int) (ts : List Addr) (Ss : List Sg) (hg : Nat), vs = [.ref a, .int k, .ref l, .int n] /\ SqL K H a (ns.map V.int) /\ SgsAt hg H l ts Ss /\ 1 <= Ss.length /\ 0 <= k /\ k < 10000 /\ 0 <= n /\ n <= 1000 /\
  ∀ z H', Same H H' -> z.length = n.toNat -> TextOf Ss z -> Q (.str z) H'
theorem z4P : ∀ zs : List Str, (Str.join Str.empty zs).cps.toList = (zs.map fun z => z.cps.toList).flatten
  | [] => rfl
  | [z] => by simp [Str.join]
  | z :: y :: zs => by
    have ih := z4P (y :: zs)
    show ((z ++ Str.empty ++ Str.join Str.empty (y :: zs)).cps).toList = _
    have e : (z ++ Str.empty ++ Str.join Str.empty (y :: zs)).cps = z.cps ++ #[] ++ (Str.join Str.empty (y :: zs)).cps := rfl
    rw [e, Array.append_empty, Array.toList_append, ih]
    rfl
theorem join_ones (cs : List Nat) : Str.join Str.empty (cs.map one) = ⟨cs.toArray⟩ := by
  have h := z4P (cs.map one)
  have e : ((cs.map one).map fun z => z.cps.toList).flatten = cs := by
    rw [List.map_map]
    have : (fun z : Str => z.cps.toList) ∘ one = fun c => [c] := rfl
    rw [this]
    induction cs with
    | nil => rfl
    | cons c cs ih => rw [List.map_cons, List.flatten_cons, ih (z4P _)]; rfl
  rw [e] at h
  cases hz : Str.join Str.empty (cs.map one) with
  | mk a =>
    rw [hz] at h
    have h' : a.toList = cs := h
    rw [<- h', Array.toArray_toList]
def SgAtX (l : Addr) (hg : Nat) (H : Hp) (t : Addr) (S : Sg) : Prop := ∃ rl ps, H t = some (.tup [.str (one S.c), .ref rl]) /\ RowsAt H rl ps S.rows /\ Rect S.w hg S.rows /\ rl ≠ l /\ ∀ p ∈ ps, p ≠ l
theorem SgAtX.mono {l : Addr} {hg : Nat} {H H' : Hp} {t : Addr} {S : Sg} (s : Same H H') (h : SgAtX l hg H t S) : SgAtX l hg H' t S := let ⟨rl, ps, a, b, c⟩ := h; ⟨rl, ps, s _ _ a, b.mono s, c⟩
theorem SgAtX.put {l : Addr} {hg : Nat} {H : Hp} {t : Addr} {S : Sg} {xs : List V} {o : HO} (hl : H l = some (.lst xs)) (h : SgAtX l hg H t S) : SgAtX l hg (upd H l o) t S :=
  let ⟨rl, ps, a, b, c, d, e⟩ := h; ⟨rl, ps, (z07 (z2P a hl fun z => nomatch z)).trans a, ⟨(z07 d).trans b.lst, b.len, fun i p r x y => (z07 (e p (List.mem_of_getElem? x))).trans (b.row i p r x y)⟩, c, d, e⟩
theorem SgAtX.at {l : Addr} {hg : Nat} {H : Hp} {t : Addr} {S : Sg} (h : SgAtX l hg H t S) : SgAt hg H t S := let ⟨rl, ps, a, b, c, _⟩ := h; ⟨rl, ps, a, b, c⟩
theorem z8p {R : Hp -> Addr -> Sg -> Prop} {H H' : Hp} {ts : List Addr} {Ss : List Sg} {t : Addr} {S : Sg} (hl : ts.length = Ss.length) (mono : ∀ t S, R H t S -> R H' t S) (h : ∀ (j : Nat) t S, ts[j]? = some t -> Ss[j]? = some S -> R H t S) (hn : R H' t S) :
    ∀ (j : Nat) u T, (ts ++ [t])[j]? = some u -> (Ss ++ [S])[j]? = some T -> R H' u T := fun j u T e1 e2 => by
  by_cases hj : j < ts.length
  . rw [List.getElem?_append_left hj] at e1
    rw [List.getElem?_append_left (by omega)] at e2
    exact mono u T (h j u T e1 e2)
  . rw [List.getElem?_append_right (by omega)] at e1 e2
    cases hk : j - ts.length with
    | zero =>
      rw [hk] at e1
      rw [<- hl, hk] at e2
      cases e1
      cases e2
      exact hn
    | succ n =>
      rw [hk] at e1
      cases e1
theorem z9x {Ss : List Sg} {S : Sg} {f : Nat -> Nat} (h : ∀ (i : Nat) S, Ss[i]? = some S -> S.c = f i) (hn : S.c = f Ss.length) : ∀ (i : Nat) T, (Ss ++ [S])[i]? = some T -> T.c = f i := fun i T e => by
  by_cases hj : i < Ss.length
  . rw [List.getElem?_append_left hj] at e
    exact h i T e
  . rw [List.getElem?_append_right (by omega)] at e
    cases hk : i - Ss.length with
    | zero =>
      rw [hk] at e
      cases e
      have : i = Ss.length := by omega
      rw [this]
      exact hn
    | succ n =>
      rw [hk] at e
      cases e
theorem z8q {Ss : List Sg} {S : Sg} (h : S ∈ Ss) : known Ss S.c = true := List.any_eq_true.mpr ⟨S, h, decide_eq_true rfl⟩
section
variable {X : Cx}
end
section
variable {X : Cx} {pins : List (Addr × Obj)} {σ : St} {H : Hp} {s : Shared}
theorem Inv.adopt {a : Addr} {o : HO} {h' : Heap} {tk : Nat} (I : Inv X pins σ H s) (F : z7j X pins H a) (k : ∀ b u, b ≠ a -> s.heap.get? b = some u -> h'.get? b = some u) (ha : ∃ u, h'.get? a = some u) (new : ObjOk X.prog X.w (upd H a o) h' a o) :
    Inv X pins σ (upd H a o) { s with heap := h', toks := tk } := by
  obtain ⟨f0, f1, f2, f3, f4, f5⟩ := F
  have nH : ∀ {b : Addr} {u : HO}, H b = some u -> b ≠ a := fun e => z08 e f0
  have nch : ∀ {b : Addr}, b ∉ [a] -> b ≠ a := fun h z => h (by simp [z])
  refine I.step (g' := s.gens) (d' := s.drawn) (t' := tk) (ch := [a]) (fun b hb => ?_) (fun b u _ _ c e _ => k b u (nch c) e) (fun b u _ _ c e _ => ⟨u.slots, k b u (nch c) e⟩) (fun b u c _ n => by rw [z07 (nch c)]; exact n) (fun b u c e => ⟨u, k b u (nch c) e⟩)
    (fun b xs e => by rw [z07 (nH e)]; exact e) (fun b u xs e => by rw [z07 (nH e)]; exact e) (fun b ps e => ⟨#[], by rw [z07 (nH e), e]; simp⟩) (fun m hm => ?_) (fun b u e => ?_) I.bare
  . have e : b = a := by simpa using hb
    subst e
    exact ⟨f3, f1, f4, f5⟩
  . obtain ⟨u, es, ep, ho, r⟩ := hm
    exact ⟨u, es, ep, k _ u (Ne.symm f1) ho, r⟩
  . by_cases z : b = a
    . subst z
      rw [upd_same] at e
      cases e
      exact new
    . rw [z07 z] at e
      refine (I.hok b u e).stay (fun c v hc q => k c v ?_ q) (fun c q => by rw [z07 (nH q)]; exact q) fun c xs q => by rw [z07 (nH q)]; exact q
      rcases hc with rfl | hc
      . exact z
      . exact nH hc
end
structure Fly (P : Program) (w : World) (st : List Env) (H H' : Hp) (B : Heap) (a C t : Addr) (h h' : Heap) : Prop where
  un : Un (frs st) [] H H' h h'
  keep : ∀ b o, h.get? b = some o -> H b = none -> b ∉ frs st -> B.get? b = some o
  thr : ∀ b o, h.get? b = some o -> b ∉ frs st -> ∃ o', B.get? b = some o'
  hok : HOk P w H' B
  fl : Heap.FlyingW B st a (.ref C) (.ref t) h'
def CX1 (P : Program) (w : World) : CXT := fun st H s E e s' => ∃ (a t C : Addr) (B : Heap) (H' : Hp), e = .ref a /\ s'.os = s.os /\ AllBare s'.gens /\ Fly P w st H H' B a C t s.heap s'.heap /\ E (.ref C) none H'
section
variable {X : Cx} {pins : List (Addr × Obj)} {σ : St} {H H' : Hp} {s : Shared}
theorem nin {b : Addr} : b ∉ ([] : List Addr) := fun h => nomatch h
theorem z4Q {env : Env} {outer : List Env} {L : Addr} (hf : env.frame = some L) : frs (env :: outer) = L :: frs outer := by
  unfold frs
  rw [List.filterMap_cons, hf]
theorem Fly.leave {B : Heap} {a C t : Addr} {h1 h' : Heap} (I : Inv X pins σ H s) (hst : X.stack = X.env :: X.outer) (hf : X.env.frame = some X.env.locals) (hex : X.ex = []) (F : Fly X.prog X.w X.stack H H' B a C t s.heap h1)
    (fl : Heap.FlyingW B X.outer a (.ref C) (.ref t) h') (sm : h1.UpToSlots h') : Fly X.prog X.w X.outer X.H₀ H' B a C t X.s₀.heap h' := by
  have hS : frs X.stack = X.env.locals :: frs X.outer := by rw [hst]; exact z4Q hf
  have hx : ∀ b, b ∉ X.ex := fun b => by rw [hex]; exact nin
  have ne : ∀ b o, X.s₀.heap.get? b = some o -> b ≠ X.env.locals := fun b o e => Nat.ne_of_lt (Nat.lt_of_lt_of_le (Heap.lt_size e) I.ok.above)
  have out : ∀ b o, X.s₀.heap.get? b = some o -> b ∉ frs X.outer -> b ∉ frs X.stack := fun b o e n hb => by
    rw [hS] at hb
    rcases List.mem_cons.mp hb with z | z
    . exact ne b o e z
    . exact n z
  have inn : ∀ b, b ∈ frs X.outer -> b ∈ frs X.stack := fun b hb => by rw [hS]; exact List.mem_cons_of_mem _ hb
  have kB : ∀ b o, X.s₀.heap.get? b = some o -> X.H₀ b = none -> b ∉ frs X.outer -> B.get? b = some o := fun b o e n nb =>
    F.keep b o (I.base.keep b o e n nb (hx b)) (I.base.free b o e n (hx b)) (out b o e nb)
  have tB : ∀ b o, X.s₀.heap.get? b = some o -> b ∉ frs X.outer -> ∃ o', B.get? b = some o' := fun b o e nb => by
    obtain ⟨o', e'⟩ := I.base.there b o e (hx b)
    exact F.thr b o' e' (out b o e nb)
  have sl : ∀ b o, X.s₀.heap.get? b = some o -> X.H₀ b = none -> b ∈ frs X.outer -> ∃ sl, h'.get? b = some { o with slots := sl } := fun b o e n hb => by
    obtain ⟨s1, e1⟩ := I.base.slot b o e n hb (hx b)
    obtain ⟨s2, e2⟩ := F.un.slot b _ e1 (I.base.free b o e n (hx b)) (inn b hb) nin
    obtain ⟨_, o', ho', hd⟩ := I.ok.funs.mem hb
    rw [e] at ho'
    cases ho'
    obtain ⟨s3, e3⟩ := sm b _ e2 hd
    exact ⟨s3, e3⟩
  refine ⟨⟨fun b o e n nb _ => fl.1 b o (kB b o e n nb), fun b o e n hb _ => sl b o e n hb, fun b o e n _ => ?_, fun b o e _ => ?_, fun b xs e => F.un.tups b xs (I.base.tups b xs e), fun b o u e => F.un.frzs b o u (I.base.frzs b o u e), fun b ps e => ?_⟩, kB, tB, F.hok, fl⟩
  . obtain ⟨s1, e1⟩ := I.base.any e n (hx b)
    exact F.un.free b _ e1 (I.base.free b o e n (hx b)) nin
  . by_cases hb : b ∈ frs X.outer
    . obtain ⟨s1, e1⟩ := sl b o e (I.ok.frf b hb) hb
      exact ⟨_, e1⟩
    . obtain ⟨o', e'⟩ := tB b o e hb
      exact ⟨o', fl.1 b o' e'⟩
  . obtain ⟨m1, e1⟩ := I.base.tbls b ps e
    obtain ⟨m2, e2⟩ := F.un.tbls b _ e1
    exact ⟨m1 ++ m2, by rw [e2, Array.append_assoc]⟩
theorem Fly.first {e C t : Addr} {vs : List Value} {h1 h' : Heap} (I : Inv X pins σ H s) (hst : X.stack = X.env :: X.outer) (hf : X.env.frame = some X.env.locals) (hex : X.ex = []) (hx : Heap.MadeExcOf s.heap h1 e (.ref C) vs)
    (fl : Heap.FlyingW (PySem.W.hideAll s.heap (frs X.stack)) X.outer e (.ref C) (.ref t) h') (sm : h1.UpToSlots h') : Fly X.prog X.w X.outer X.H₀ H (PySem.W.hideAll s.heap (frs X.stack)) e C t X.s₀.heap h' := by
  have hS : frs X.stack = X.env.locals :: frs X.outer := by rw [hst]; exact z4Q hf
  have hxx : ∀ b, b ∉ X.ex := fun b => by rw [hex]; exact nin
  have ne : ∀ b o, X.s₀.heap.get? b = some o -> b ≠ X.env.locals := fun b o e => Nat.ne_of_lt (Nat.lt_of_lt_of_le (Heap.lt_size e) I.ok.above)
  have out : ∀ b o, X.s₀.heap.get? b = some o -> b ∉ frs X.outer -> b ∉ frs X.stack := fun b o e n hb => by
    rw [hS] at hb
    rcases List.mem_cons.mp hb with z | z
    . exact ne b o e z
    . exact n z
  have kB : ∀ b o, X.s₀.heap.get? b = some o -> X.H₀ b = none -> b ∉ frs X.outer -> (PySem.W.hideAll s.heap (frs X.stack)).get? b = some o := fun b o e n nb => PySem.W.hideAll_get _ (I.base.keep b o e n nb (hxx b)) (out b o e nb)
  have tB : ∀ b o, X.s₀.heap.get? b = some o -> b ∉ frs X.outer -> ∃ o', (PySem.W.hideAll s.heap (frs X.stack)).get? b = some o' := fun b o e nb => by
    obtain ⟨o', e'⟩ := I.base.there b o e (hxx b)
    exact ⟨o', PySem.W.hideAll_get _ e' (out b o e nb)⟩
  have sl : ∀ b o, X.s₀.heap.get? b = some o -> X.H₀ b = none -> b ∈ frs X.outer -> ∃ sl, h'.get? b = some { o with slots := sl } := fun b o e n hb => by
    obtain ⟨s1, e1⟩ := I.base.slot b o e n hb (hxx b)
    obtain ⟨_, o', ho', hd⟩ := I.ok.funs.mem hb
    rw [e] at ho'
    cases ho'
    obtain ⟨s3, e3⟩ := sm b _ (hx.keeps b _ e1) hd
    exact ⟨s3, e3⟩
  refine ⟨⟨fun b o e n nb _ => fl.1 b o (kB b o e n nb), fun b o e n hb _ => sl b o e n hb, fun b o e n _ => I.base.free b o e n (hxx b), fun b o e _ => ?_, fun b xs e => I.base.tups b xs e, fun b o u e => I.base.frzs b o u e, fun b ps e => I.base.tbls b ps e⟩, kB, tB, fun b u q => ?_, fl⟩
  . by_cases hb : b ∈ frs X.outer
    . obtain ⟨s1, e1⟩ := sl b o e (I.ok.frf b hb) hb
      exact ⟨_, e1⟩
    . obtain ⟨o', e'⟩ := tB b o e hb
      exact ⟨o', fl.1 b o' e'⟩
  . refine (I.hok b u q).stay (fun c v hc e => PySem.W.hideAll_get _ e fun hm => ?_) (fun _ z => z) fun _ _ z => z
    have n := I.stkFree c hm
    rcases hc with z | z
    . rw [z, q] at n
      cases n
    . rw [z] at n
      cases n
end
section
variable {P : Program} {w : World} {K : PySem.W.Frag} {mg : Str -> Option Value} {base : Heap} {N : List Str} {qual : Str} {scope : Scope} {f : Addr} {cd : Value} {A : Around} {outer : List Env} {s : Shared} {H : Hp} {E : XK}
end
abbrev z8r : List Value := [.type "ValueError", .type "Exception", .type "BaseException", .type "object"]
def zEC (K : PySem.W.Frag) (C : Addr) : Prop := PySem.W.excIn K C z8r "ValueError.__new__" = true
section
variable {X : Cx} {E : XK} {x : Str} {np cpos pos : Pos} {e : Expr} {es : List Expr} {t : TA} {C : Addr}
end
structure XC (K : PySem.W.Frag) (C : Addr) : Prop where
  cls : zEC K C
  ga : PySem.W.findIn K (.ref C) "__getattribute__" = some (some (.builtin "BaseException.__getattribute__"))
  gn : PySem.W.findIn K (.ref C) "__getattr__" = some none
  kc : PySem.W.findIn K (.ref C) "__class__" = some (some (.builtin "object.__class__"))
  kg : PySem.W.specialIn K (.builtin "object.__class__") "__get__" = some (some (.builtin "getset_descriptor.__get__"))
  kt : PySem.W.takesIn K (.builtin "object.__class__") = some true
  km : PySem.W.mroIn K C (.type "object") = some true
section
variable {prog : Program} {w : World} {A : Around} {E : Value -> Shared -> Prop} {s : Shared} {K : PySem.W.Frag} {x C : Addr} {ox : Obj}
theorem gaSlot : Slot "ValueError" "__getattribute__" "BaseException.__getattribute__" := F.attrBase_ValueError.ga
def ExcAt (x C : Addr) (h : Heap) : Prop := ∃ o, h.get? x = some o /\ o.cls = .ref C
theorem ExcAt.ty {M : Model} {h : Heap} (I : ExcAt x C h) : PySem.W.Looks M h (typeOf (.ref x)) (.ref C) := by
  obtain ⟨o, h1, h2⟩ := I
  have L : PySem.W.Looks M h (typeOf (.ref x)) o.cls := (PySem.W.Looks.ld h1).andThen .now
  rw [h2] at L
  exact L
end
section
variable {M : Model} {A : Around} {E : Value -> Shared -> Prop}
variable {nm q : Str} {C N : Addr} {bs bm : List Value} {hdct : Bool} {sn : List Str} {sub : List Value} {ab : Bool} {col : Option Bool} {dd : Option Addr} {k0 k1 k2 k3 k5 : Option Value} {newId : String}
variable {nm' q' : Str} {G N' : Addr} {bs' bm' : List Value} {hdct' : Bool} {sn' : List Str} {sub' : List Value} {ab' : Bool} {col' : Option Bool} {dd' : Option Addr} {k0' k1' k2' k3' k5' : Option Value} {newId' : String}
theorem z3e {h : Heap} {g : Array GenState} {d : Drawn} {t : Nat} {os : OsState} {e : Addr} {oe : Obj} {Q : Bool -> Shared -> Prop}
    (hC : h.get? C = some (excClassObj nm q C N bs bm hdct sn sub ab col dd k0 k1 k2 k3 k5 newId)) (hG : h.get? G = some (excClassObj nm' q' G N' bs' bm' hdct' sn' sub' ab' col' dd' k0' k1' k2' k3' k5' newId'))
    (he : h.get? e = some oe) (hcls : oe.cls = .ref C) (hbase : bm'.contains (.type "BaseException") = true) (hsub : (Value.ref C :: bm).contains (.ref G) = true)
    (hq : Q true ⟨h, g, d, t, os⟩) : wpAny M A (excMatches (.ref e) (.ref G)) Q E ⟨h, g, d, t, os⟩ := by
  have hcB : (Value.ref G :: bm').contains (.type "BaseException") = true := by rw [List.contains_cons, hbase, Bool.or_true]
  have f := tc_notTuple
  unfold excMatches
  repeat (first | (with_reducible refine wpAny_loadPart_at he ?_; rw [hcls]) | with_reducible refine wpAny_loadPart_at hG ?_ | (with_reducible refine wpAny_isSubtype_exc hG ?_; rw [hcB]) | (with_reducible refine wpAny_isSubtype_exc hC ?_; rw [hsub]) | wp_step)
  exact hq
end
section
variable {X : Cx} {pins : List (Addr × Obj)} {σ : St} {H : Hp} {s : Shared}
theorem z2X {M : Model} {A : Around} {E : Value -> Shared -> Prop} {i : Nat} {n : Str} {pos : Pos} {Q : Unit -> Shared -> Prop} (I : Inv X pins σ H s) (hN : X.N.Nodup) (hi : X.N[i]? = some n) (hk : X.env.scope.names.lookup n = some .local)
    (h : ∀ s', Inv X pins (σ.set i none) H s' -> Q () s') : wpAny M A (do bindName X.env n .none; unbindBehindTheSuite X.env n pos) Q E s := by
  obtain ⟨m, hn, hl⟩ := id I.loc
  have hcls : (X.env.scope.kind == .class || (X.env.scope.kind == .module && X.env.locals != X.env.globals)) = false := by rw [I.ok.kind]; rfl
  refine wpAny_nameGoes_keeps hk hn hcls fun h' v hn' hs => ?_
  obtain ⟨oL, _, _, hoL, _⟩ := id hn
  refine h _ ⟨I.ok, I.os, I.bare, ⟨fun b o e n' hb hx => ?_, fun b o e n' hb hx => ?_, I.base.free, fun b o e hx => ?_, I.base.tups, I.base.frzs, I.base.tbls⟩, ⟨_, hn', fun j y v' e1 e2 e3 => ?_⟩, fun y c e => ?_, I.free, I.freeC, fun p hp => ?_, fun b ob e => ?_, by simpa using I.len⟩
  . exact (hs.2 b (Nat.ne_of_lt (Nat.lt_of_lt_of_le (Heap.lt_size e) I.ok.above))).trans (I.base.keep b o e n' hb hx)
  . obtain ⟨sl, e1⟩ := I.base.slot b o e n' hb hx
    exact ⟨sl, (hs.2 b (Nat.ne_of_lt (Nat.lt_of_lt_of_le (Heap.lt_size e) I.ok.above))).trans e1⟩
  . obtain ⟨o', e1⟩ := I.base.there b o e hx
    exact ⟨o', (hs.2 b (Nat.ne_of_lt (Nat.lt_of_lt_of_le (Heap.lt_size e) I.ok.above))).trans e1⟩
  . have hj : j ≠ i := fun z => by
      rw [z] at e2
      have hiσ : i < σ.length := by rw [I.len]; exact (List.getElem?_eq_some_iff.mp hi).1
      rw [List.getElem?_set_self hiσ] at e2
      cases e2
    rw [List.getElem?_set_ne (Ne.symm hj)] at e2
    obtain ⟨u', r', q⟩ := hl j y v' e1 e2 e3
    refine ⟨u', r', ?_⟩
    rcases q with ⟨k, e⟩ | ⟨k, c, e, o, ho, hd⟩
    . refine .inl ⟨k, ?_⟩
      have : y ≠ n := fun e => hj (z44 hN e1 (e ▸ hi))
      simp [this, e]
    . exact .inr ⟨k, c, e, o, (hs.2 c (I.cne y c e)).trans ho, hd⟩
  . obtain ⟨v', o, ho, hd⟩ := I.cell y c e
    exact ⟨v', o, (hs.2 c (I.cne y c e)).trans ho, hd⟩
  . obtain ⟨e1, n1, ne, nf, d⟩ := I.pin p hp
    exact ⟨(hs.2 p.1 ne).trans e1, n1, ne, nf, d⟩
  . refine (I.hok b ob e).stay (fun c w' hc q => (hs.2 c ?_).trans q) (fun _ q => q) fun _ _ q => q
    rintro rfl
    have hfree := I.free
    rcases hc with z | z
    . rw [<- z, hfree] at e; cases e
    . rw [hfree] at z; cases z
end
theorem Fly.on {P : Program} {w : World} {st : List Env} {H H' : Hp} {B : Heap} {a C t : Addr} {h h1 h2 : Heap} (F : Fly P w st H H' B a C t h h1) (fl : Heap.FlyingW B st a (.ref C) (.ref t) h2) (sm : h1.UpToSlots h2) : Fly P w st H H' B a C t h h2 := by
  have sl : ∀ b o, h.get? b = some o -> H b = none -> b ∈ frs st -> ∃ sl, h2.get? b = some { o with slots := sl } := fun b o e n hb => by
    obtain ⟨s1, e1⟩ := F.un.slot b o e n hb nin
    obtain ⟨_, o', ho', hd⟩ := F.fl.2.2.1.mem hb
    rw [e1] at ho'
    cases ho'
    obtain ⟨s2, e2⟩ := sm b _ e1 hd
    exact ⟨s2, e2⟩
  refine ⟨⟨fun b o e n nb _ => fl.1 b o (F.keep b o e n nb), fun b o e n hb _ => sl b o e n hb, F.un.free, fun b o e _ => ?_, F.un.tups, F.un.frzs, F.un.tbls⟩, F.keep, F.thr, F.hok, fl⟩
  by_cases hb : b ∈ frs st
  . obtain ⟨o', e'⟩ := F.un.there b o e nin
    obtain ⟨_, o2, ho2, hd⟩ := F.fl.2.2.1.mem hb
    obtain ⟨s2, e2⟩ := sm b _ ho2 hd
    exact ⟨_, e2⟩
  . obtain ⟨o', e'⟩ := F.thr b o e hb
    exact ⟨o', fl.1 b o' e'⟩
theorem Fly.free {P : Program} {w : World} {st : List Env} {H H' : Hp} {B : Heap} {a C t : Addr} {h h1 : Heap} (F : Fly P w st H H' B a C t h h1) : H' a = none := by
  cases q : H' a with
  | none => rfl
  | some u =>
    have x := F.hok a u q
    have n : B.get? a = none := F.fl.2.1
    exfalso
    have some_of : ∃ o, B.get? a = some o := by
      clear q
      induction u with
      | lst xs => obtain ⟨_, _, _, _, e⟩ := x; exact ⟨_, e⟩
      | tup xs => obtain ⟨_, _, _, o, e, _⟩ := x; exact ⟨_, e⟩
      | dK kvs => obtain ⟨_, _, _, _, o, _, _, e, _⟩ := x; exact ⟨_, e⟩
      | dT kvs => obtain ⟨_, _, _, _, o, _, _, e, _⟩ := x; exact ⟨_, e⟩
      | set S n => obtain ⟨o, _, _, _, e, _⟩ := x; exact ⟨_, e⟩
      | ins C dx fs => obtain ⟨_, _, _, e, _⟩ := x; exact ⟨_, e⟩
      | own y => exact x
      | xd fs => obtain ⟨_, ⟨_, _, _, e, _⟩, _⟩ := x; exact ⟨_, e⟩
      | rng lo hi => obtain ⟨_, _, _, e⟩ := x; exact ⟨_, e⟩
      | frz ob u ih => obtain ⟨e, _⟩ := x; exact ⟨_, e⟩
      | tbl ps => exact ⟨_, (show B.get? a = some _ from x)⟩
      | met f y => exact ⟨_, (show B.get? a = some _ from x)⟩
      | ext φ => obtain ⟨_, ⟨_, e⟩, _⟩ := x; exact ⟨_, e⟩
    obtain ⟨o, e⟩ := some_of
    rw [n] at e
    cases e
section
variable {X : Cx} {pins : List (Addr × Obj)} {σ : St} {H : Hp} {s : Shared} {a : Addr} {oe : Obj}
def zDL : V -> Option Value
  | .ref a => some (.ref a)
  | .ty n => some (.type n)
  | _ => none
theorem zBZ {y : V} {u v : Value} (h : zDL y = some u) (r : RelV y v) : v = u := by
  cases y with
  | ref a => cases h; exact r
  | ty n => cases h; exact r
  | _ => cases h
end
section
variable {X : Cx} {k : Nat} {fa G : Addr} {fd : FuncData} {ps : List Str} {sp : Sp} {dvs : List V} {ds : List Value} {x gn n : Str} {p cp ep gp hp tp : Pos} {e : Expr} {es : List Expr} {t : TA} {b₀ : Stmt} {suite : List Stmt} {i : Nat} {th : Addr -> Addr -> TS}
end
structure Owx (P : Program) (w : World) (K : PySem.W.Frag) (mg : Str -> Option Value) (base : Heap) (x : Str) (ps : List Str) (k : Nat) (sp : Sp) : Prop where
  ex : ∃ (f : Addr) (fd : FuncData), mg x = some (.ref f) /\ PySem.W.keepIn K (.ref f) = true /\ Binds K fd ps [] /\ FnOk P w K mg base (CX1 P w) k f fd ps sp
structure Ec (K : PySem.W.Frag) (mg : Str -> Option Value) (x : Str) (C : Addr) : Prop where
  m : mg x = some (.ref C)
  c : XC K C
section
variable {X : Cx} {k j : Nat} {ps : List Str} {sp : Sp} {x gn n : Str} {G : Addr} {p pos cp ep gp hp tp : Pos} {e : Expr} {es : List Expr} {t : TA} {E : XK} {b₀ : Stmt} {suite : List Stmt} {i : Nat} {th : Addr -> Addr -> TS}
end
section
variable {prog : Program} {w : World} {A : Around} {E : Value -> Shared -> Prop} {h : Heap} {g : Array GenState} {d : Drawn} {t : Nat} {os : OsState}
variable {nm q : Str} {C N : Addr} {bs bm bmB : List Value} {hdct : Bool} {sn : List Str} {sub : List Value} {ab : Bool} {col : Option Bool} {dd : Option Addr} {k0 k1 k2 k3 k5 : Option Value} {B newId initId : String}
abbrev z8s (C t : Addr) : Obj := { cls := .ref C, data := .fields #[.ref t, .none, .none, .none, .bool false, .none] }
end
inductive VeTail : List Value -> Prop
  | base : VeTail z8r
  | step {c : Addr} {r : List Value} : VeTail r -> VeTail (.ref c :: r)
theorem VeTail.passes (self : Value) {l : List Value} (t : VeTail l) : refuseLoop self "__setattr__" l = pure () := by
  induction t with
  | base => exact PySem.F.store_ValueError.passes self
  | step _ ih => rw [refuseLoop_ref]; exact ih
structure XE (K : PySem.W.Frag) (C : Addr) : Prop where
  ex : ∃ (dd : Option Addr) (cd : ClassData) (k0 k1 k2 k3 k5 : Option Value) (bm : List Value), K.lookup C = some ⟨.type "type", dd, .cls cd, #[k0, k1, k2, k3, some (.builtin "ValueError.__new__"), k5]⟩ /\ cd.mro = .ref C :: bm /\ cd.hasDel = false /\ cd.hasDict = true /\
    VeTail bm /\ PySem.W.tailIn K z8r bm = true /\ PySem.W.nsOkIn K cd.ns = true
  ga : PySem.W.findIn K (.ref C) "__getattribute__" = some (some (.builtin "BaseException.__getattribute__"))
  gn : PySem.W.findIn K (.ref C) "__getattr__" = some none
  sa : PySem.W.findIn K (.ref C) "__setattr__" = some (some (.builtin "object.__setattr__"))
  kc : PySem.W.findIn K (.ref C) "__class__" = some (some (.builtin "object.__class__"))
  kg : PySem.W.specialIn K (.builtin "object.__class__") "__get__" = some (some (.builtin "getset_descriptor.__get__"))
  kt : PySem.W.takesIn K (.builtin "object.__class__") = some true
  km : PySem.W.mroIn K C (.type "object") = some true
section
variable {K : PySem.W.Frag} {C : Addr}
theorem XE.obj {h : Heap} (X : K.In h) (Z : XE K C) : ∃ bm N nm qn bs sn sub ab col dd k0 k1 k2 k3 k5 mN, h.get? C = some (excClassObj nm qn C N bs bm true sn sub ab col dd k0 k1 k2 k3 k5 "ValueError.__new__") /\ h.Ns N mN /\ OwnTail h z8r bm /\ VeTail bm /\
    ∃ cd, PySem.W.clsIn K C = some cd /\ cd.mro = .ref C :: bm /\ cd.hasDict = true /\ cd.ns = N /\ ∃ d0 sl0, K.lookup C = some ⟨.type "type", d0, .cls cd, sl0⟩ := by
  obtain ⟨dd, cd, k0, k1, k2, k3, k5, bm, lk, hm, hdel, hdct, vt, ht, hok⟩ := Z.ex
  have hcls : PySem.W.clsIn K C = some cd := by unfold PySem.W.clsIn; rw [lk]
  have lk' := lk
  obtain ⟨nm, bs, mro, ns, qn, hd, sn, sub, ab, col, del⟩ := cd
  dsimp only at hm hdel hok hdct
  subst hm hdel hdct
  exact ⟨bm, ns, nm, qn, bs, sn, sub, ab, col, dd, k0, k1, k2, k3, k5, _, X _ _ lk, (.of_isNs (PySem.W.isNs_of_in X hok)), PySem.W.tail_of_in X ht, vt, _, hcls, rfl, rfl, rfl, _, _, lk'⟩
end
section
variable {prog : Program} {w : World} {A : Around} {E : Value -> Shared -> Prop} {s : Shared} {K : PySem.W.Frag} {x C : Addr}
theorem z7E {R : Result -> Shared -> Prop} (X : K.In s.heap) (Z : XE K C) (I : ExcAt x C s.heap) (h : R (.ok (.ret (.ref C))) s) :
    codeAny (model prog w) A (.call (.builtin "getset_descriptor.__get__") ⟨[.builtin "object.__class__", .ref x, .ref C], []⟩) R s := by
  obtain ⟨hh, g, d, t, os⟩ := s
  obtain ⟨bm, N, nm, qn, bs, sn, sub, ab, col, dd, k0, k1, k2, k3, k5, mN, hC, hN, T, _⟩ := XE.obj X Z
  obtain ⟨ox, hx, hc⟩ := I
  have ow : ".".intercalate ("object.__class__".cutAt '.').dropLast = "object" := by decide +kernel
  have hcO : (Value.ref C :: bm).contains (.type (".".intercalate ("object.__class__".cutAt '.').dropLast)) = true := by
    rw [ow, List.contains_cons, T.hasType (X := "object") (b := true) (by decide +kernel)]
    rfl
  have hT5 : (⟨hh, g, d, t, os⟩ : Shared).TypeIs (.builtin "object.__class__") "getset_descriptor" := F.typeOf_object_class
  refine codeAny_call_builtin F.slot_gs_get.plain F.entry_gs_get
    (F.slot_gs_get.check _ _ _ _ _ _ _ _ hT5 (F.args_gs_get _ _ _) ?_)
  repeat (any_goals (first
    | assumption
    | (with_reducible refine wpAny_loadPart_at hx ?_; rw [hc])
    | (with_reducible refine wpAny_isSubtype_exc hC ?_; rw [hcO])
    | wp_step))
  refine ⟨Code.quiet_builtin _ (by decide +kernel), codeAny_builtin F.entry_object_class ?_⟩
  repeat (any_goals (first
    | assumption
    | (with_reducible refine wpAny_loadPart_at hx ?_; rw [hc])
    | wp_step))
theorem z7F {Q : Option Value -> Shared -> Prop} (X : K.In s.heap) (Z : XE K C) (I : ExcAt x C s.heap) (h : Q (some (.ref C)) { s with toks := s.toks + 1 }) : wpAny (model prog w) A (getAttr? (.ref x) "__class__") Q E s := by
  obtain ⟨hh, g, d, t, os⟩ := s
  obtain ⟨bm, N, nm, qn, bs, sn, sub, ab, col, dd, k0, k1, k2, k3, k5, mN, hC, hN, T, _⟩ := XE.obj X Z
  have L0 := I.ty (M := model prog w)
  have L1 := PySem.W.looks_findIn (M := model prog w) X Z.ga
  have L2' := PySem.W.looks_findIn (M := model prog w) X Z.gn
  have L4 := PySem.W.looks_findIn (M := model prog w) X Z.kc
  have hk : builtinKind "BaseException.__getattribute__" = some .slot := by decide +kernel
  have hsplit : splitId "BaseException.__getattribute__" = some ("BaseException", "__getattribute__") := by decide +kernel
  have hcB : (Value.ref C :: bm).contains (.type "BaseException") = true := by
    rw [List.contains_cons, T.hasType (X := "BaseException") (b := true) (by decide +kernel)]
    rfl
  obtain ⟨ox, hx, hc⟩ := id I
  have ha := F.args_bexc_ga (.ref x) (.str "__class__" t)
  have hT5 : (⟨hh, g, d, t + 1, os⟩ : Shared).TypeIs (.builtin "object.__class__") "getset_descriptor" := F.typeOf_object_class
  have f5 := F.typeOf_object_class
  have f6 := F.slot_gs_get.lookup
  have f7 := F.slot_gs_set.lookup
  unfold getAttr? getAttrBy? getAttrBy
  refine wpAny_bind (wpAny_mkText (wpAny_bind ?_))
  refine wpAny_attempt (wpAny_holding (wpAny_bind ?_))
  refine L0.at (wpAny_bind (L1.at ?_))
  show wpAny _ _ (getAttrByItsOwn _ _ _ _ _ _) _ _ _
  unfold getAttrByItsOwn
  show wpAny _ _ (typeLookup (.ref C) "__getattr__" >>= _) _ _ _
  refine wpAny_bind (L2'.at ?_)
  refine wpAny_bind (wpAny_attempt (wpAny_holding ?_))
  show wpAny _ _ (boundAndCalled (.builtin "BaseException.__getattribute__") (.ref x) _) _ _ _
  unfold boundAndCalled
  refine wpAny_bind (wpAny_of_eq (gaSlot.bind _) ?_)
  refine wpAny_call (codeAny_call_builtin gaSlot.plain F.entry_bexc_ga ?_)
  simp only [checkBuiltinCall, hk, hsplit]
  refine wpAny_bind ?_
  unfold isInstance
  repeat (first
    | (with_reducible refine wpAny_loadPart_at hx ?_; rw [hc])
    | (with_reducible refine wpAny_isSubtype_exc hC ?_; rw [hcB])
    | wp_step)
  refine L4.at ?_
  repeat (any_goals (first | assumption | wp_step))
  refine z7E (s := ⟨hh, g, d, t + 1, os⟩) X Z I ?_
  repeat (any_goals (first | assumption | wp_step))
theorem z9y (Z : XE K C) : PySem.W.KitX K (.ref x) (.ref C) (ExcAt x C) where
  ty := fun _ _ _ I => I.ty
  it := fun M h X _ => by
    obtain ⟨_, _, _, _, _, _, _, _, _, _, _, _, _, _, _, _, _, _, _, _, cd0, _, _, _, _, d0, sl0, ho⟩ := XE.obj X Z
    intro A' Q' E' s' k q
    unfold isType loadHead
    exact wpAny_bind (wpAny_loadPart (k _ _ (X _ _ ho)) (wpAny_pure q))
  ne := fun h tp dd its n sl X htp => by
    obtain ⟨_, _, _, _, _, _, _, _, _, _, _, _, _, _, _, _, _, _, _, _, cd0, _, _, _, _, d0, sl0, ho⟩ := XE.obj X Z
    refine Bool.eq_false_iff.mpr fun q => ?_
    have e : C = tp := Value.ref.inj (beq_iff_eq.mp q)
    subst e
    have z := (X _ _ ho).symm.trans htp
    simp at z
  ca := fun X I k => z7F X Z I k
theorem z9z {name : Str} {v : Value} {expr : Bool} {Q : Value -> Shared -> Prop} {mA : Str -> Option Value} (X : K.In s.heap) (Z : XE K C) (hn : PySem.W.findIn K (.ref C) name = some none) (I : s.heap.Inst x C mA) (hv : mA name = some v) (hh : handedOut v = pure v)
    (h : Q v { s with toks := s.toks + 1 }) : wpAny (model prog w) A (getAttr (.ref x) name expr) Q E s := by
  obtain ⟨hh', g, d, t, os⟩ := s
  obtain ⟨bm, N, nm, qn, bs, sn, sub, ab, col, dd, k0, k1, k2, k3, k5, mN, hC, hN, T, _⟩ := XE.obj X Z
  obtain ⟨ox, hx, hc, hnc, hd⟩ := id I
  have L0 := ExcAt.ty (M := model prog w) ⟨ox, hx, hc⟩
  have L1 := PySem.W.looks_findIn (M := model prog w) X Z.ga
  have L2' := PySem.W.looks_findIn (M := model prog w) X Z.gn
  have L4 := PySem.W.looks_findIn (M := model prog w) X hn
  have hk : builtinKind "BaseException.__getattribute__" = some .slot := by decide +kernel
  have hsplit : splitId "BaseException.__getattribute__" = some ("BaseException", "__getattribute__") := by decide +kernel
  have hcB : (Value.ref C :: bm).contains (.type "BaseException") = true := by
    rw [List.contains_cons, T.hasType (X := "BaseException") (b := true) (by decide +kernel)]
    rfl
  have ha := F.args_bexc_ga (.ref x) (.str name t)
  rcases hd with ⟨_, hmA⟩ | ⟨dx, hdx, hne, hns⟩
  . rw [hmA name] at hv; cases hv
  unfold getAttr getAttrBy
  refine wpAny_bind (wpAny_mkText ?_)
  refine wpAny_holding (wpAny_bind ?_)
  refine L0.at (wpAny_bind (L1.at ?_))
  show wpAny _ _ (getAttrByItsOwn _ _ _ _ _ _) _ _ _
  unfold getAttrByItsOwn
  show wpAny _ _ (typeLookup (.ref C) "__getattr__" >>= _) _ _ _
  refine wpAny_bind (L2'.at ?_)
  refine wpAny_bind (wpAny_attempt (wpAny_holding ?_))
  have e0 : callGetattribute (.ref x) (.str name t) (.builtin "BaseException.__getattribute__") expr = boundAndCalled (.builtin "BaseException.__getattribute__") (.ref x) (.str name t) := by
    unfold callGetattribute
    rw [if_neg (by cases expr <;> simp [onTheHeap])]
  rw [e0]
  unfold boundAndCalled
  refine wpAny_bind (wpAny_of_eq (gaSlot.bind _) ?_)
  refine wpAny_call (codeAny_call_builtin gaSlot.plain F.entry_bexc_ga ?_)
  simp only [checkBuiltinCall, hk, hsplit]
  refine wpAny_bind ?_
  unfold isInstance
  repeat (first
    | (with_reducible refine wpAny_loadPart_at hx ?_; rw [hc])
    | (with_reducible refine wpAny_isSubtype_exc hC ?_; rw [hcB])
    | wp_step)
  refine L4.at ?_
  refine wpAny_bind (wpAny_pure (wpAny_bind (wpAny_pure ?_)))
  show wpAny _ _ (Builtin.ObjectAttr.ownThenClass (Value.ref x) name none none) _ _ _
  unfold Builtin.ObjectAttr.ownThenClass
  refine wpAny_bind ?_
  show wpAny _ _ (Builtin.ObjectAttr.ownDict x >>= Builtin.ObjectAttr.inDict name) _ _ _
  unfold Builtin.ObjectAttr.ownDict loadHead
  refine wpAny_bind (wpAny_bind (wpAny_loadPart hx ?_))
  have key : ∀ {Q' : Option Addr -> Shared -> Prop} {E' : Value -> Shared -> Prop}, Q' (some dx) ⟨hh', g, d, t + 1, os⟩ -> wpAny (model prog w) A.in1 (match ox.data with
      | .cls c => pure (some c.ns)
      | _ => instanceDict x false) Q' E' ⟨hh', g, d, t + 1, os⟩ := fun {Q' E'} q => by
    split
    . rename_i c hcd
      exact absurd hcd (hnc c)
    . unfold instanceDict
      repeat (first | (with_reducible refine wpAny_loadPart_at hx ?_; rw [hc]) | with_reducible refine wpAny_loadPart_at hC ?_ | wp_step)
      rw [hdx]
      exact wpAny_pure q
  refine key ?_
  show wpAny _ _ (nsGet dx name) _ _ _
  refine wpAny_nsGet hns.ns ?_
  rw [hv]
  refine wpAny_bind (wpAny_rule (wpAny_pure ?_))
  refine wpAny_pure ?_
  show wpAny _ _ (handedOut v) _ _ _
  rw [hh]
  exact wpAny_pure h
end
section
variable {prog : Program} {w : World} {A : Around} {E : Value -> Shared -> Prop} {s : Shared} {K : PySem.W.Frag} {x C : Addr}
theorem z54 {name : Str} {v : Value} {Q : Unit -> Shared -> Prop} {mA : Str -> Option Value} {ns : List Str} (X : K.In s.heap) (Z : XE K C) (hn : PySem.W.findIn K (.ref C) name = some none) (I : s.heap.Inst x C mA)
    (hq : ∀ h' tk', h'.Inst x C (fun y => if y = name then some v else mA y) ->
      (∀ b o, b ≠ x -> (∀ o₀ dx, s.heap.get? x = some o₀ -> o₀.dict = some dx -> b ≠ dx) -> s.heap.get? b = some o -> h'.get? b = some o) ->
      (∀ o₀, s.heap.get? x = some o₀ -> ∃ o₁, h'.get? x = some o₁ /\ o₁.cls = o₀.cls /\ o₁.data = o₀.data /\ o₁.slots = o₀.slots /\ (∀ dx, o₀.dict = some dx -> o₁.dict = some dx) /\ (o₀.dict = none -> o₁.dict = some s.heap.objs.size)) -> Q () { s with heap := h', toks := tk' }) (hw : Within mA ns) (hsz : ns.length <= 1000) :
    wpAny (model prog w) A (setAttr (.ref x) name v) Q E s := by
  obtain ⟨h, g, d, t, os⟩ := s
  obtain ⟨bm, N, nm, qn, bs, sn, sub, ab, col, dd, k0, k1, k2, k3, k5, mN, hC, hN, T, vt, cd, hcd, hmro, hdct, _⟩ := XE.obj X Z
  obtain ⟨o, hx, hc, hnc, hd⟩ := I
  have SF := PySem.F.store_ValueError
  have L0 := ExcAt.ty (M := model prog w) (x := x) (C := C) (h := h) ⟨o, hx, hc⟩
  have Ls := PySem.W.looks_findIn (M := model prog w) X Z.sa
  have Ln := PySem.W.looks_findIn (M := model prog w) X hn
  have f3 := SF.slot.bind (.ref x)
  unfold setAttr
  refine wpAny_bind (wpAny_mkText (wpAny_bind ?_))
  unfold callSpecial? specialOf
  refine wpAny_bind (wpAny_bind (L0.at (Ls.at ?_)))
  refine wpAny_holding ?_
  rw [f3]
  refine wpAny_bind (wpAny_pure ?_)
  refine wpAny_bind (wpAny_call ?_)
  have sub : PySem.W.Looks (model prog w) h (isInstance (.ref x) (.type "object")) true := L0.andThen (PySem.W.looks_mroIn X Z.km)
  refine codeAny_call_builtin SF.slot.plain SF.entry (@PySem.W.check_slot (model prog w) _ _ ⟨h, g, d, t + 1, os⟩ "object.__setattr__" "object" "__setattr__" (.ref x) [.str name t, v] [] _ SF.kind SF.split sub (SF.args (.ref x) (.str name t) v) ?_)
  show wpAny _ _ (Builtin.«object.__setattr__» ⟨[.ref x, .str name t, v], []⟩) _ _ _
  rw [PySem.W.osa_eq, refuse_eq]
  have hm : PySem.W.Looks (model prog w) h (mroOf (.ref C)) cd.mro := (PySem.W.looks_clsIn X hcd).andThen .now
  refine wpAny_bind (wpAny_bind (L0.at (wpAny_bind (hm.at ?_))))
  rw [hmro, (VeTail.step vt).passes]
  refine wpAny_pure (wpAny_bind (L0.at (wpAny_bind (Ln.at (wpAny_bind (wpAny_pure ?_))))))
  show wpAny _ _ (Builtin.ObjectAttr.storeInOwnDict (.ref x) (.ref C) (.str name t) name v _) _ _ _
  unfold Builtin.ObjectAttr.storeInOwnDict
  refine wpAny_bind (wpAny_pure ?_)
  show wpAny _ _ (instanceDict x true >>= _) _ _ _
  unfold instanceDict
  rcases hd with ⟨hdn, hmA⟩ | ⟨dx, hdx, hne, hns⟩
  . repeat (first | (with_reducible refine wpAny_loadPart_at hx ?_; rw [hc]) | with_reducible refine wpAny_loadPart_at hC ?_ | wp_step)
    rw [hdn, if_neg (by simp [typeHasDict])]
    have mk : ∀ {Q' : Option Addr -> Shared -> Prop} {E' : Value -> Shared -> Prop}, wpAny (model prog w) A.in1 (do
        let d <- alloc { cls := Value.type "dict", data := Data.dict #[] }
        update x fun o => { cls := o.cls, dict := some d, data := o.data, slots := o.slots }
        dictMade (Value.ref C) x d) Q' E' ⟨h, g, d, t + 1, os⟩ -> wpAny (model prog w) A.in1 (match o.data with
      | .cls c => pure none
      | _ => do
        let d <- alloc { cls := Value.type "dict", data := Data.dict #[] }
        update x fun o => { cls := o.cls, dict := some d, data := o.data, slots := o.slots }
        dictMade (Value.ref C) x d) Q' E' ⟨h, g, d, t + 1, os⟩ := fun {Q' E'} q => by
      split
      . rename_i c hcd'
        exact absurd hcd' (hnc c)
      . exact q
    refine mk ?_
    have hx₁ : (h.push { cls := .type "dict", data := .dict #[] }).get? x = some o := Heap.get?_push_of_some _ hx
    have hxs : x ≠ h.objs.size := Nat.ne_of_lt (Heap.lt_size hx)
    refine wpAny_bind (wpAny_alloc' ?_)
    refine wpAny_bind (wpAny_update' hx₁ ?_)
    refine wpAny_pure ?_
    have gd : ((h.push { cls := .type "dict", data := .dict #[] }).update x fun o => { cls := o.cls, dict := some h.objs.size, data := o.data, slots := o.slots }).get? h.objs.size = some { cls := .type "dict", data := .dict #[] } :=
      (Heap.get?_update_ne _ _ _ _ hxs.symm).trans (Heap.get?_push_at rfl rfl)
    have nd : ((h.push { cls := .type "dict", data := .dict #[] }).update x fun o => { cls := o.cls, dict := some h.objs.size, data := o.data, slots := o.slots }).Ns h.objs.size (fun _ => none) := ⟨_, #[], _, gd, rfl, fun e he => absurd he (by simp), fun _ => rfl⟩
    show wpAny _ _ (Builtin.ObjectAttr.storeInDict h.objs.size (.str name t) name v) _ _ _
    unfold Builtin.ObjectAttr.storeInDict Builtin.ObjectAttr.newKeyGuard
    refine wpAny_bind (wpAny_pure (wpAny_bind (wpAny_nsSet1 (Heap.Ns1.of_empty nd) fun h' hn' hs => ?_)))
    obtain ⟨oD, esD, epD, hoD, hdD, hcD⟩ := hn'.count (Within.cons name v Within.nil)
    refine wpAny_bind (wpAny_lookBehind hoD (by rw [hdD]; exact pastItsLine_dict (Nat.le_trans hcD (by rw [List.length_cons, List.length_nil, sizeLine_eq]; omega))) ?_)
    refine wpAny_pure (wpAny_pure (wpAny_pure ?_))
    have hx' : h'.get? x = some { cls := o.cls, dict := some h.objs.size, data := o.data, slots := o.slots } := by
      refine (hs.2 x hxs).trans (Heap.get?_update_self _ hx₁ ?_)
      have hfr := (Heap.get?_some_iff.mp hx).2
      obtain ⟨oc, od, odt, osl⟩ := o
      cases odt <;> first | rfl | exact hfr
    refine hq h' _ ⟨_, hx', hc, hnc, .inr ⟨h.objs.size, rfl, hxs.symm, ?_⟩⟩ (fun b ob hbx _ hb => (hs.2 b (Nat.ne_of_lt (Heap.lt_size hb))).trans ((Heap.get?_update_ne _ _ _ _ hbx).trans (Heap.get?_push_of_some _ hb))) fun o₀ h₀ => ?_
    . obtain ⟨o', es, ep, e1, e2, e3, eu, e4⟩ := hn'
      exact ⟨o', es, ep, e1, e2, e3, eu, fun y => by rw [e4 y]; by_cases hy : y = name <;> simp [hy, hmA]⟩
    . obtain rfl : o = o₀ := Option.some.inj (hx.symm.trans h₀)
      exact ⟨_, hx', rfl, rfl, rfl, (fun dx e => by rw [hdn] at e; cases e), fun _ => rfl⟩
  . repeat (first | (with_reducible refine wpAny_loadPart_at hx ?_; rw [hc]) | with_reducible refine wpAny_loadPart_at hC ?_ | wp_step)
    rw [hdx]
    refine wpAny_pure ?_
    show wpAny _ _ (Builtin.ObjectAttr.storeInDict dx (.str name t) name v) _ _ _
    unfold Builtin.ObjectAttr.storeInDict Builtin.ObjectAttr.newKeyGuard
    refine wpAny_bind (wpAny_pure (wpAny_bind (wpAny_nsSet1 hns fun h' hn' hs => ?_)))
    obtain ⟨oD, esD, epD, hoD, hdD, hcD⟩ := hn'.count (Within.cons name v hw)
    refine wpAny_bind (wpAny_lookBehind hoD (by rw [hdD]; exact pastItsLine_dict (Nat.le_trans hcD (by rw [List.length_cons, sizeLine_eq]; omega))) ?_)
    refine wpAny_pure (wpAny_pure (wpAny_pure ?_))
    refine hq h' _ ⟨o, (hs.2 x hne.symm).trans hx, hc, hnc, .inr ⟨dx, hdx, hne, hn'⟩⟩ (fun b ob _ hbd hb => (hs.2 b (hbd o dx hx hdx)).trans hb) fun o₀ h₀ => ?_
    obtain rfl : o = o₀ := Option.some.inj (hx.symm.trans h₀)
    exact ⟨o, (hs.2 x hne.symm).trans h₀, rfl, rfl, rfl, fun _ e => e, fun e => by rw [hdx] at e; cases e⟩
end
def Vs0 (vs : Array Value) : Prop := (∃ t, vs[0]? = some (.ref t)) /\ vs[1]? = some .none
def ErrO (x C : Addr) (d : Option Addr) (h : Heap) : Prop := ∃ o vs, h.get? x = some o /\ o.cls = .ref C /\ o.data = .fields vs /\ Vs0 vs /\ o.dict = d
def z7G (x C : Addr) (d : Option Addr) (h : Heap) : Prop := ∃ o vs, h.get? x = some o /\ o.cls = .ref C /\ o.data = .fields vs /\ o.dict = d
theorem ErrO.t {x C : Addr} {d : Option Addr} {h : Heap} (I : ErrO x C d h) : z7G x C d h := let ⟨o, vs, a, b, c, _, e⟩ := I; ⟨o, vs, a, b, c, e⟩
theorem Vs0.pos {vs : Array Value} (h : Vs0 vs) : 0 < vs.size := let ⟨⟨_, e⟩, _⟩ := h; (Array.getElem?_eq_some_iff.mp e).1
theorem Vs0.put {vs : Array Value} (h : Vs0 vs) (t : Addr) : Vs0 (vs.setIfInBounds 0 (.ref t)) := ⟨⟨t, by simp [h.pos]⟩, by rw [Array.getElem?_setIfInBounds_ne (by decide)]; exact h.2⟩
section
variable {prog : Program} {w : World} {A : Around} {E : Value -> Shared -> Prop} {s : Shared} {K : PySem.W.Frag} {x C : Addr}
theorem z8t {rest : List Value} {d : Option Addr} {Q : Value -> Shared -> Prop} (X : K.In s.heap) (Z : XE K C) (I : ErrO x C d s.heap) (hz : rest.length <= sizeLine)
    (h : ∀ h' : Heap, (∀ b o, b ≠ x -> s.heap.get? b = some o -> h'.get? b = some o) -> ErrO x C d h' -> Q .none { s with heap := h' }) : wpAny (model prog w) A (call (.builtin "ValueError.__init__") (.ref x :: rest)) Q E s := by
  obtain ⟨hh, g, dr, t, os⟩ := s
  obtain ⟨bm, N, nm, qn, bs, sn, sub, ab, col, dd, k0, k1, k2, k3, k5, mN, hC, hN, T, _⟩ := XE.obj X Z
  obtain ⟨o, vs, hx, hc, hd, hv0', hdi⟩ := I
  have hvs := hv0'.pos
  have FB := F.excBase_ValueError
  refine wpAny_call (codeAny_call_builtin FB.init.plain FB.initEntry (wpAny_check_init_subU FB T hC hx hc ?_))
  show wpAny _ _ (newTuple rest >>= fun tp => Builtin.BaseException.bexcPut (.ref x) 0 tp >>= fun _ => ret .none) _ _ _
  refine wpAny_bind (wpAny_newTuple ?_ hz)
  have hx1 : (hh.push { cls := .type "tuple", data := .seq rest.toArray }).get? x = some o := Heap.get?_push_of_some _ hx
  refine wpAny_bind ?_
  unfold Builtin.BaseException.bexcPut
  obtain ⟨v0, hv0⟩ : ∃ v0, vs[0]? = some v0 := ⟨_, getElem?_pos vs 0 hvs⟩
  refine wpAny_bind (wpAny_field hx1 hd hv0 ?_)
  refine wpAny_bind (wpAny_setField hx1 hd hvs ?_)
  have hfr : (Obj.mapFields (·.setIfInBounds 0 (.ref hh.objs.size)) o).isFreed = false := by
    obtain ⟨oc, od, odt, osl⟩ := o
    cases (show odt = .fields vs from hd)
    rfl
  have hx2 : ((hh.push { cls := .type "tuple", data := .seq rest.toArray }).update x (Obj.mapFields (·.setIfInBounds 0 (.ref hh.objs.size)))).get? x = some (Obj.mapFields (·.setIfInBounds 0 (.ref hh.objs.size)) o) := Heap.get?_update_self _ hx1 hfr
  have fin : Q .none ⟨(hh.push { cls := .type "tuple", data := .seq rest.toArray }).update x (Obj.mapFields (·.setIfInBounds 0 (.ref hh.objs.size))), g, dr, t, os⟩ := by
    refine h _ (fun b ob hb e => (Heap.get?_update_ne _ _ _ _ hb).trans (Heap.get?_push_of_some _ e)) ⟨_, vs.setIfInBounds 0 (.ref hh.objs.size), hx2, ?_⟩
    obtain ⟨oc, od, odt, osl⟩ := o
    cases (show odt = .fields vs from hd)
    exact ⟨hc, rfl, hv0'.put _, hdi⟩
  cases v0 with
  | ref a => exact wpAny_letGo (wpAny_pure fin)
  | _ => exact wpAny_pure (wpAny_pure fin)
end
section
variable {prog : Program} {w : World} {A : Around} {E : Value -> Shared -> Prop} {s : Shared} {K : PySem.W.Frag} {C : Addr}
abbrev zA0 (h : Heap) (C : Addr) (rest : List Value) : Heap := (h.push { cls := .type "tuple", data := .seq rest.toArray }).push (z8s C h.objs.size)
theorem z3V {h : Heap} {rest : List Value} {b : Addr} {o : Obj} (e : h.get? b = some o) : (zA0 h C rest).get? b = some o := Heap.get?_push_of_some _ (Heap.get?_push_of_some _ e)
theorem z8u {h : Heap} {rest : List Value} : ErrO (h.objs.size + 1) C none (zA0 h C rest) := ⟨z8s C h.objs.size, _, by heap_get, rfl, rfl, ⟨⟨_, rfl⟩, rfl⟩, rfl⟩
theorem z6g {rest : List Value} {fI : Value} {Q : Value -> Shared -> Prop} (X : K.In s.heap) (Z : XE K C) (hi : PySem.W.findIn K (.ref C) "__init__" = some (some fI)) (hb : ∀ x : Addr, PySem.W.Looks (model prog w) (zA0 s.heap C rest) (bindSpecial fI (.ref x)) (fI, [.ref x])) (hz : rest.length <= sizeLine)
    (h : wpAny (model prog w) (A.under (.builtin "type.__call__" ⟨.ref C :: rest, []⟩)) (call fI (.ref (s.heap.objs.size + 1) :: rest)) (fun r s' => r = .none /\ Q (.ref (s.heap.objs.size + 1)) s') E { s with heap := zA0 s.heap C rest }) :
    wpAny (model prog w) A (call (.ref C) rest) Q E s := by
  obtain ⟨hh, g, dr, t, os⟩ := s
  obtain ⟨bm, N, nm, qn, bs, sn, sub, ab, col, dd, k0, k1, k2, k3, k5, mN, hC, hN, T, _⟩ := XE.obj X Z
  have FB := F.excBase_ValueError
  have f1 := tc_lookup
  have f2 := tc_bind (.ref C)
  have hT : (⟨hh, g, dr, t, os⟩ : Shared).TypeIs (.ref C) "type" := ⟨_, hC, rfl⟩
  have body : ∀ {Q' : PySem.Fin -> Shared -> Prop} {A' : Around}, wpAny (model prog w) A' (call fI (.ref (hh.objs.size + 1) :: rest)) (fun r s' => r = .none /\ Q' (.done (.ret (.ref (hh.objs.size + 1)))) s') E ⟨zA0 hh C rest, g, dr, t, os⟩ ->
      wpAny (model prog w) A' (Builtin.«type.__call__» ⟨.ref C :: rest, []⟩) Q' E ⟨hh, g, dr, t, os⟩ := by
    intro Q' A' hq
    repeat (first
      | with_reducible refine wpAny_loadPart_at hC ?_
      | with_reducible refine wpAny_madeBy_exc hC ?_
      | wp_step)
    refine codeAny_call_builtin_code (Code.quiet_builtin _ FB.quiet) (wpAny_check_new_subU FB FB.hasB T hC ?_)
    refine codeAny_exc_new_subU FB FB.hasB FB T hC ?_ hz
    show wpAny _ _ _ _ _ _
    have hC1 := z3V (C := C) (rest := rest) hC
    have X1 : K.In (zA0 hh C rest) := X.keeps fun b o e => z3V e
    have hX : (zA0 hh C rest).get? (hh.objs.size + 1) = some (z8s C hh.objs.size) := by heap_get
    have hcC : (Value.ref C :: bm).contains (.ref C) = true := by simp
    unfold isInstance
    repeat (first
      | with_reducible refine wpAny_loadPart_at hX ?_
      | (with_reducible refine wpAny_isSubtype_exc hC1 ?_; rw [hcC])
      | wp_step)
    show wpAny _ _ (typeLookup (.ref C) _) _ _ _
    refine (PySem.W.looks_findIn X1 hi).at ?_
    refine wpAny_holding (wpAny_bind ((hb (hh.objs.size + 1)).at ?_))
    refine wpAny_bind (wpAny_mono hq (fun r s' hr => ?_) fun _ _ z => z)
    obtain ⟨rfl, hQ⟩ := hr
    wp_walk
    exact hQ
  refine wpAny_call (codeAny_of_tree ?_)
  show wpAny _ _ (callAny (.ref C) _) _ _ _
  repeat (any_goals (first
    | assumption
    | with_reducible refine wpAny_loadPart_at hC ?_
    | wp_step))
  refine ⟨rfl, ?_⟩
  exact codeAny_call_builtin_at (Code.quiet_builtin _ (by decide +kernel)) entry_typeCall (wpAny_check_type_call_sub hC (body h))
end
def z3W (a : Addr) (fs : List (Str × V)) (h : Heap) : Prop := ∃ mA, h.Ns1 a mA /\ (∀ f, RelO (fs.lookup f) (mA f)) /\ PySem.Within mA (fs.map (·.1))
theorem z38 {prog : Program} {w : World} {H : Hp} {h : Heap} {x C : Addr} {d : Option Addr} (I : ErrO x C d h) : ObjOk prog w H h x (.ext (ErrO x C d)) :=
  ⟨I, (let ⟨o, _, e, _⟩ := I; ⟨o, e⟩), fun _ _ y k => let ⟨o, vs, e, r⟩ := y; ⟨o, vs, k o e, r⟩⟩
theorem z6h {prog : Program} {w : World} {H : Hp} {h : Heap} {a : Addr} {fs : List (Str × V)} (I : z3W a fs h) : ObjOk prog w H h a (.ext (z3W a fs)) :=
  ⟨I, (let ⟨_, ⟨o, _, _, e, _⟩, _⟩ := I; ⟨o, e⟩), fun _ _ y k => let ⟨mA, ⟨o, es, ep, e, r⟩, q⟩ := y; ⟨mA, ⟨o, es, ep, k o e, r⟩, q⟩⟩
theorem zA1 {prog : Program} {w : World} {H : Hp} {h : Heap} {x C : Addr} {d : Option Addr} (I : z7G x C d h) : ObjOk prog w H h x (.ext (z7G x C d)) :=
  ⟨I, (let ⟨o, _, e, _⟩ := I; ⟨o, e⟩), fun _ _ y k => let ⟨o, vs, e, r⟩ := y; ⟨o, vs, k o e, r⟩⟩
def zDM (H : Hp) (x C : Addr) (d : Option Addr) : Prop := H x = some (.ext (ErrO x C d)) \/ H x = some (.ext (z7G x C d))
def z55 (H : Hp) (x C : Addr) (fs : List (Str × V)) : Prop :=
  (fs = [] /\ zDM H x C none) \/ ∃ dx, dx ≠ x /\ zDM H x C (some dx) /\ H dx = some (.ext (z3W dx fs))
section
variable {X : Cx} {pins : List (Addr × Obj)} {σ : St} {H : Hp} {s : Shared}
theorem Inv.errO {x C : Addr} {d : Option Addr} (I : Inv X pins σ H s) (e : H x = some (.ext (ErrO x C d))) : ErrO x C d s.heap := (show ObjOk X.prog X.w H s.heap x (.ext (ErrO x C d)) from I.hok x _ e).1
theorem Inv.errT {x C : Addr} {d : Option Addr} (I : Inv X pins σ H s) (e : zDM H x C d) : z7G x C d s.heap := by
  rcases e with e | e
  . exact (I.errO e).t
  . exact (show ObjOk X.prog X.w H s.heap x (.ext (z7G x C d)) from I.hok x _ e).1
theorem Inv.errD {a : Addr} {fs : List (Str × V)} (I : Inv X pins σ H s) (e : H a = some (.ext (z3W a fs))) : z3W a fs s.heap := (show ObjOk X.prog X.w H s.heap a (.ext (z3W a fs)) from I.hok a _ e).1
theorem Inv.err {x C : Addr} {fs : List (Str × V)} (I : Inv X pins σ H s) (h : z55 H x C fs) : ∃ mA, s.heap.Inst x C mA /\ (∀ f, RelO (fs.lookup f) (mA f)) /\ PySem.Within mA (fs.map (·.1)) := by
  rcases h with ⟨rfl, h⟩ | ⟨dx, n, h1, h2⟩
  . obtain ⟨o, vs, e, c, d, hd⟩ := I.errT h
    exact ⟨fun _ => none, ⟨o, e, c, (fun z q => by rw [d] at q; cases q), .inl ⟨hd, fun _ => rfl⟩⟩, fun f => trivial, PySem.Within.nil⟩
  . obtain ⟨o, vs, e, c, d, hd⟩ := I.errT h1
    obtain ⟨mA, hn, r, hw⟩ := I.errD h2
    exact ⟨mA, ⟨o, e, c, (fun z q => by rw [d] at q; cases q), .inr ⟨dx, hd, n, hn⟩⟩, r, hw⟩
theorem Inv.excAt {x C : Addr} {fs : List (Str × V)} (I : Inv X pins σ H s) (h : z55 H x C fs) : ExcAt x C s.heap := by
  rcases h with ⟨rfl, h⟩ | ⟨dx, n, h, _⟩
  . obtain ⟨o, vs, e, c, _⟩ := I.errT h
    exact ⟨o, e, c⟩
  . obtain ⟨o, vs, e, c, _⟩ := I.errT h
    exact ⟨o, e, c⟩
theorem z8v : z2G X (.builtin "isinstance") (fun xs H Q => ∃ x C fs y u b, xs = [.ref x, y] /\ z55 H x C fs /\ XE X.K C /\ zDL y = some u /\ PySem.W.kitOne X.K (.ref C) u = some b /\ Q (.bl b) H) := by
  intro pins s σ H xs us Q I r h
  obtain ⟨x, C, fs, y, u, b, rfl, hx, Z, hy, e, q⟩ := h
  obtain ⟨v, w', rfl, rx, ry⟩ := vals2 r
  cases (show v = Value.ref x from rx)
  cases (zBZ hy ry)
  exact PySem.W.kia_one (z9y Z) I.kIn (I.excAt hx) e (fun z => nomatch z) fun tk => ⟨.bl b, H, I.tok tk, rfl, q⟩
def zCW (K : PySem.W.Frag) (te : TE) (f : Str) : TE := fun σ H Q => te σ H fun v H1 => ∃ x C fs z, v = .ref x /\ z55 H1 x C fs /\ XE K C /\ PySem.W.findIn K (.ref C) f = some none /\ fs.lookup f = some z /\ Q z H1
theorem zBa {e : Expr} {te : TE} {f : Str} {pos : Pos} (he : PE X e te) (hb : attributeBase e f X.env (eval e X.env) = eval e X.env) : PE X (.Attribute e f pos) (zCW X.K te f) := by
  intro pins s σ H Q I h
  refine z7x hb (thn (he pins s σ H _ I h) fun u s1 ⟨v, H1, I1, rv, x, C, fs, z, ev, hx, Z, hn, hz, q⟩ => ?_)
  subst ev
  obtain rfl : u = Value.ref x := rv
  obtain ⟨mA, hi, rl, _⟩ := I1.err hx
  have r := rl f
  rw [hz] at r
  cases hm : mA f with
  | none => rw [hm] at r; exact r.elim
  | some uz =>
    rw [hm] at r
    have r' : RelV z uz := r
    exact z9z I1.kIn Z hn hi hm (PySem.W.handedOut_of (z4f r')) ⟨z, H1, I1.tok _, r', q⟩
def zDN (K : PySem.W.Frag) (ta tv : TE) (f : Str) : TS := fun D σ H => tv σ H fun y H1 => ta σ H1 fun v H2 => ∃ x C, v = .ref x /\ H2 x = some (.ext (ErrO x C none)) /\ XE K C /\ PySem.W.findIn K (.ref C) f = some none /\
  ∀ d, H2 d = none -> d ≠ x -> D.nx σ (upd (upd H2 x (.ext (ErrO x C (some d)))) d (.ext (z3W d [(f, y)])))
theorem zBb {o value : Expr} {ta tv : TE} {f : Str} {pos pos' : Pos} (ha : PE X o ta) (hv : PE X value tv) (hs : swapsWith value (some (.Attribute o f pos')) pos.line X.env = pure false) : PS X (.Assign [.Attribute o f pos'] value pos) (zDN X.K ta tv f) := by
  intro pins s σ H D I h
  refine plainObj_wpAny_Assign_Attribute (thn (hv pins s σ H _ I h) fun u s1 ⟨y, H1, I1, ry, q⟩ => thn (ha pins s1 σ H1 _ I1 q) fun ov s2 ⟨v, H2, I2, rv, x, C, ev, hx, Z, hn, q2⟩ => ?_) hs
  subst ev
  obtain rfl : ov = Value.ref x := rv
  obtain ⟨mA, hi, rl, hw⟩ := I2.err (.inl ⟨rfl, .inl hx⟩ : z55 H2 x C [])
  have hmA : ∀ g, mA g = none := fun g => by
    have r := rl g
    cases hm : mA g with
    | none => rfl
    | some z => rw [hm] at r; exact r.elim
  refine z54 I2.kIn Z hn hi (fun h' tk' hi' hk hso => ?_) hw (by show 0 <= 1000; decide)
  obtain ⟨o0, vs, e0, c0, d0, hvs, hd0⟩ := I2.errO hx
  obtain ⟨o1, g1, g2, g3, _, _, g6⟩ := hso o0 e0
  have g6 := g6 hd0
  have hxlt : x < s2.heap.objs.size := Heap.lt_size e0
  have hdx : s2.heap.objs.size ≠ x := Nat.ne_of_gt hxlt
  have hfree : H2 s2.heap.objs.size = none := I2.hok.fresh (Nat.le_refl _)
  have keep : ∀ b u, b ≠ x -> s2.heap.get? b = some u -> h'.get? b = some u := fun b u hb e => hk b u hb (fun o₀ dx e1 e2 => by
    rw [e0] at e1
    cases e1
    rw [hd0] at e2
    cases e2) e
  have EO : ErrO x C (some s2.heap.objs.size) h' := ⟨o1, vs, g1, g2.trans c0, g3.trans d0, hvs, g6⟩
  have J1 : Inv X pins σ (upd H2 x (.ext (ErrO x C (some s2.heap.objs.size)))) { s2 with heap := h', toks := tk' } := I2.write (x := x) (e := x) (by rw [hx]; trivial) (.inl rfl) keep ⟨_, g1⟩ (z38 EO)
  have ED : z3W s2.heap.objs.size [(f, y)] h' := by
    obtain ⟨o2, k1, k2, _, k4⟩ := hi'
    rw [g1] at k1
    cases k1
    rcases k4 with ⟨z, _⟩ | ⟨dx, z1, z2, z3⟩
    . rw [g6] at z; cases z
    . rw [g6] at z1
      cases z1
      refine ⟨_, z3, fun g => ?_, ?_⟩
      . rw [List.lookup_cons]
        by_cases hg : g = f
        . subst hg
          simp only [beq_self_eq_true, if_true]
          exact ry
        . rw [beq_eq_false_iff_ne.mpr hg]
          simp only [hg, if_false, hmA]
          trivial
      . exact Within.cons f u (ns := []) (by
          have : mA = fun _ => none := funext hmA
          rw [this]
          exact Within.nil)
  have Fd := I2.fpOk (H' := upd H2 x (.ext (ErrO x C (some s2.heap.objs.size)))) (b := s2.heap.objs.size) (Nat.le_refl _) (by rw [z07 hdx]; exact hfree)
  have J2 := J1.adopt (h' := h') (tk := tk') (o := .ext (z3W s2.heap.objs.size [(f, y)])) Fd (fun _ _ _ e => e) (let ⟨_, ⟨o, _, _, e, _⟩, _⟩ := ED; ⟨o, e⟩) (z6h ED)
  exact ⟨σ, _, J2, q2 _ hfree hdx⟩
def zDO (K : PySem.W.Frag) (ta tv : TE) (f : Str) : TS := fun D σ H => tv σ H fun y H1 => ta σ H1 fun v H2 => ∃ x C dx fs, v = .ref x /\ dx ≠ x /\ H2 x = some (.ext (ErrO x C (some dx))) /\ H2 dx = some (.ext (z3W dx fs)) /\ fs.length <= 900 /\ XE K C /\ PySem.W.findIn K (.ref C) f = some none /\
  D.nx σ (upd H2 dx (.ext (z3W dx ((f, y) :: fs))))
theorem zBc {o value : Expr} {ta tv : TE} {f : Str} {pos pos' : Pos} (ha : PE X o ta) (hv : PE X value tv) (hs : swapsWith value (some (.Attribute o f pos')) pos.line X.env = pure false) : PS X (.Assign [.Attribute o f pos'] value pos) (zDO X.K ta tv f) := by
  intro pins s σ H D I h
  refine plainObj_wpAny_Assign_Attribute (thn (hv pins s σ H _ I h) fun u s1 ⟨y, H1, I1, ry, q⟩ => thn (ha pins s1 σ H1 _ I1 q) fun ov s2 ⟨v, H2, I2, rv, x, C, dx, fs, ev, hne, hx, hdx, hfs, Z, hn, q2⟩ => ?_) hs
  subst ev
  obtain rfl : ov = Value.ref x := rv
  obtain ⟨o0, vs, e0, c0, d0, hvs, hd0⟩ := I2.errO hx
  obtain ⟨mA, hns, rl, hw⟩ := I2.errD hdx
  have hi : s2.heap.Inst x C mA := ⟨o0, e0, c0, (fun z q => by rw [d0] at q; cases q), .inr ⟨dx, hd0, hne, hns⟩⟩
  refine z54 I2.kIn Z hn hi (fun h' tk' hi' hk hso => ?_) hw (by rw [List.length_map]; omega)
  obtain ⟨o1, g1, g2, g3, g4, g5, _⟩ := hso o0 e0
  have g5' := g5 dx hd0
  have hx1 : h'.get? x = some o0 := by
    obtain ⟨c1, d1, da1, sl1⟩ := o1
    obtain ⟨c2, d2, da2, sl2⟩ := o0
    have q2' : c1 = c2 := g2
    have q3 : da1 = da2 := g3
    have q4 : sl1 = sl2 := g4
    have q5 : d1 = d2 := (show d1 = some dx from g5').trans (show d2 = some dx from hd0).symm
    subst q2' q3 q4 q5
    exact g1
  have keep : ∀ b u, b ≠ dx -> s2.heap.get? b = some u -> h'.get? b = some u := fun b u hb e => by
    by_cases hbx : b = x
    . subst hbx
      rw [e0] at e
      cases e
      exact hx1
    . exact hk b u hbx (fun o₀ d' e1 e2 => by
        rw [e0] at e1
        cases e1
        rw [hd0] at e2
        cases e2
        exact hb) e
  have ED : z3W dx ((f, y) :: fs) h' := by
    obtain ⟨o2, k1, k2, _, k4⟩ := hi'
    rw [hx1] at k1
    cases k1
    rcases k4 with ⟨z, _⟩ | ⟨d', z1, z2, z3⟩
    . rw [hd0] at z; cases z
    . rw [hd0] at z1
      cases z1
      refine ⟨_, z3, fun g => ?_, Within.cons f u hw⟩
      rw [List.lookup_cons]
      by_cases hg : g = f
      . subst hg
        simp only [beq_self_eq_true, if_true]
        exact ry
      . rw [beq_eq_false_iff_ne.mpr hg]
        simp only [hg, if_false]
        exact rl g
  exact ⟨σ, _, I2.write (x := dx) (e := dx) (by rw [hdx]; trivial) (.inl rfl) keep (let ⟨_, ⟨o, _, _, e, _⟩, _⟩ := ED; ⟨o, e⟩) (z6h ED), q2⟩
end
def PF (X : Cx) (e : Expr) (t : St -> Hp -> Prop) : Prop := ∀ (pins : List (Addr × Obj)) (s : Shared) (σ : St) (H : Hp), Inv X pins σ H s -> t σ H ->
  wpAny (model X.prog X.w) X.A (eval e X.env) (fun v s' => ∃ y u, v = .str y u /\ y.length <= 100000 /\ Inv X pins σ H s') X.xe s
def zDi : V -> Prop
  | .non => True
  | .int a => a.natAbs.log2 < 1920
  | _ => False
section
variable {X : Cx}
theorem z8w {z : Str} {j : Nat} {pos : Pos} : PF X (.Constant (.str z) j pos) (fun _ _ => z.length <= 100000) := fun pins s σ H I h => Calls.Constant_str ⟨z, _, rfl, h, I.tok _⟩
theorem zCX {e : Expr} {te : TE} {pos : Pos} (he : PE X e te) : PF X (.FormattedValue e (-1) none pos) (fun σ H => te σ H fun v H' => zDi v /\ H' = H) := by
  intro pins s σ H I h
  refine wpAny_FormattedValue_plain (thn (he pins s σ H _ I h) fun u s1 ⟨v, H1, I1, rv, hf, e1⟩ => ?_)
  subst e1
  cases v with
  | non =>
    cases (show u = Value.none from rv)
    exact wpAny_formatField_none ⟨_, _, rfl, by decide, I1.tok _⟩
  | int a =>
    obtain ⟨t, rfl⟩ := rv
    have hl : a.natAbs.log2 < 1920 := hf
    refine wpAny_formatField_int hl ⟨_, _, rfl, ?_, I1.tok _⟩
    have := int_text_length_le (k := 1920) (by decide) hl
    rw [PySem.ofString_length]
    omega
  | _ => exact hf.elim
theorem zBd {e : Expr} {te : TE} {pos : Pos} (he : PE X e te) : PF X (.FormattedValue e 114 none pos) (fun σ H => te σ H fun v H' => (∃ z, v = .str z /\ (reprText z).length <= 100000) /\ H' = H) := by
  intro pins s σ H I h
  refine wpAny_FormattedValue_repr (thn (he pins s σ H _ I h) fun u s1 ⟨v, H1, I1, rv, ⟨z, ez, hz⟩, e1⟩ => ?_)
  subst e1 ez
  obtain ⟨t, rfl⟩ := (show ∃ t, u = Value.str z t from rv)
  have hz' : (reprText z).length <= sizeLine := Nat.le_trans hz (by decide)
  refine wpAny_pyReprObj_str ?_ hz'
  exact wpAny_formatField_str ⟨_, _, rfl, hz, I1.tok _⟩ ⟨_, _, rfl, hz, I1.tok _⟩ hz'
def PFs (X : Cx) (es : List Expr) (t : St -> Hp -> Prop) : Prop := ∀ (pins : List (Addr × Obj)) (σ : St) (H : Hp), t σ H -> ∀ (s : Shared) (acc : Str) (Q : Str -> Shared -> Prop), Inv X pins σ H s -> acc.length + 100000 * es.length <= sizeLine ->
  (∀ out s', Inv X pins σ H s' -> out.length <= sizeLine -> Q out s') -> Joins (model X.prog X.w) X.A X.xe (evalEach es X.env) acc Q s
theorem zBe : PFs X [] (fun _ _ => True) := fun _ _ _ _ s acc Q I hz h => h acc s I (by simpa using hz)
theorem z39 {e : Expr} {es : List Expr} {t u : St -> Hp -> Prop} (he : PF X e t) (hr : PFs X es u) (hev : evalEach (e :: es) X.env = eval e X.env :: evalEach es X.env := by rfl) : PFs X (e :: es) (fun σ H => t σ H /\ u σ H) := by
  intro pins σ H ⟨h1, h2⟩ s acc Q I hz h
  rw [hev]
  rw [List.length_cons] at hz
  refine thn (he pins s σ H I h1) fun v s1 ⟨y, tk, ev, hy, I1⟩ => ⟨y, tk, ev, ?_, ?_⟩
  . rw [strLen_append]
    omega
  . exact hr pins σ H h2 s1 (acc ++ y) Q I1 (by rw [strLen_append]; omega) h
def zDP (t : St -> Hp -> Prop) : TE := fun σ H Q => t σ H /\ ∀ z, Q (.str z) H
theorem zBf {v₁ v₂ : Expr} {rest : List Expr} {pos : Pos} {t : St -> Hp -> Prop} (h : PFs X (v₁ :: v₂ :: rest) t) (hl : rest.length <= 100 := by decide) : PE X (.JoinedStr (v₁ :: v₂ :: rest) pos) (zDP t) := by
  intro pins s σ H Q I ⟨ht, hq⟩
  refine wpAny_JoinedStr (h pins σ H ht s Str.empty _ I ?_ fun out s' I' ho => ⟨ho, ⟨.str out, H, I'.tok _, ⟨_, rfl⟩, hq out⟩⟩)
  have e0 : Str.empty.length = 0 := by decide
  rw [e0, List.length_cons, List.length_cons, sizeLine_eq]
  omega
structure Gi (K : PySem.W.Frag) (G : Addr) : Prop where
  sp : PySem.W.specialIn K (.ref G) "__getattribute__" = some (some (.builtin "type.__getattribute__"))
  rd : PySem.W.readsIn K G (.type "type") = true
  fd : PySem.W.findCls K (.ref G) (.type "type") "__init__" = some (.val (.builtin "ValueError.__init__"))
def zCY (K : PySem.W.Frag) (t : TA) : TE := fun σ H Q => t σ H fun vs H2 => ∃ x C d y, vs = [.ref x, y] /\ H2 x = some (.ext (ErrO x C d)) /\ XE K C /\ Q .non H2
theorem zCZ {H : Hp} {a : Addr} {o : HO} (h : H a = some o) : upd H a o = H := by
  funext b
  unfold upd
  split
  . rename_i e; rw [e, h]
  . rfl
theorem zA2 {gn : Str} {G : Addr} {e : Expr} {es : List Expr} {t : TA} {p1 p2 p3 : Pos} {pl : Sem Bool} (hg : Gl X gn) (hm : X.mg gn = some (.ref G)) (Z : Gi X.K G) (ha : PA X (e :: es) t) (hd : (gn == ("__debug__" : Str)) = false := by decide)
    (hs : starEach (e :: es) X.env = (false, eval e X.env) :: starEach es X.env := by rfl) (hplain : (backTo p3 (starEach es X.env)).any (·.1) = false := by rfl)
    (ht : eval (.Call (.Attribute (.Name gn p1) "__init__" p2) (e :: es) [] p3) X.env = (do
      let ov <- eval (.Name gn p1) X.env
      standAt p2.atName
      let (f, first) <- holding [ov] (getMethod ov "__init__" pl)
      callWith p3 f first (backTo p3 (starEach (e :: es) X.env)) (backToKw p3 (keywordEach [] X.env))) := by rfl) :
    PE X (.Call (.Attribute (.Name gn p1) "__init__" p2) (e :: es) [] p3) (zCY X.K t) := by
  intro pins s σ H Q I h
  refine PySem.W.methodCall_KW (pl := pl) (z1v I hg hm ?_ hd) ht
  refine PySem.W.method_cls I.kIn Z.sp ?_
  refine PySem.W.cls_value I.kIn Z.rd Z.fd rfl ?_
  have hA := ha p3 pins _ σ H _ (I.tok (s.toks + 1)) h
  rw [hs] at hA ⊢
  refine Calls.callWith_builtin (by show (false || (backTo p3 (starEach es X.env)).any (·.1)) = false; rw [hplain] <;> rfl) (Calls.evalArgs_plain ?_)
  refine thn hA fun us s1 ⟨vs, H2, I1, r, x, C, d, y, ev, hx, ZC, q⟩ => ?_
  subst ev
  obtain ⟨u1, u2, rfl, r1, r2⟩ := vals2 r
  cases (show u1 = Value.ref x from r1)
  refine z8t I1.kIn ZC (I1.errO hx) (by show 1 <= sizeLine; decide) fun h' hk ho => ?_
  have J := I1.write (x := x) (e := x) (t' := s1.toks) (by rw [hx]; trivial) (.inl rfl) (fun b u hb z => hk b u hb z) (let ⟨o, _, z, _⟩ := ho; ⟨o, z⟩) (z38 ho)
  rw [zCZ hx] at J
  exact ⟨.non, H2, J, rfl, q⟩
structure Ei (K : PySem.W.Frag) (C fI : Addr) : Prop where
  x : XE K C
  kp : PySem.W.keepIn K (.ref C) = true
  fi : PySem.W.findIn K (.ref C) "__init__" = some (some (.ref fI))
  fn : PySem.W.typeIn K (.ref fI) = some (.type "function")
theorem Inv.newErr {pins : List (Addr × Obj)} {σ : St} {H : Hp} {s : Shared} {C : Addr} {us : List Value} (I : Inv X pins σ H s) : Inv X pins σ (upd H (s.heap.objs.size + 1) (.ext (ErrO (s.heap.objs.size + 1) C none))) { s with heap := zA0 s.heap C us, toks := s.toks } :=
  I.laid (t' := s.toks) (fun b u e => z3V e) (Nat.le_succ _) (z38 z8u)
structure Eo (K : PySem.W.Frag) (C : Addr) : Prop where
  x : XE K C
  kp : PySem.W.keepIn K (.ref C) = true
  fi : PySem.W.findIn K (.ref C) "__init__" = some (some (.builtin "ValueError.__init__"))
end
section
variable {X : Cx}
end
def veB : List Value -> Bool
  | .ref _ :: r => veB r
  | [.type a, .type b, .type c, .type d] => a == "ValueError" && b == "Exception" && c == "BaseException" && d == "object"
  | _ => false
theorem z6i : ∀ {l : List Value}, veB l = true -> VeTail l
  | .ref c :: r, e => .step (z6i (l := r) e)
  | [.type a, .type b, .type c, .type d], e => by
    simp only [veB, Bool.and_eq_true, beq_iff_eq] at e
    obtain ⟨⟨⟨rfl, rfl⟩, rfl⟩, rfl⟩ := e
    exact .base
def xeB (K : PySem.W.Frag) (C : Addr) : Bool :=
  (match K.lookup C with
  | some ⟨.type "type", _, .cls cd, ⟨[_, _, _, _, some (.builtin n), _]⟩⟩ => (match cd.mro with
    | .ref C' :: bm => decide (C' = C) && (n == "ValueError.__new__" && (cd.hasDel == false && (cd.hasDict && (veB bm && (PySem.W.tailIn K z8r bm && PySem.W.nsOkIn K cd.ns)))))
    | _ => false)
  | _ => false) &&
  (PySem.W.findIn K (.ref C) "__getattribute__" == some (some (.builtin "BaseException.__getattribute__")) && (PySem.W.findIn K (.ref C) "__getattr__" == some none && (PySem.W.findIn K (.ref C) "__setattr__" == some (some (.builtin "object.__setattr__")) &&
  (PySem.W.findIn K (.ref C) "__class__" == some (some (.builtin "object.__class__")) && (PySem.W.specialIn K (.builtin "object.__class__") "__get__" == some (some (.builtin "getset_descriptor.__get__")) && (PySem.W.takesIn K (.builtin "object.__class__") == some true &&
  (PySem.W.mroIn K C (.type "object") == some true && PySem.W.keepIn K (.ref C))))))))
theorem z8x {K : PySem.W.Frag} {C : Addr} (h : xeB K C = true) : XE K C /\ PySem.W.keepIn K (.ref C) = true := by
  unfold xeB at h
  simp only [Bool.and_eq_true, beq_iff_eq] at h
  obtain ⟨h0, h1, h2, h3, h4, h5, h6, h7, h8⟩ := h
  refine ⟨⟨?_, h1, h2, h3, h4, h5, h6, h7⟩, h8⟩
  split at h0
  . rename_i dd cd k0 k1 k2 k3 n k5 lk
    split at h0
    . rename_i C' bm hm
      simp only [Bool.and_eq_true, beq_iff_eq, decide_eq_true_eq] at h0
      obtain ⟨rfl, rfl, e1, e2, e3, e4, e5⟩ := h0
      exact ⟨dd, cd, k0, k1, k2, k3, k5, bm, lk, hm, e1, e2, z6i e3, e4, e5⟩
    . cases h0
  . cases h0
def zAr (K : PySem.W.Frag) (cs : List Addr) (G : Addr) : Bool :=
  (List.range cs.length).all fun i => ((List.range cs.length).all fun j => PySem.W.kitOne K (.ref (cs.getD i 0)) (.ref (cs.getD j 0)) == some (decide (i = j))) &&
    (PySem.W.kitOne K (.ref (cs.getD i 0)) (.ref G) == some true && PySem.W.kitOne K (.ref (cs.getD i 0)) (.type "ValueError") == some true)
structure Kits (K : PySem.W.Frag) (cs : List Addr) (G : Addr) (i : Nat) : Prop where
  one : ∀ j, j < cs.length -> PySem.W.kitOne K (.ref (cs.getD i 0)) (.ref (cs.getD j 0)) = some (decide (i = j))
  g : PySem.W.kitOne K (.ref (cs.getD i 0)) (.ref G) = some true
  v : PySem.W.kitOne K (.ref (cs.getD i 0)) (.type "ValueError") = some true
theorem z8y {K : PySem.W.Frag} {cs : List Addr} {G : Addr} (h : zAr K cs G = true) : ∀ i, i < cs.length -> Kits K cs G i := fun i hi => by
  have h1 := List.all_eq_true.mp h i (List.mem_range.mpr hi)
  simp only [Bool.and_eq_true, beq_iff_eq] at h1
  exact ⟨fun j hj => by simpa using List.all_eq_true.mp h1.1 j (List.mem_range.mpr hj), h1.2.1, h1.2.2⟩
structure Oe (P : Program) (w : World) (K : PySem.W.Frag) (mg : Str -> Option Value) (base : Heap) (x : Str) (C : Addr) (ps : List Str) (k : Nat) (sp : Sp) : Prop where
  ex : ∃ (fI : Addr) (fd : FuncData), mg x = some (.ref C) /\ Ei K C fI /\ Binds K fd ps [] /\ FnOk P w K mg base CX0 k fI fd ps sp
structure Oo (K : PySem.W.Frag) (mg : Str -> Option Value) (x : Str) (C : Addr) : Prop where
  m : mg x = some (.ref C)
  e : Eo K C
section
variable {X : Cx} {k j : Nat} {ps : List Str} {sp : Sp} {x : Str} {C : Addr} {p pos : Pos} {e : Expr} {es : List Expr} {t : TA}
end
def zCr (C : Addr) (f g : Str) : Sp := fun vs H Q _ => ∃ x z v, vs = [.ref x, .str z, v] /\ H x = some (.ext (ErrO x C none)) /\ (reprText z).length <= 100000 /\ zDi v /\
  ∀ d, H d = none -> d ≠ x -> Q .non (upd (upd H x (.ext (ErrO x C (some d)))) d (.ext (z3W d [(g, v), (f, .str z)])))
structure Errs (H : Hp) (l : Addr) (xs cs : List Addr) (fs : List (List (Str × V))) : Prop where
  lst : H l = some (.lst (xs.map V.ref))
  len : xs.length = 15
  one : ∀ i, i < 15 -> z55 H (xs.getD i 0) (cs.getD i 0) (fs.getD i [])
theorem Errs.get {H : Hp} {l : Addr} {xs cs : List Addr} {fs : List (List (Str × V))} (h : Errs H l xs cs fs) {i : Nat} (hi : i < 15) : atI (xs.map V.ref) ((i : Nat) : Int) = some (.ref (xs.getD i 0)) := by
  refine z0d ?_
  have : i < xs.length := by have := h.len; omega
  rw [List.getElem?_map, List.getElem?_eq_getElem this, List.getD_eq_getElem?_getD, List.getElem?_eq_getElem this]
  rfl
def DK {α : Type} : Sem α -> Prop
  | .pure _ | .raise _ | .unsupported _ | .finish _ | .register .. | .yield .. | .fork .. | .await .. => True
  | .rule _ k | .at _ k | .point _ k => DK (k ())
  | .load _ _ k => ∀ o, DK (k o)
  | .update _ _ f k => (∀ o : Obj, (f o).dict = o.dict) /\ DK (k ())
  | .loadIfAlive _ k => ∀ o, DK (k o)
  | .alloc _ k => ∀ a, DK (k a)
  | .fresh k => ∀ t, DK (k t)
  | .ask k => ∀ x, DK (k x)
  | .choose _ _ k => ∀ n, DK (k n)
  | .os _ _ k => ∀ r, DK (k r)
  | .call .. | .resume .. => False
  | .handled _ k => ∀ x, DK (k x)
  | .genState _ k => ∀ x, DK (k x)
  | .newGen _ k => ∀ n, DK (k n)
  | .stack k => ∀ l, DK (k l)
  | .thread k => ∀ n, DK (k n)
def RK (h h' : Heap) : Prop := ∀ (b : Addr) (o : Obj), h.objs[b]? = some o -> ∃ o', h'.objs[b]? = some o' /\ o'.dict = o.dict
theorem RK.refl (h : Heap) : RK h h := fun _ o e => ⟨o, e, rfl⟩
theorem RK.trans {a b c : Heap} (x : RK a b) (y : RK b c) : RK a c := fun p o e =>
  let ⟨_, e1, d1⟩ := x p o e; let ⟨o2, e2, d2⟩ := y p _ e1; ⟨o2, e2, d2.trans d1⟩
theorem RK.push (h : Heap) (u : Obj) : RK h (h.push u) := fun b o e => ⟨o, by
  obtain ⟨objs, l⟩ := h
  show (objs.push u)[b]? = some o
  have e' : objs[b]? = some o := e
  have : b < objs.size := (Array.getElem?_eq_some_iff.mp e').1
  rw [Array.getElem?_push_lt this]
  rw [Array.getElem?_eq_getElem this] at e'
  exact e', rfl⟩
theorem RK.update (h : Heap) (a : Addr) (f : Obj -> Obj) (hf : ∀ o : Obj, (f o).dict = o.dict) : RK h (h.update a f) := fun b o e => by
  obtain ⟨objs, l⟩ := h
  have e' : objs[b]? = some o := e
  by_cases z : a = b
  . subst z
    exact ⟨f o, by show (objs.modify a f)[a]? = _; rw [Array.getElem?_modify, if_pos rfl, e']; rfl, hf o⟩
  . exact ⟨o, by show (objs.modify a f)[b]? = _; rw [Array.getElem?_modify, if_neg z]; exact e', rfl⟩
theorem RK.get {h h' : Heap} (r : RK h h') {b : Addr} {o o' : Obj} (e : h.get? b = some o) (e' : h'.get? b = some o') : o'.dict = o.dict := by
  have raw : ∀ {g : Heap} {u : Obj}, g.get? b = some u -> g.objs[b]? = some u := fun {g u} q => by
    unfold Heap.get? at q
    split at q
    . cases q
    . exact q
  obtain ⟨o1, e1, d1⟩ := r b o (raw e)
  rw [raw e'] at e1
  cases e1
  exact d1
theorem zDQ {α : Type} {M : Model} {Γ : PySem.Ctx} : ∀ (t : Sem α) {Q : α -> Pos -> Shared -> Prop} {E : Value -> Pos -> Shared -> Prop} {p : Pos} {s : Shared}, DK t -> Sem.wp M Γ t Q E p s ->
    Sem.wp M Γ t (fun a p' s' => Q a p' s' /\ RK s.heap s'.heap) (fun e p' s' => E e p' s' /\ RK s.heap s'.heap) p s := by
  intro t
  induction t with
  | pure a => intro Q E p s _ h; exact ⟨h, RK.refl _⟩
  | raise e => intro Q E p s _ h; exact ⟨h, RK.refl _⟩
  | unsupported w => intro Q E p s _ h; exact h
  | finish e => intro Q E p s _ h; exact h
  | rule t k ih => intro Q E p s d h; exact ih () d h
  | «at» q k ih => intro Q E p s d h; exact ih () d h
  | load a q k ih => intro Q E p s d h; obtain ⟨o, e, h⟩ := h; exact ⟨o, e, ih o (d o) h⟩
  | update a q f k ih =>
    intro Q E p s d h
    refine ⟨h.1, ?_⟩
    have r := RK.update s.heap a f d.1
    exact Sem.wp_mono M Γ _ (fun _ _ _ z => ⟨z.1, r.trans z.2⟩) (fun _ _ _ z => ⟨z.1, r.trans z.2⟩) _ _ (ih () d.2 h.2)
  | alloc o k ih =>
    intro Q E p s d h
    have r := RK.push s.heap o
    exact Sem.wp_mono M Γ _ (fun _ _ _ z => ⟨z.1, r.trans z.2⟩) (fun _ _ _ z => ⟨z.1, r.trans z.2⟩) _ _ (ih _ (d _) h)
  | loadIfAlive a k ih => intro Q E p s d h; exact ih _ (d _) h
  | point l k ih => intro Q E p s d h; exact ih () d h
  | register a k ih => intro Q E p s d h; exact h
  | fresh k ih => intro Q E p s d h; exact ih _ (d _) h
  | ask k ih => intro Q E p s d h; exact ih _ (d _) h
  | choose a n k ih => intro Q E p s d h; exact ⟨h.1, ih _ (d _) h.2⟩
  | os a l k ih => intro Q E p s d h; exact ih _ (d _) h
  | call c a g l k ih => intro Q E p s d h; exact d.elim
  | handled o k ih => intro Q E p s d h; exact ih _ (d _) h
  | newGen c k ih => intro Q E p s d h; exact ih _ (d _) h
  | genState g k ih => intro Q E p s d h; obtain ⟨st, e, h⟩ := h; exact ⟨st, e, ih _ (d _) h⟩
  | resume g r l k ih => intro Q E p s d h; exact d.elim
  | yield v g l k ih => intro Q E p s d h; exact h
  | stack k ih => intro Q E p s d h; exact ih _ (d _) h
  | fork c k ih => intro Q E p s d h; exact h
  | thread k ih => intro Q E p s d h; exact ih _ (d _) h
  | await a k ih => intro Q E p s d h; exact h
theorem z56 {α : Type} {M : Model} {A : Around} {E : Value -> Shared -> Prop} {s : Shared} {t : Sem α} {Q : α -> Shared -> Prop} (d : DK t) (h : wpAny M A t Q E s) : wpAny M A t (fun a s' => Q a s' /\ RK s.heap s'.heap) (fun e s' => E e s' /\ RK s.heap s'.heap) s :=
  fun Γ p hΓ => zDQ t d (h Γ p hΓ)
theorem zBg {α β : Type} : ∀ (t : Sem α) (f : α -> Sem β), DK t -> (∀ a, DK (f a)) -> DK (t.bind f) := by
  intro t f
  induction t with
  | pure a => intro _ h; exact h a
  | raise e => intro _ _; trivial
  | unsupported w => intro _ _; trivial
  | finish e => intro _ _; trivial
  | rule t k ih => intro d h; exact ih () d h
  | «at» q k ih => intro d h; exact ih () d h
  | load a q k ih => intro d h o; exact ih o (d o) h
  | update a q g k ih => intro d h; exact ⟨d.1, ih () d.2 h⟩
  | alloc o k ih => intro d h a; exact ih a (d a) h
  | loadIfAlive a k ih => intro d h o; exact ih o (d o) h
  | point l k ih => intro d h; exact ih () d h
  | register a k ih => intro _ _; trivial
  | fresh k ih => intro d h o; exact ih o (d o) h
  | ask k ih => intro d h o; exact ih o (d o) h
  | choose a n k ih => intro d h o; exact ih o (d o) h
  | os a l k ih => intro d h o; exact ih o (d o) h
  | call c a g l k ih => intro d h; exact d.elim
  | handled o k ih => intro d h o; exact ih o (d o) h
  | newGen c k ih => intro d h o; exact ih o (d o) h
  | genState g k ih => intro d h o; exact ih o (d o) h
  | resume g r l k ih => intro d h; exact d.elim
  | yield v g l k ih => intro _ _; trivial
  | stack k ih => intro d h o; exact ih o (d o) h
  | fork c k ih => intro _ _; trivial
  | thread k ih => intro d h o; exact ih o (d o) h
  | await a k ih => intro _ _; trivial
theorem z0P {α β : Type} {t : Sem α} {f : α -> Sem β} (d : DK t) (h : ∀ a, DK (f a)) : DK (t >>= f) := zBg t f d h
theorem z0n {α : Type} (a : α) : DK (pure a : Sem α) := trivial
theorem z2Y {α : Type} (w : String) : DK (unsupported w : Sem α) := trivial
theorem z5r (a : Addr) : DK (load a) := fun _ => trivial
theorem z6j : DK stack := fun _ => trivial
theorem z3f (f : Array Value -> Array Value) (o : Obj) : (Obj.mapFields f o).dict = o.dict := by
  obtain ⟨c, d, dt, sl⟩ := o
  cases dt <;> rfl
theorem z3A (v : Value) (i : Nat) : DK (field v i) := by
  unfold field
  refine z0P ?_ fun a => ?_
  . unfold fieldsOf
    split
    . refine z0P (z5r _) fun o => ?_
      split
      . exact z0n _
      . exact z2Y _
    . exact z2Y _
  . split
    . exact z0n _
    . exact z2Y _
theorem z3g (a : Addr) (i : Nat) (v : Value) : DK (updateField a i v) := by
  unfold updateField
  refine z0P (z5r _) fun o => ?_
  split
  . split
    . exact ⟨z3f _, trivial⟩
    . exact z2Y _
  . exact z2Y _
theorem z2J (v : Value) (i : Nat) (x : Value) : DK (setField v i x) := by
  unfold setField
  split
  . exact z3g _ _ _
  . exact z2Y _
theorem z24 (e : Value) (f : Option Addr) : DK (setFlight e f) := by
  unfold setFlight
  refine z0P (z3A _ _) fun tb => ?_
  split
  . exact z2J _ _ _
  . exact z0n _
theorem z5s (a b c d e : Value) (pl : List Value) : DK (EntryCells.newEntry a b c d e pl) := by
  unfold EntryCells.newEntry newFields newObj
  generalize ([a, b, c, d, e] ++ (if pl.isEmpty then List.replicate 6 Value.none else pl)).toArray = arr
  dsimp only
  by_cases h : arr.size > sizeLine + 2
  . rw [if_pos h]
    trivial
  . rw [if_neg h]
    exact fun _ => trivial
theorem zA3 : DK underTheClaimsCaller := fun _ => trivial
theorem z8z (env : Env) (outer : List Env) : DK (behindIsImport env outer) := by
  unfold behindIsImport
  split
  . exact z0n _
  . split
    . exact z0n _
    . exact z0P (z3A _ _) fun _ => z0n _
theorem zBh (env : Env) (b : Bool) (l : List Env) : DK (keptBack env b l) := by
  cases l with
  | nil =>
    show DK (if env.scope.isGenerator || env.scope.isCoroutine then pure Value.none else do return if <- underTheClaimsCaller then Value.notImplemented else Value.none)
    split
    . exact z0n _
    . exact z0P zA3 fun _ => z0n _
  | cons c l => exact z0n _
theorem z6k : ∀ l : List Env, DK (readyFrames l)
  | [] => trivial
  | env :: outer => by
    unfold readyFrames
    split
    . refine z0P (z5r _) fun o => ?_
      split
      . exact z0n _
      . refine z0P (z8z _ _) fun b => z0P (zBh _ _ _) fun v => z0P ?_ fun _ => z6k outer
        exact ⟨fun _ => rfl, trivial⟩
    . exact z2Y _
theorem z7H (env : Env) : DK (PySem.frameOf env) := by
  unfold PySem.frameOf
  refine z0P (z0P z6j fun _ => z0n _) fun l => z0P ?_ fun r => ?_
  . generalize l.dropWhile (·.frame != env.frame) = l'
    cases l' with
    | nil => exact z0n _
    | cons e l' => exact z0P (z6k _) fun _ => z0n _
  . split
    . exact z0n _
    . exact z2Y _
theorem zA4 (f : Addr) (b : Bool) : DK (entryPlaceOf f b) := by
  unfold entryPlaceOf
  refine z0P z6j fun l => ?_
  split <;> exact z0n _
theorem z90 (e : Value) (env : Env) : DK (noteFrame e env) := by
  have tail : ∀ f head, DK (do setField e 1 (<- EntryCells.newEntry head (<- PySem.frameOf env) .none (rawInt f) .none (<- entryPlaceOf f (head != .none)))) := fun f head =>
    z0P (z7H _) fun _ => z0P (zA4 _ _) fun _ => z0P (z5s _ _ _ _ _ _) fun _ => z2J _ _ _
  unfold noteFrame
  split
  . refine z0P (z3A _ _) fun head => ?_
    split
    . refine z0P (z3A _ _) fun x => ?_
      split
      . exact z0n _
      . exact z0P (z2J _ _ _) fun _ => tail _ _
    . exact tail _ _
  . exact z2Y _
theorem z3w (env : Env) (e : Value) : DK (leaving env e) := z0P (z90 _ _) fun _ => z24 _ _
def del (H : Hp) (a : Addr) : Hp := fun b => if b = a then none else H b
theorem zA5 {H : Hp} {a : Addr} : del H a a = none := if_pos rfl
theorem z6l {H : Hp} {a b : Addr} (h : b ≠ a) : del H a b = H b := if_neg h
theorem zA6 {H : Hp} {a b : Addr} (h : H b = none) : del H a b = none := by
  unfold del
  split
  . rfl
  . exact h
def CX2 (P : Program) (w : World) : CXT := fun st H s E e s' => ∃ (a t C : Addr) (B : Heap) (H' : Hp) (d : Option Addr), e = .ref a /\ s'.os = s.os /\ AllBare s'.gens /\ s.heap.objs.size <= a /\ Fly P w st H H' B a C t s.heap s'.heap /\ (∃ o, s'.heap.get? a = some o /\ o.dict = d) /\ E (.ref C) d H'
section
variable {X : Cx} {pins : List (Addr × Obj)} {σ : St} {H H' : Hp} {s : Shared}
theorem Fly.firstE {x C t : Addr} {d : Option Addr} {h' : Heap} (I : Inv X pins σ H s) (hst : X.stack = X.env :: X.outer) (hf : X.env.frame = some X.env.locals) (hex : X.ex = []) (hx : H x = some (.ext (ErrO x C d))) (hsz : X.s₀.heap.objs.size <= x)
    (fl : Heap.FlyingW (PySem.W.hideAll s.heap (x :: frs X.stack)) X.outer x (.ref C) (.ref t) h') (sm : s.heap.UpToSlots h') : Fly X.prog X.w X.outer X.H₀ (del H x) (PySem.W.hideAll s.heap (x :: frs X.stack)) x C t X.s₀.heap h' := by
  have hS : frs X.stack = X.env.locals :: frs X.outer := by rw [hst]; exact z4Q hf
  have hxx : ∀ b, b ∉ X.ex := fun b => by rw [hex]; exact nin
  have ne : ∀ b o, X.s₀.heap.get? b = some o -> b ≠ X.env.locals := fun b o e => Nat.ne_of_lt (Nat.lt_of_lt_of_le (Heap.lt_size e) I.ok.above)
  have nx : ∀ b o, X.s₀.heap.get? b = some o -> b ≠ x := fun b o e => Nat.ne_of_lt (Nat.lt_of_lt_of_le (Heap.lt_size e) hsz)
  have out : ∀ b o, X.s₀.heap.get? b = some o -> b ∉ frs X.outer -> b ∉ x :: frs X.stack := fun b o e n hb => by
    rcases List.mem_cons.mp hb with z | hb
    . exact nx b o e z
    rw [hS] at hb
    rcases List.mem_cons.mp hb with z | z
    . exact ne b o e z
    . exact n z
  have kB : ∀ b o, X.s₀.heap.get? b = some o -> X.H₀ b = none -> b ∉ frs X.outer -> (PySem.W.hideAll s.heap (x :: frs X.stack)).get? b = some o := fun b o e n nb => PySem.W.hideAll_get _ (I.base.keep b o e n nb (hxx b)) (out b o e nb)
  have tB : ∀ b o, X.s₀.heap.get? b = some o -> b ∉ frs X.outer -> ∃ o', (PySem.W.hideAll s.heap (x :: frs X.stack)).get? b = some o' := fun b o e nb => by
    obtain ⟨o', e'⟩ := I.base.there b o e (hxx b)
    exact ⟨o', PySem.W.hideAll_get _ e' (out b o e nb)⟩
  have sl : ∀ b o, X.s₀.heap.get? b = some o -> X.H₀ b = none -> b ∈ frs X.outer -> ∃ sl, h'.get? b = some { o with slots := sl } := fun b o e n hb => by
    obtain ⟨s1, e1⟩ := I.base.slot b o e n hb (hxx b)
    obtain ⟨_, o', ho', hd⟩ := I.ok.funs.mem hb
    rw [e] at ho'
    cases ho'
    obtain ⟨s3, e3⟩ := sm b _ e1 hd
    exact ⟨s3, e3⟩
  have dn : ∀ {b : Addr} {u : HO}, H b = some u -> (∀ φ, u ≠ .ext φ) -> del H x b = some u := fun {b u} e n => by
    rw [z6l]
    . exact e
    . rintro rfl
      rw [hx] at e
      cases e
      exact n _ rfl
  refine ⟨⟨fun b o e n nb _ => fl.1 b o (kB b o e n nb), fun b o e n hb _ => sl b o e n hb, fun b o e n _ => zA6 (I.base.free b o e n (hxx b)), fun b o e _ => ?_, fun b xs e => dn (I.base.tups b xs e) (fun φ z => nomatch z), fun b o u e => dn (I.base.frzs b o u e) (fun φ z => nomatch z),
    fun b ps e => let ⟨m, q⟩ := I.base.tbls b ps e; ⟨m, dn q (fun φ z => nomatch z)⟩⟩, kB, tB, fun b u q => ?_, fl⟩
  . by_cases hb : b ∈ frs X.outer
    . obtain ⟨s1, e1⟩ := sl b o e (I.ok.frf b hb) hb
      exact ⟨_, e1⟩
    . obtain ⟨o', e'⟩ := tB b o e hb
      exact ⟨o', fl.1 b o' e'⟩
  . have hbx : b ≠ x := fun z => by rw [z, zA5] at q; cases q
    rw [z6l hbx] at q
    refine (I.hok b u q).stay (fun c v hc e => PySem.W.hideAll_get _ e fun hm => ?_) (fun _ z => dn z (fun φ z => nomatch z)) fun _ _ z => dn z (fun φ z => nomatch z)
    rcases List.mem_cons.mp hm with rfl | hm
    . rcases hc with z | z
      . exact hbx z.symm
      . rw [hx] at z; cases z
    . have n := I.stkFree c hm
      rcases hc with z | z
      . rw [z, q] at n
        cases n
      . rw [z] at n
        cases n
end
section
variable {P : Program} {w : World} {K : PySem.W.Frag} {mg : Str -> Option Value} {base : Heap} {N : List Str} {qual : Str} {scope : Scope} {f : Addr} {cd : Value} {A : Around} {outer : List Env} {s : Shared} {H : Hp} {E : XK}
theorem z91 : z1g (CX2 P w) (z81 (CX2 P w) P w K mg base N qual scope f cd A outer s H E) E := by
  intro pins σ H1 s1 e s' I h
  obtain ⟨a, t, C, B, H', d, rfl, os, bare, sz, F, ⟨o, eo, ed⟩, q⟩ := h
  show wpAny (model P w) (A.deeper (envOfC qual scope s.heap.objs.size f cd)) (leaving (envOfC qual scope s.heap.objs.size f cd) (.ref a)) _ _ s'
  refine wpAny_mono (z56 (z3w _ _) (wpAny_leaves_onW (E := fun _ _ => False) (Q := fun _ s'' => ∃ h', s'' = { s' with heap := h' } /\ Heap.FlyingW B outer a (.ref C) (.ref t) h' /\ s'.heap.UpToSlots h') I.ok.frames rfl F.fl fun h' fl sm => ⟨h', rfl, fl, sm⟩)) (fun _ s'' h2 => ?_) fun _ _ z => z.1.elim
  obtain ⟨⟨h', rfl, fl, sm⟩, rk⟩ := h2
  obtain ⟨o', eo', _⟩ := fl.there
  exact ⟨a, t, C, B, H', d, rfl, os.trans I.os, bare, Nat.le_trans I.sz sz, Fly.leave I rfl rfl rfl F fl sm, ⟨o', eo', (rk.get eo eo').trans ed⟩, q⟩
theorem zAs {X : Cx} : z1g (CX2 P w) X E0 := fun _ _ _ _ _ _ _ h => by
  obtain ⟨_, _, _, _, _, _, _, _, _, _, _, _, h⟩ := h
  exact h.elim
def z5t (X : Cx) (E : XK) : Prop := ∀ (pins : List (Addr × Obj)) (σ : St) (H : Hp) (s : Shared) (x C : Addr) (d : Option Addr), Inv X pins σ H s -> H x = some (.ext (ErrO x C d)) -> X.s₀.heap.objs.size <= x -> E (.ref C) d (del H x) -> X.xe (.ref x) s
theorem z2j : z5t (z81 (CX2 P w) P w K mg base N qual scope f cd A outer s H E) E := by
  intro pins σ H1 s1 x C d I hx hsz q
  have hin : ∀ env ∈ (envOfC qual scope s.heap.objs.size f cd :: outer), ∀ b, env.frame = some b -> b ∈ x :: frs (envOfC qual scope s.heap.objs.size f cd :: outer) := fun env he b hb => List.mem_cons_of_mem _ (List.mem_filterMap.mpr ⟨env, he, hb⟩)
  obtain ⟨o, vs, eo, hc, hd, ⟨⟨t, h0⟩, h1⟩, hdi⟩ := I.errO hx
  show wpAny (model P w) (A.deeper (envOfC qual scope s.heap.objs.size f cd)) (leaving (envOfC qual scope s.heap.objs.size f cd) (.ref x)) _ _ s1
  refine wpAny_mono (z56 (z3w _ _) (wpAny_leaving_firstW (E := fun _ _ => False) (base := PySem.W.hideAll s1.heap (x :: frs (envOfC qual scope s.heap.objs.size f cd :: outer)))
    (Q := fun _ s'' => ∃ h', s'' = { s1 with heap := h' } /\ Heap.LeftW (PySem.W.hideAll s1.heap (x :: frs (envOfC qual scope s.heap.objs.size f cd :: outer))) (envOfC qual scope s.heap.objs.size f cd :: outer) x o.cls (.ref t) s1.heap h')
    I.ok.frames (PySem.W.funFrames_hide I.stack hin) rfl eo (fun b o z => PySem.W.of_hideAll _ z) (PySem.W.hideAll_none _ List.mem_cons_self) hd h1 h0 fun h' hL => ⟨h', rfl, hL⟩)) (fun _ s'' h2 => ?_) fun _ _ z => z.1.elim
  obtain ⟨⟨h', rfl, k1, ⟨_, _, k2⟩, k3, k4⟩, rk⟩ := h2
  rw [hc] at k3
  have fl : Heap.FlyingW (PySem.W.hideAll s1.heap (x :: frs (envOfC qual scope s.heap.objs.size f cd :: outer))) outer x (.ref C) (.ref t) h' := ⟨k1, PySem.W.hideAll_none _ List.mem_cons_self, k2, k3⟩
  obtain ⟨o', eo', _⟩ := fl.there
  exact ⟨x, t, C, _, _, d, rfl, I.os, I.bare, hsz, Fly.firstE I rfl rfl rfl hx hsz fl k4, ⟨o', eo', (rk.get eo eo').trans hdi⟩, q⟩
end
section
variable {X : Cx} {pins : List (Addr × Obj)} {σ : St}
theorem z2Z {s : Shared} {m : Sem Value} {Q : Flow -> Shared -> Prop} {E : Value -> Shared -> Prop} {M : Model} {A : Around} {env : Env} {K : PySem.W.Frag} (hh : A.handled = none)
    (h : wpAny M A m (fun v s1 => ∃ x C d, v = .ref x /\ K.In s1.heap /\ XE K C /\ ErrO x C d s1.heap /\ E (.ref x) s1) E s) : wpAny M A (raiseStmt env (some m) none) Q E s := by
  unfold raiseStmt
  refine wpAny_bind (wpAny_mono h (fun v s1 h1 => ?_) fun _ _ z => z)
  obtain ⟨x, C, d, rfl, X, Z, ⟨o, vs, eo, hc, hd, ⟨⟨t, h0⟩, h1⟩, hdi⟩, hE⟩ := h1
  obtain ⟨bm, N, nm, qn, bs, sn, sub, ab, col, dd, k0, k1, k2, k3, k5, mN, hC, hN, T, _⟩ := XE.obj X Z
  have hcB : (Value.ref C :: bm).contains (.type "BaseException") = true := by
    rw [List.contains_cons, T.hasType (X := "BaseException") (b := true) (by decide +kernel)]
    rfl
  obtain ⟨hp, g, dr, tk, os⟩ := s1
  obtain ⟨oc, od, odt, osl⟩ := o
  cases (show oc = .ref C from hc)
  cases (show odt = .fields vs from hd)
  have f1 : ∀ {Q' : Unit -> Shared -> Prop}, Q' () ⟨hp, g, dr, tk, os⟩ -> wpAny M A (setFlight (.ref x) none) Q' E ⟨hp, g, dr, tk, os⟩ := fun {Q'} q => by
    unfold setFlight
    refine wpAny_bind (wpAny_field eo rfl h1 ?_)
    rw [if_neg (by decide)]
    exact wpAny_pure q
  repeat (first | with_reducible refine wpAny_loadPart_at eo ?_ | with_reducible refine wpAny_loadPart_at hC ?_ | (with_reducible refine wpAny_isSubtype_exc hC ?_; rw [hcB]) | (with_reducible refine wpAny_bind (f1 ?_)) | wp_step)
  exact wpAny_raiseNew_none hh hE
theorem zCa {x : Str} {C fI : Addr} {k : Nat} {fd : FuncData} {ps : List Str} {sp : Sp} {e : Expr} {es : List Expr} {t : TA} {p pos : Pos} {s : Shared} {H : Hp} {Q' : Addr -> Hp -> Prop} (M : Ei X.K C fI) (F : FnOk X.prog X.w X.K X.mg X.base CX0 k fI fd ps sp) (hr : Room (k + 1) X.A) (hg : Gl X x) (hm : X.mg x = some (.ref C)) (hb : Binds X.K fd ps [])
    (ha : PA X (e :: es) t) (I : Inv X pins σ H s) (h : t σ H fun vs H1 => vs.length <= 1000 /\ ∀ x, H1 x = none -> sp (.ref x :: vs) (upd H1 x (.ext (ErrO x C none))) (fun v H2 => v = .non /\ Q' x H2) E0)
    (hdb : (x == ("__debug__" : Str)) = false := by decide) (he : starEach (e :: es) X.env = (false, eval e X.env) :: starEach es X.env := by rfl) (hpl : (backTo pos (starEach es X.env)).any (·.1) = false := by rfl) :
    wpAny (model X.prog X.w) X.A (eval (.Call (.Name x p) (e :: es) [] pos) X.env) (fun u s' => ∃ a H', u = .ref a /\ X.s₀.heap.objs.size <= a /\ Inv X pins σ H' s' /\ Q' a H') X.xe s := by
  refine wpAny_Call_Name_kw (z1v I hg hm ?_ hdb)
  refine PySem.W.callWith_K (h₀ := X.base) I.ok.mod.kin M.kp (thn (ha pos pins s σ H _ I h) fun us s1 ⟨vs, H1, I1, r, hz, q⟩ => ⟨I1.kIn, ?_⟩) he hpl
  have hq := q (s1.heap.objs.size + 1) (I1.hok.fresh (Nat.le_succ _))
  have I2 := Inv.newErr (C := C) (us := us) I1
  have r2 : Vals (V.ref (s1.heap.objs.size + 1) :: vs) (Value.ref (s1.heap.objs.size + 1) :: us) := .cons rfl r
  have hl : (Value.ref (s1.heap.objs.size + 1) :: us ++ []).length = ps.length := by
    rw [List.append_nil, <- r2.length]
    exact F.len _ _ _ _ hq
  have hb2 := hb _ (Value.ref (s1.heap.objs.size + 1) :: us) I2.kIn hl
  rw [List.append_nil] at hb2
  refine z6g I1.kIn M.x M.fi (fun y => PySem.W.bind_fn I2.kIn (.ref y) M.fn) (by show us.length <= sizeLine; rw [<- r.length]; exact Nat.le_of_lt (z0D hz)) ?_
  refine wpAny_call (codeAny_mono (F.run _ X.stack _ _ ⟨Value.ref (s1.heap.objs.size + 1) :: us, []⟩ (Value.ref (s1.heap.objs.size + 1) :: us) _ _ E0 (hr.make C us []) (I2.env0.make C us []) hb2 r2 hq) fun rr s' hq' => ?_)
  cases rr with
  | error ev => exact (show False from hq').elim
  | ok fl =>
    cases fl with
    | ret u =>
      obtain ⟨v, H', I3, rv, ev, q3⟩ := I2.after hq'
      subst ev
      exact ⟨rv, s1.heap.objs.size + 1, H', rfl, Nat.le_trans I1.sz (Nat.le_succ _), I3, q3⟩
    | next => exact False.elim hq'
    | brk => exact False.elim hq'
    | cont => exact False.elim hq'
def zBi (C : Addr) (sp : Sp) (t : TA) (E : XK) : TS := fun _ σ H => t σ H fun vs H1 => vs.length <= 1000 /\ ∀ x, H1 x = none -> sp (.ref x :: vs) (upd H1 x (.ext (ErrO x C none))) (fun v H2 => v = .non /\ ∃ d, H2 x = some (.ext (ErrO x C d)) /\ E (.ref C) d (del H2 x)) E0
theorem z92 {x : Str} {C : Addr} {k j : Nat} {ps : List Str} {sp : Sp} {e : Expr} {es : List Expr} {t : TA} {p cp pos : Pos} {E : XK} (R : z5t X E) (hc : X.calm = true) (O : Oe X.prog X.w X.K X.mg X.base x C ps k sp) (hr : Room j X.A) (hg : Gl X x) (ha : PA X (e :: es) t) (hk : k + 1 <= j := by decide)
    (hdb : (x == ("__debug__" : Str)) = false := by decide) (he : starEach (e :: es) X.env = (false, eval e X.env) :: starEach es X.env := by rfl) (hpl : (backTo cp (starEach es X.env)).any (·.1) = false := by rfl) :
    PS X (.Raise (some (.Call (.Name x p) (e :: es) [] cp)) none pos) (zBi C sp t E) := by
  obtain ⟨fI, fd, m, M, b, F⟩ := O.ex
  intro pins s σ H D I h
  show wpAny (model X.prog X.w) X.A (do standAt pos; raiseStmt X.env (some (do let v <- eval (.Call (.Name x p) (e :: es) [] cp) X.env; standAt pos; pure v)) none) _ _ s
  refine wpAny_bind (wpAny_standAt (z2Z (K := X.K) (I.ok.hd hc) (wpAny_bind (wpAny_mono (zCa M F (hr.mono hk) hg m b ha I h hdb he hpl) (fun v s1 h1 => wpAny_bind (wpAny_standAt (wpAny_pure ?_))) fun _ _ z => z))))
  obtain ⟨a, H', rfl, hsz, I1, d, hx, q⟩ := h1
  exact ⟨a, C, d, rfl, I1.kIn, M.x, I1.errO hx, R _ _ _ _ _ _ _ I1 hx hsz q⟩
def zBj (C : Addr) (t : TA) (E : XK) : TS := fun _ σ H => t σ H fun vs H1 => vs.length <= 1000 /\ E (.ref C) none H1
end
abbrev X2h (X : Cx) (a : Addr) : Cx := { X with A := X.A.mark (some (.ref a)), calm := false, xe := fun _ _ => False }
section
variable {X : Cx} {pins : List (Addr × Obj)} {σ : St} {H : Hp} {s : Shared} {a : Addr}
theorem Cx.Ok.hand2 (ok : X.Ok) : (X2h X a).Ok :=
  ⟨ok.mod, ok.kind, ok.glob, ok.blt, ok.above, ok.inj, ok.has, ok.cab, (fun z => nomatch z), ok.frames, ok.stk, ok.exf, ok.bs, ok.bsz, ok.noex, ok.exfs, ok.funs, ok.frf⟩
theorem Inv.hand2 (I : Inv X pins σ H s) : Inv (X2h X a) pins σ H s := ⟨I.ok.hand2, I.os, I.bare, I.base, I.loc, I.cell, I.free, I.freeC, I.pin, I.hok, I.len⟩
theorem Inv.unhand2 (ok : X.Ok) (I : Inv (X2h X a) pins σ H s) : Inv X pins σ H s := ⟨ok, I.os, I.bare, I.base, I.loc, I.cell, I.free, I.freeC, I.pin, I.hok, I.len⟩
abbrev zBk (D : Ends) (i : Nat) : Ends := { nx := fun σ' H' => D.nx (σ'.set i none) H', rt := D.rt, bk := fun σ' H' => D.bk (σ'.set i none) H', ct := fun σ' H' => D.ct (σ'.set i none) H' }
theorem z7I {D : Ends} {f : Flow} {E : Value -> Shared -> Prop} {i : Nat} {n : Str} {hp : Pos} (ok : X.Ok) (hN : X.N.Nodup) (hi : X.N[i]? = some n) (hloc : X.env.scope.names.lookup n = some .local)
    (h : SP (X2h X a) pins (zBk D i) f s) : wpAny (model X.prog X.w) X.A (do bindName X.env n .none; unbindBehindTheSuite X.env n hp) (fun _ s' => SP X pins D f s') E s := by
  cases f with
  | next => obtain ⟨σ', H', I, q⟩ := h; exact z2X (I.unhand2 ok) hN hi hloc fun s' I' => ⟨_, H', I', q⟩
  | brk => obtain ⟨σ', H', I, q⟩ := h; exact z2X (I.unhand2 ok) hN hi hloc fun s' I' => ⟨_, H', I', q⟩
  | cont => obtain ⟨σ', H', I, q⟩ := h; exact z2X (I.unhand2 ok) hN hi hloc fun s' I' => ⟨_, H', I', q⟩
  | ret u => obtain ⟨v, σ', H', I, r, q⟩ := h; exact z2X (I.unhand2 ok) hN hi hloc fun s' I' => ⟨v, _, H', I', r, q⟩
end
section
variable {X : Cx} {G : Addr} {gn n : Str} {gp hp tp ep : Pos} {b₀ : Stmt} {suite : List Stmt} {i : Nat} {th : TS}
theorem zBl {pins : List (Addr × Obj)} {σ : St} {H1 H' : Hp} {s1 s' : Shared} {B : Heap} {a c t' : Addr} {d : Option Addr} {D : Ends} {E : Value -> Shared -> Prop} (I : Inv X pins σ H1 s1) (hst : X.stack = X.env :: X.outer) (hf : X.env.frame = some X.env.locals)
    (hgG : Gl X gn) (hmG : X.mg gn = some (.ref G)) (hG : XE X.K G) (hN : X.N.Nodup) (hi : X.N[i]? = some n) (hloc : X.env.scope.names.lookup n = some .local)
    (hs : ∀ a, PSs (X2h X a) (b₀ :: suite) th) (os : s'.os = s1.os) (bare : AllBare s'.gens) (sz : s1.heap.objs.size <= a) (F : Fly X.prog X.w X.stack H1 H' B a c t' s1.heap s'.heap) (hdct : ∃ o, s'.heap.get? a = some o /\ o.dict = d)
    (Zc : XE X.K c) (ab : PySem.W.mroIn X.K c (.ref G) = some true) (q : th (zBk D i) (σ.set i (some (.ref a))) (upd H' a (.ext (z7G a c d)))) (hdG : (gn == ("__debug__" : Str)) = false) :
    wpAny (model X.prog X.w) X.A (noteFrame (.ref a) X.env) (fun _ s₂ => wpAny (model X.prog X.w) X.A (setFlight (.ref a) none) (fun _ s₃ =>
      wpAny (model X.prog X.w) X.A (handleBy (.ref a) X.env [.ExceptHandler (some (.Name gn gp)) (some n) (b₀ :: suite) hp]) (SP X pins D) E s₃) E s₂) E s' := by
  have hfr : X.A.frames = some (X.env :: X.outer) := by rw [<- hst]; exact I.ok.frames
  have hfl : Heap.FlyingW B (X.env :: X.outer) a (.ref c) (.ref t') s'.heap := by rw [<- hst]; exact F.fl
  obtain ⟨o0, eo0, ed0⟩ := hdct
  refine wpAny_mono (z56 (z90 _ _) (wpAny_looks_onW (E := fun _ _ => False) (Q := fun _ s'' => ∃ h', s'' = { s' with heap := h' } /\ Heap.HeldW B (X.env :: X.outer) a (.ref c) (.ref t') X.env.locals h' /\ s'.heap.UpToSlots h') hfr hf hfl fun h' x y => ⟨h', rfl, x, y⟩)) (fun _ s'' h2 => ?_) fun _ _ z => z.1.elim
  obtain ⟨⟨h₄, rfl, held₄, sm₄⟩, rk₄⟩ := h2
  refine wpAny_mono (z56 (z24 _ _) (wpAny_landsW (E := fun _ _ => False) (s := { s' with heap := h₄ }) (Q := fun _ s'' => ∃ h', s'' = { s' with heap := h' } /\ Heap.FlyingW B (X.env :: X.outer) a (.ref c) (.ref t') h' /\ h₄.UpToSlots h') held₄ fun h' x y => ⟨h', rfl, x, y⟩)) (fun _ s'' h2 => ?_) fun _ _ z => z.1.elim
  obtain ⟨⟨h₅, rfl, fl₅, sm₅⟩, rk₅⟩ := h2
  have F₅ := F.on (by rw [hst]; exact fl₅) (sm₄.trans sm₅)
  have at5 : ∀ {h : Heap}, Fly X.prog X.w X.stack H1 H' B a c t' s1.heap h -> Inv X pins σ H' { s' with heap := h } := fun {h} Fh => I.call' (s' := { s' with heap := h }) os Fh.un (Fh.hok.kept Fh.fl.1) bare (fun b z => absurd z nin)
  have I₅ := at5 F₅
  obtain ⟨oe₅, e₅, c₅⟩ := F₅.fl.there
  have J₅ : Inv (X2h X a) pins σ H' { s' with heap := h₅ } := I₅.hand2
  refine wpAny_handleBy_cons (codeAny_handlers_test (z1v (X := X2h X a) J₅ hgG hmG ?_ hdG)) (by intro z; cases z)
  obtain ⟨bm, N, nm, qn, bs, sn, sub, ab', col, dd, k0, k1, k2, k3, k5, mN, hC, hN', T, _, cd0, hcd, hmro, _⟩ := XE.obj I₅.kIn Zc
  obtain ⟨bm2, N2, nm2, qn2, bs2, sn2, sub2, ab2, col2, dd2, j0, j1, j2, j3, j5, mN2, hC2, hN2, T2, _⟩ := XE.obj I₅.kIn hG
  have hsub : (Value.ref c :: bm).contains (.ref G) = true := by
    unfold PySem.W.mroIn at ab
    rw [hcd] at ab
    dsimp only [Option.bind] at ab
    rw [hmro, if_neg (by simp)] at ab
    exact Option.some.inj ab
  obtain ⟨sh, sg, sd, stk, sos⟩ := s'
  refine z3e hC hC2 e₅ c₅ (T2.hasType (X := "BaseException") (b := true) (by decide +kernel)) hsub (codeAny_handlers_suite_as ?_)
  refine wpAny_mono (z56 (z24 _ _) (lands_againW (E := fun _ _ => False) (s := ⟨h₅, sg, sd, stk, sos⟩) (Q := fun _ s'' => ∃ h', s'' = ⟨h', sg, sd, stk, sos⟩ /\ Heap.FlyingW B (X.env :: X.outer) a (.ref c) (.ref t') h' /\ h₅.UpToSlots h') (by rw [hst] at F₅; exact F₅.fl) fun h' x y => ⟨h', rfl, x, y⟩)) (fun _ s'' h2 => ?_) fun _ _ z => z.1.elim
  obtain ⟨⟨h₆, rfl, fl₆, sm₆⟩, rk₆⟩ := h2
  have F₆ := F₅.on (by rw [hst]; exact fl₆) sm₆
  have I₆ := at5 F₆
  obtain ⟨_, _, _, oe, vs, _, _, _, e₆, c₆, d₆, _⟩ := F₆.fl
  have rk := (rk₄.trans rk₅).trans rk₆
  have ET : z7G a c d h₆ := ⟨oe, vs, e₆, c₆.1, d₆, (rk.get eo0 e₆).trans ed0⟩
  have J₆ : Inv X pins σ (upd H' a (.ext (z7G a c d))) ⟨h₆, sg, sd, stk, sos⟩ := I₆.adopt (I.fpOk sz F₆.free) (fun _ _ _ e => e) ⟨oe, e₆⟩ (zA1 ET)
  refine z45 (X := X2h X a) (v := .ref a) J₆.hand2 hN hi (.inl hloc) rfl (fun s₇ J₇ => ?_) (.inr hloc)
  refine wpAny_mono (hs a pins s₇ _ _ _ J₇ q) (fun f s₈ h₈ => ?_) fun _ _ z => z.elim
  exact z7I I.ok hN hi hloc h₈
abbrev TEx := St -> Hp -> VK -> XK -> Prop
def PEx (X : Cx) (e : Expr) (t : TEx) : Prop := ∀ (pins : List (Addr × Obj)) (s : Shared) (σ : St) (H : Hp) (Q : VK) (E : XK), Inv X pins σ H s -> t σ H Q E ->
  wpAny (model X.prog X.w) X.A (eval e X.env) (EP X pins σ Q) (fun ev s' => ∃ H1 s1, Inv X pins σ H1 s1 /\ CX2 X.prog X.w X.stack H1 s1 E ev s') s
def zAu (sp : Sp) (dvs : List V) (t : TA) : TEx := fun σ H Q E => t σ H fun vs H1 => sp (vs ++ dvs) H1 Q E
theorem zA7 {k : Nat} {fa : Addr} {fd : FuncData} {ps : List Str} {sp : Sp} {dvs : List V} {ds : List Value} {x : Str} {p cp : Pos} {e : Expr} {es : List Expr} {t : TA} (F : FnOk X.prog X.w X.K X.mg X.base (CX2 X.prog X.w) k fa fd ps sp) (hr : Room k X.A) (hg : Gl X x) (hm : X.mg x = some (.ref fa)) (hk : PySem.W.keepIn X.K (.ref fa) = true) (hb : Binds X.K fd ps ds) (hd : Vals dvs ds)
    (ha : PA X.nox (e :: es) t) (hdb : (x == ("__debug__" : Str)) = false := by decide) (he : starEach (e :: es) X.env = (false, eval e X.env) :: starEach es X.env := by rfl) (hpl : (backTo cp (starEach es X.env)).any (·.1) = false := by rfl) :
    PEx X (.Call (.Name x p) (e :: es) [] cp) (zAu sp dvs t) := by
  intro pins s σ H Q E I h
  refine wpAny_Call_Name_kw (z1v I hg hm ?_ hdb)
  refine PySem.W.callWith_K (h₀ := X.base) I.ok.mod.kin hk ?_ he hpl
  refine wpAny_mono (ha cp pins s σ H _ (I.wish _) h) (fun us s1 ⟨vs, H1, I1, r, hsp⟩ => ⟨I1.kIn, ?_⟩) fun _ _ z => z.elim
  have I1' : Inv X pins σ H1 s1 := I1.unwish
  have r2 : Vals (vs ++ dvs) (us ++ ds) := r.append hd
  have hl : (us ++ ds).length = ps.length := by rw [<- r2.length]; exact F.len _ _ _ _ hsp
  refine wpAny_call (codeAny_mono (F.run X.A X.stack s1 H1 ⟨us, []⟩ (us ++ ds) (vs ++ dvs) _ E hr I1'.env0 (hb s1 us I1'.kIn hl) r2 hsp) fun rr s' hr' => ?_)
  cases rr with
  | error ev => exact ⟨H1, s1, I1', hr'⟩
  | ok fl =>
    cases fl with
    | ret u => exact I1'.after hr'
    | next => exact False.elim hr'
    | brk => exact False.elim hr'
    | cont => exact False.elim hr'
def hE (K : PySem.W.Frag) (G : Addr) (i : Nat) (th : TS) (D : Ends) (σ : St) (E : XK) : Prop := ∀ Cv d H2, E Cv d H2 -> ∃ c, Cv = .ref c /\ XE K c /\ PySem.W.mroIn K c (.ref G) = some true /\ ∀ a, H2 a = none -> th (zBk D i) (σ.set i (some (.ref a))) (upd H2 a (.ext (z7G a c d)))
def zDR (K : PySem.W.Frag) (G : Addr) (t : TEx) (i : Nat) (th : TS) : TS := fun D σ H => ∃ E : XK, t σ H (fun _ H2 => D.nx σ H2) E /\ hE K G i th D σ E
structure Gc (K : PySem.W.Frag) (mg : Str -> Option Value) (x : Str) (G : Addr) : Prop where
  m : mg x = some (.ref G)
  e : XE K G
variable {e : Expr} {t : TEx}
theorem zBm (ht : PEx X e t) (hst : X.stack = X.env :: X.outer) (hf : X.env.frame = some X.env.locals) (hgG : Gl X gn) (Z : Gc X.K X.mg gn G) (hN : X.N.Nodup) (hi : X.N[i]? = some n) (hloc : X.env.scope.names.lookup n = some .local)
    (hs : ∀ a, PSs (X2h X a) (b₀ :: suite) th) (hdG : (gn == ("__debug__" : Str)) = false := by decide) (hsw : swapsWith e none ep.line X.env = pure false := by rfl) :
    PS X (.Try [.Expr e ep] [.ExceptHandler (some (.Name gn gp)) (some n) (b₀ :: suite) hp] [] [] tp) (zDR X.K G t i th) := by
  intro pins s σ H D I h
  obtain ⟨E, h, hh⟩ := h
  refine wpAny_Try_except (wpAny_execs_cons (wpAny_Expr_any ?_ I.quiet hsw))
  refine wpAny_mono (ht pins s σ H _ E I h) (fun u s1 ⟨v, H1, I1, _, q⟩ => wpAny_execs_nil (wpAny_execs_nil ⟨σ, H1, I1, q⟩)) fun ev s' ⟨H1, s1, I1, h2⟩ => ?_
  obtain ⟨a, t', C, B, H', d, rfl, os, bare, sz, Fl, hd, q⟩ := h2
  obtain ⟨c, ec, Zc, ab, q⟩ := hh _ _ _ q
  cases ec
  exact zBl I1 hst hf hgG Z.m Z.e hN hi hloc hs os bare sz Fl hd Zc ab (q a Fl.free) hdG
end
structure Ow2 (P : Program) (w : World) (K : PySem.W.Frag) (mg : Str -> Option Value) (base : Heap) (x : Str) (ps : List Str) (k : Nat) (sp : Sp) : Prop where
  ex : ∃ (f : Addr) (fd : FuncData), mg x = some (.ref f) /\ PySem.W.keepIn K (.ref f) = true /\ Binds K fd ps [] /\ FnOk P w K mg base (CX2 P w) k f fd ps sp
theorem Df.ow2 {P : Program} {w : World} {K : PySem.W.Frag} {mg : Str -> Option Value} {base : Heap} {x : Str} {st : Stmt} {ps : List Str} {f : Addr} {fd : FuncData} {k : Nat} {sp : Sp} (D : Df K mg x st ps f fd) (F : FnOk P w K mg base (CX2 P w) k f fd ps sp) :
    Ow2 P w K mg base x ps k sp := ⟨f, fd, D.m, D.F.kp, D.b, F⟩
theorem Fun.ok2 {P : Program} {w : World} {K : PySem.W.Frag} {mg : Str -> Option Value} {base : Heap} {x qual : Str} {st : Stmt} {f : Addr} {fd : FuncData} {N ps : List Str} {k : Nat} {sp : Sp} (F : Fun K x qual st f fd) (S : FnScope N ps (z02 st)) (len : ∀ vs H Q E, sp vs H Q E -> vs.length = ps.length)
    (hbody : ∀ (cdv : Value) (A : Around) (outer : List Env) (s : Shared) (H : Hp) (vs : List V) (Q : VK) (E : XK), Room k (A.deeper (envOfC qual (z02 st) s.heap.objs.size f cdv)) -> sp vs H Q E ->
      ∃ t, PSs (z81 (CX2 P w) P w K mg base N qual (z02 st) f cdv A outer s H E) (z0A st) t /\ t { nx := fun _ H' => Q .non H', rt := Q } (start N vs) H) : FnOk P w K mg base (CX2 P w) (k + 1) f fd ps sp := by
  obtain ⟨oc, od, kV, doc, pm, an, cdv, ct, osl, rfl, lk, hcd⟩ := F.ex
  exact z9i lk hcd S len fun A outer s H vs Q E hr hsp => hbody cdv A outer s H vs Q E hr hsp
section
variable {X : Cx} {k j : Nat} {ps : List Str} {sp : Sp} {x : Str} {p pos : Pos} {e : Expr} {es : List Expr} {t : TA} {E : XK}
theorem zA8 (O : Ow2 X.prog X.w X.K X.mg X.base x ps k sp) (hr : Room j X.A) (hg : Gl X x) (ha : PA X (e :: es) t) (hk : k <= j := by decide) (hdb : (x == ("__debug__" : Str)) = false := by decide)
    (he : starEach (e :: es) X.env = (false, eval e X.env) :: starEach es X.env := by rfl) (hpl : (backTo pos (starEach es X.env)).any (·.1) = false := by rfl) :
    PE X (.Call (.Name x p) (e :: es) [] pos) (z76 sp [] E0 t) := by
  obtain ⟨f, fd, m, kp, b, F⟩ := O.ex
  exact z4A F (hr.mono hk) hg m kp b .nil zAs ha hdb he hpl
theorem z6m (O : Ow2 X.prog X.w X.K X.mg X.base x ps k sp) (hr : Room j X.A) (hx : z1g (CX2 X.prog X.w) X E) (hg : Gl X x) (ha : PA X (e :: es) t) (hk : k <= j := by decide) (hdb : (x == ("__debug__" : Str)) = false := by decide)
    (he : starEach (e :: es) X.env = (false, eval e X.env) :: starEach es X.env := by rfl) (hpl : (backTo pos (starEach es X.env)).any (·.1) = false := by rfl) :
    PE X (.Call (.Name x p) (e :: es) [] pos) (z76 sp [] E t) := by
  obtain ⟨f, fd, m, kp, b, F⟩ := O.ex
  exact z4A F (hr.mono hk) hg m kp b .nil hx ha hdb he hpl
theorem zA9 (O : Ow2 X.prog X.w X.K X.mg X.base x ps k sp) (hr : Room j X.A) (hg : Gl X x) (ha : PA X.nox (e :: es) t) (hk : k <= j := by decide) (hdb : (x == ("__debug__" : Str)) = false := by decide)
    (he : starEach (e :: es) X.env = (false, eval e X.env) :: starEach es X.env := by rfl) (hpl : (backTo pos (starEach es X.env)).any (·.1) = false := by rfl) :
    PEx X (.Call (.Name x p) (e :: es) [] pos) (zAu sp [] t) := by
  obtain ⟨f, fd, m, kp, b, F⟩ := O.ex
  exact zA7 F (hr.mono hk) hg m kp b .nil ha hdb he hpl
end
theorem z7J {H : Hp} {x d C : Addr} {fs : List (Str × V)} (nx : H x = none) (nd : (upd H x (.ext (ErrO x C none))) d = none) (hd : d ≠ x) :
    (upd (upd (upd H x (.ext (ErrO x C none))) x (.ext (ErrO x C (some d)))) d (.ext (z3W d fs))) x = some (.ext (ErrO x C (some d))) /\
    Same H (del (upd (upd (upd H x (.ext (ErrO x C none))) x (.ext (ErrO x C (some d)))) d (.ext (z3W d fs))) x) /\
    (del (upd (upd (upd H x (.ext (ErrO x C none))) x (.ext (ErrO x C (some d)))) d (.ext (z3W d fs))) x) d = some (.ext (z3W d fs)) := by
  rw [z07 hd] at nd
  refine ⟨by rw [z07 (Ne.symm hd), upd_same], fun b o e => ?_, by rw [z6l hd, upd_same]⟩
  rw [z6l (z08 e nx), z07 (z08 e nd), z07 (z08 e nx), z07 (z08 e nx)]
  exact e
theorem z7K {H : Hp} {a d C : Addr} {fs : List (Str × V)} (na : H a = none) (hd : H d = some (.ext (z3W d fs))) : Same H (upd H a (.ext (z7G a C (some d)))) /\ z55 (upd H a (.ext (z7G a C (some d)))) a C fs :=
  ⟨Same.new na, .inr ⟨d, z08 hd na, .inr upd_same, by rw [z07 (z08 hd na)]; exact hd⟩⟩
section
variable {X : Cx} {pins : List (Addr × Obj)} {σ : St}
theorem zBn {H : Hp} {a : Addr} {o : HO} (h : H a = none) : del (upd H a o) a = H := by
  funext b
  unfold del
  split
  . rename_i e; rw [e, h]
  . rename_i e; exact z07 e
theorem z25 {x : Str} {C : Addr} {e : Expr} {es : List Expr} {t : TA} {p cp pos : Pos} {E : XK} (R : z5t X E) (hc : X.calm = true) (O : Oo X.K X.mg x C) (hg : Gl X x) (ha : PA X (e :: es) t)
    (hdb : (x == ("__debug__" : Str)) = false := by decide) (he : starEach (e :: es) X.env = (false, eval e X.env) :: starEach es X.env := by rfl) (hpl : (backTo cp (starEach es X.env)).any (·.1) = false := by rfl) :
    PS X (.Raise (some (.Call (.Name x p) (e :: es) [] cp)) none pos) (zBj C t E) := by
  intro pins s σ H D I h
  have h' : t σ H fun vs H1 => vs.length <= 1000 /\ E (.ref C) none H1 := h
  show wpAny (model X.prog X.w) X.A (do standAt pos; raiseStmt X.env (some (do let v <- eval (.Call (.Name x p) (e :: es) [] cp) X.env; standAt pos; pure v)) none) _ _ s
  refine wpAny_bind (wpAny_standAt (z2Z (K := X.K) (I.ok.hd hc) (wpAny_bind ?_)))
  refine wpAny_Call_Name_kw (z1v I hg O.m ?_ hdb)
  refine PySem.W.callWith_K (h₀ := X.base) I.ok.mod.kin O.e.kp (thn (ha cp pins s σ H _ I h') fun us s1 ⟨vs, H1, I1, r, hz, q⟩ => ⟨I1.kIn, ?_⟩) he hpl
  have hf := I1.hok.fresh (Nat.le_succ s1.heap.objs.size)
  have hus : us.length <= sizeLine := by rw [<- r.length]; exact Nat.le_of_lt (z0D hz)
  have I2 := Inv.newErr (C := C) (us := us) I1
  refine z6g I1.kIn O.e.x O.e.fi (fun y => PySem.W.Looks.of_pure (F.excBase_ValueError.init.bind _)) hus ?_
  refine z8t (s := { s1 with heap := zA0 s1.heap C us }) I2.kIn O.e.x z8u hus fun h' hk ho => ⟨rfl, wpAny_bind (wpAny_standAt (wpAny_pure ?_))⟩
  have J := I2.write (x := s1.heap.objs.size + 1) (e := s1.heap.objs.size + 1) (t' := s1.toks) (by rw [upd_same]; trivial) (.inl rfl) (fun b u hb z => hk b u hb z) (let ⟨o, _, z, _⟩ := ho; ⟨o, z⟩) (z38 ho)
  rw [z5Y] at J
  refine ⟨s1.heap.objs.size + 1, C, none, rfl, J.kIn, O.e.x, ho, R _ _ _ _ _ _ _ J upd_same (Nat.le_trans I1.sz (Nat.le_succ _)) ?_⟩
  rw [zBn hf]
  exact q
end
structure Om (P : Program) (w : World) (K : PySem.W.Frag) (mg : Str -> Option Value) (base : Heap) (CX : CXT) (C : Addr) (m : Str) (ps : List Str) (dvs : List V) (k : Nat) (sp : Sp) : Prop where
  ex : ∃ (f : Addr) (fd : FuncData) (ds : List Value), Cls K C /\ Meth K C m f /\ Binds K fd ps ds /\ Vals dvs ds /\ FnOk P w K mg base CX k f fd ps sp
structure Oc (P : Program) (w : World) (K : PySem.W.Frag) (mg : Str -> Option Value) (base : Heap) (CX : CXT) (x : Str) (C : Addr) (ps : List Str) (dvs : List V) (k : Nat) (sp : Sp) : Prop where
  ex : ∃ (f : Addr) (fd : FuncData) (ds : List Value), mg x = some (.ref C) /\ Mk K C f /\ Binds K fd ps ds /\ Vals dvs ds /\ FnOk P w K mg base CX k f fd ps sp
section
variable {X : Cx} {CX : CXT} {k j : Nat} {C : Addr} {ps : List Str} {sp : Sp} {dvs : List V} {E : XK} {x m : Str} {p pos apos : Pos} {e o : Expr} {es : List Expr} {ta : TE} {t : TA}
theorem zBo {pl : Sem Bool} (O : Om X.prog X.w X.K X.mg X.base CX C m ps dvs k sp) (hr : Room j X.A) (hx : z1g CX X E) (he : PE X o ta) (ha : PA X (e :: es) t) (hk : k <= j := by decide)
    (hst : starEach (e :: es) X.env = (false, eval e X.env) :: starEach es X.env := by rfl) (hpl : (backTo pos (starEach es X.env)).any (·.1) = false := by rfl)
    (ht : eval (.Call (.Attribute o m apos) (e :: es) [] pos) X.env = (do
      let ov <- eval o X.env
      standAt apos.atName
      let (f, first) <- holding [ov] (getMethod ov m pl)
      callWith pos f first (backTo pos (starEach (e :: es) X.env)) (backToKw pos (keywordEach [] X.env))) := by rfl) :
    PE X (.Call (.Attribute o m apos) (e :: es) [] pos) (z9f C m sp dvs E ta t) := by
  obtain ⟨f, fd, ds, c, hm, hb, hd, F⟩ := O.ex
  exact zBC he c hm F (hr.mono hk) hb hd hx ha hst hpl ht
theorem zAv {pl : Sem Bool} (O : Om X.prog X.w X.K X.mg X.base CX C m ps dvs k sp) (hr : Room j X.A) (hx : z1g CX X E) (he : PE X o ta) (hk : k <= j := by decide)
    (ht : eval (.Call (.Attribute o m apos) [] [] pos) X.env = (do
      let ov <- eval o X.env
      standAt apos.atName
      let (f, first) <- holding [ov] (getMethod ov m pl)
      callWith pos f first (backTo pos (starEach [] X.env)) (backToKw pos (keywordEach [] X.env))) := by rfl) :
    PE X (.Call (.Attribute o m apos) [] [] pos) (z9f C m sp dvs E ta zCF) := by
  obtain ⟨f, fd, ds, c, hm, hb, hd, F⟩ := O.ex
  exact z9g he c hm F (hr.mono hk) hb hd hx ht
theorem zDS (O : Oc X.prog X.w X.K X.mg X.base CX x C ps dvs k sp) (hr : Room j X.A) (hx : z1g CX X E) (hg : Gl X x) (ha : PA X (e :: es) t) (hk : k + 1 <= j := by decide)
    (hdb : (x == ("__debug__" : Str)) = false := by decide) (he : starEach (e :: es) X.env = (false, eval e X.env) :: starEach es X.env := by rfl) (hpl : (backTo pos (starEach es X.env)).any (·.1) = false := by rfl) :
    PE X (.Call (.Name x p) (e :: es) [] pos) (zCG C sp dvs E t) := by
  obtain ⟨f, fd, ds, m, M, hb, hd, F⟩ := O.ex
  exact zBD M F (hr.mono hk) hg m hb hd hx ha hdb he hpl
end
theorem FunD.ok2 {P : Program} {w : World} {K : PySem.W.Frag} {mg : Str -> Option Value} {base : Heap} {x qual : Str} {st : Stmt} {f T : Addr} {fd : FuncData} {N ps : List Str} {k : Nat} {sp : Sp} (F : FunD K x qual st f fd T) (S : FnScope N ps (z02 st)) (len : ∀ vs H Q E, sp vs H Q E -> vs.length = ps.length)
    (hbody : ∀ (cdv : Value) (A : Around) (outer : List Env) (s : Shared) (H : Hp) (vs : List V) (Q : VK) (E : XK), Room k (A.deeper (envOfC qual (z02 st) s.heap.objs.size f cdv)) -> sp vs H Q E ->
      ∃ t, PSs (z81 (CX2 P w) P w K mg base N qual (z02 st) f cdv A outer s H E) (z0A st) t /\ t { nx := fun _ H' => Q .non H', rt := Q } (start N vs) H) : FnOk P w K mg base (CX2 P w) (k + 1) f fd ps sp := by
  obtain ⟨oc, od, kV, doc, pm, an, cdv, ct, osl, rfl, lk, hcd⟩ := F.ex
  exact z9i lk hcd S len fun A outer s H vs Q E hr hsp => hbody cdv A outer s H vs Q E hr hsp
section
variable {X : Cx} {a : Addr}
theorem z6n {e : Expr} {te : TE} {f : Str} {pos : Pos} (he : PE (X2h X a) e te) (hb : attributeBase e f (X2h X a).env (eval e (X2h X a).env) = eval e (X2h X a).env) : PE (X2h X a) (.Attribute e f pos) (zCW X.K te f) := zBa he hb
theorem z7L : z2G (X2h X a) (.builtin "isinstance") (fun xs H Q => ∃ x C fs y u b, xs = [.ref x, y] /\ z55 H x C fs /\ XE X.K C /\ zDL y = some u /\ PySem.W.kitOne X.K (.ref C) u = some b /\ Q (.bl b) H) := z8v
end
end L2
namespace L2
open PySem PySem.Spec PyProof.Rows G
theorem zAA {H H' : Hp} (s : Same H H') {x : V} {T : String} (h : tyS H x = some T) : tyS H' x = some T := by
  cases x with
  | ref a =>
    simp only [tyS] at h ⊢
    split at h
    . rename_i e; rw [s _ _ e]; exact h
    . rename_i e; rw [s _ _ e]; exact h
    . rename_i e; rw [s _ _ e]; exact h
    . rename_i e; rw [s _ _ e]; exact h
    . rename_i e; rw [s _ _ e]; exact h
    . cases h
  | _ => exact h
def Ty (H : Hp) (x : V) : Prop := ∃ T, tyS H x = some T
theorem Ty.mono {H H' : Hp} {x : V} (s : Same H H') (h : Ty H x) : Ty H' x := by
  obtain ⟨T, h⟩ := h
  exact ⟨T, zAA s h⟩
def zDT (x : V) : Int := match x with
  | .int i => i
  | _ => 0
def zDj (x : V) : Bool := match x with
  | .int i => decide (0 <= i)
  | _ => false
def z5u (w : Nat) (P M : V) : Bool := match P, M with
  | .int p, .int m => decide (0 <= p) && (decide (0 <= m) && z3c w p m)
  | _, _ => false
def View (H : Hp) (c : V) : Option (List V) -> Prop
  | none => ∃ T, tyS H c = some T /\ (T == "tuple") = false
  | some xs => ∃ q, c = .ref q /\ H q = some (.tup xs) /\ xs.length <= 100 /\ ∀ x ∈ xs, Ty H x
theorem View.ty {H : Hp} {c : V} {cv : Option (List V)} (h : View H c cv) : ∃ T, tyS H c = some T /\ (T == "tuple") = cv.isSome := by
  cases cv with
  | none => exact h
  | some xs =>
    obtain ⟨q, rfl, h2, _⟩ := h
    exact ⟨"tuple", by simp only [tyS, h2], rfl⟩
def z3h (a b : V) (cv dv : Option (List V)) : Bool := inB a 1 64 && (inB b 1 64 && match cv, dv with
  | some ps, some ms => decide ((ps.length : Int) = zDT b) && decide ((ms.length : Int) = zDT b)
  | _, _ => false)
def z7M (a b : V) (cv dv : Option (List V)) : Bool := z3h a b cv dv && match cv, dv with
  | some ps, some ms => (ps.zip ms).all fun z => z5u (zDT a).toNat z.1 z.2
  | _, _ => false
inductive IsP (H : Hp) (x : V) : Bool -> Prop
  | no (T : String) : tyS H x = some T -> (T == "tuple") = false -> IsP H x false
  | few (p : Addr) (xs : List V) : x = .ref p -> H p = some (.tup xs) -> xs.length ≠ 4 -> IsP H x false
  | four (p : Addr) (a b c d : V) (cv dv : Option (List V)) : x = .ref p -> H p = some (.tup [a, b, c, d]) -> Ty H a -> Ty H b -> View H c cv -> View H d dv -> IsP H x (z7M a b cv dv)
theorem z5v {x : V} {a b : Int} (h : inB x a b = true) : ∃ i, x = .int i /\ a <= i /\ i <= b := by
  cases x with
  | int i =>
    simp only [inB, Bool.and_eq_true, decide_eq_true_eq] at h
    exact ⟨i, rfl, h.1, h.2⟩
  | _ => exact absurd (show false = true from h) Bool.false_ne_true
theorem zBp : ∀ T ∈ zAc, z79 T "tuple" = (T == "tuple") := by decide
theorem z4R {H : Hp} {x : V} {T : String} (h : tyS H x = some T) : z79 T "tuple" = (T == "tuple") := zBp T (z4C h)
theorem z93 {w : Nat} {P M : V} (h : zDj P = false) : z5u w P M = false := by
  cases P with
  | int p =>
    cases M with
    | int m =>
      show (decide (0 <= p) && _) = false
      rw [show decide (0 <= p) = false from h, Bool.false_and]
    | _ => rfl
  | _ => rfl
theorem z94 {w : Nat} {P M : V} (h : zDj M = false) : z5u w P M = false := by
  cases P with
  | int p =>
    cases M with
    | int m =>
      show (decide (0 <= p) && (decide (0 <= m) && _)) = false
      rw [show decide (0 <= m) = false from h, Bool.false_and, Bool.and_false]
    | _ => rfl
  | _ => rfl
theorem z3x : ∀ {r : List (Option Int)}, Cells r -> z3c r.length (z06 r) (z0E r) = true
  | [], _ => rfl
  | c :: r, h => by
    have ih := z3x (r := r) fun x hx => h x (List.mem_cons_of_mem _ hx)
    have hc := h c (List.mem_cons_self ..)
    show ((decide (((if c.isSome = true then 1 else 0) + 2 * z0E r) % 2 = 1) || decide ((c.getD 0 + 16 * z06 r) % 16 = 0)) && z3c r.length ((c.getD 0 + 16 * z06 r) / 16) (((if c.isSome = true then 1 else 0) + 2 * z0E r) / 2)) = true
    cases c with
    | none =>
      have e1 : ((none : Option Int).getD 0 + 16 * z06 r) / 16 = z06 r := by show (0 + 16 * z06 r) / 16 = _; omega
      have e2 : ((if (none : Option Int).isSome = true then (1 : Int) else 0) + 2 * z0E r) / 2 = z0E r := by rw [if_neg (by simp)]; omega
      have e3 : ((none : Option Int).getD 0 + 16 * z06 r) % 16 = 0 := by show (0 + 16 * z06 r) % 16 = _; omega
      rw [e1, e2, ih, decide_eq_true e3, Bool.or_true]
      rfl
    | some z =>
      obtain ⟨z0, z1⟩ := hc z rfl
      have e1 : ((some z : Option Int).getD 0 + 16 * z06 r) / 16 = z06 r := by show (z + 16 * z06 r) / 16 = _; omega
      have e2 : ((if (some z : Option Int).isSome = true then (1 : Int) else 0) + 2 * z0E r) / 2 = z0E r := by rw [if_pos (show (some z).isSome = true from rfl)]; omega
      have e3 : ((if (some z : Option Int).isSome = true then (1 : Int) else 0) + 2 * z0E r) % 2 = 1 := by rw [if_pos (show (some z).isSome = true from rfl)]; omega
      rw [e1, e2, ih, decide_eq_true e3, Bool.true_or]
      rfl
theorem z6o {w : Nat} : ∀ {rows : List (List (Option Int))}, (∀ r ∈ rows, r.length = w /\ Cells r) -> (((rows.map z06).map V.int).zip ((rows.map z0E).map V.int)).all (fun z => z5u w z.1 z.2) = true
  | [], _ => rfl
  | r :: rows, h => by
    have ih := z6o (w := w) (rows := rows) fun x hx => h x (List.mem_cons_of_mem _ hx)
    obtain ⟨hw, hc⟩ := h r (List.mem_cons_self ..)
    have hp := z27 hc
    have hm := z21 r
    have ho := z3x hc
    rw [hw] at ho
    show ((decide (0 <= z06 r) && (decide (0 <= z0E r) && z3c w (z06 r) (z0E r))) && (((rows.map z06).map V.int).zip ((rows.map z0E).map V.int)).all (fun z => z5u w z.1 z.2)) = true
    rw [ih, ho, decide_eq_true hp.1, decide_eq_true hm.1]
    rfl
theorem View.ints {H : Hp} {q : Addr} {ns : List Int} (h : H q = some (.tup (ns.map V.int))) (hn : ns.length <= 100) : View H (.ref q) (some (ns.map V.int)) :=
  ⟨q, rfl, h, by rw [List.length_map]; exact hn, fun x hx => by
    obtain ⟨n, _, rfl⟩ := List.mem_map.mp hx
    exact ⟨"int", rfl⟩⟩
theorem PicAt.isP {H : Hp} {p : Addr} {w h : Nat} {rows : List (List (Option Int))} (R : Rect w h rows) (P : PicAt H p w rows) : IsP H (.ref p) true := by
  obtain ⟨pp, pm, h1, h2, h3⟩ := P
  have hl := R.len
  have hh := R.h2
  have k1 := R.h1
  have w1 := R.w1
  have w2 := R.w2
  have q := IsP.four p _ _ _ _ _ _ rfl h1 ⟨"int", rfl⟩ ⟨"int", rfl⟩ (View.ints (ns := rows.map z06) h2 (by rw [List.length_map]; omega)) (View.ints (ns := rows.map z0E) h3 (by rw [List.length_map]; omega))
  have e : z7M (.int (w : Int)) (.int (rows.length : Int)) (some ((rows.map z06).map V.int)) (some ((rows.map z0E).map V.int)) = true := by
    show ((decide ((1 : Int) <= (w : Int)) && decide ((w : Int) <= 64)) && ((decide ((1 : Int) <= (rows.length : Int)) && decide ((rows.length : Int) <= 64)) && (decide ((((rows.map z06).map V.int).length : Int) = (rows.length : Int)) && decide ((((rows.map z0E).map V.int).length : Int) = (rows.length : Int))))
      && (((rows.map z06).map V.int).zip ((rows.map z0E).map V.int)).all (fun z => z5u ((w : Int)).toNat z.1 z.2)) = true
    have e0 : ((w : Int)).toNat = w := by omega
    rw [e0, z6o R.row, List.length_map, List.length_map, List.length_map, List.length_map, decide_eq_true (by omega), decide_eq_true (by omega), decide_eq_true (by omega), decide_eq_true (by omega), decide_eq_true rfl]
    rfl
  rw [e] at q
  exact q
def zAw : Sp := fun vs H Q _ => ∃ (w : Int) (P M : V), vs = [.int w, P, M] /\ 1 <= w /\ w <= 64 /\ Ty H P /\ Ty H M /\ Q (.bl (z5u w.toNat P M)) H
def zAx : Sp := fun vs H Q _ => ∃ x, vs = [x] /\ ((∃ T, tyS H x = some T /\ (T == "tuple") = false /\ Q (.bl false) H) \/ (∃ p xs, x = .ref p /\ H p = some (.tup xs) /\ xs.length ≠ 4 /\ Q (.bl false) H) \/
  ∃ p a b c d cv dv, x = .ref p /\ H p = some (.tup [a, b, c, d]) /\ Ty H a /\ Ty H b /\ View H c cv /\ View H d dv /\ Q (.bl (z3h a b cv dv)) H)
def zCb : Sp := fun vs H Q _ => ∃ x k, vs = [x] /\ IsP H x k /\ ∀ H', Same H H' -> Q (.bl k) H'
def Its (z : Str) : It := ⟨fun i _ => i < z.cps.size, fun i H x H' => H' = H /\ ∃ c, z.cps[i]? = some c /\ x = .str ⟨#[c]⟩, fun i _ => z.cps.size <= i⟩
theorem z2a (z : Str) : (z.cps.all (· < 128) = true /\ strIterType z = "str_ascii_iterator") \/ (z.cps.all (· < 128) = false /\ strIterType z = "str_iterator") := by
  unfold strIterType
  cases z.cps.all (· < 128) with
  | true => exact .inl ⟨rfl, rfl⟩
  | false => exact .inr ⟨rfl, rfl⟩
theorem z7N (z : Str) : ["enumerate", "zip", "dict_itemiterator", "dict_reverseitemiterator", "odict_iterator", "itertools.zip_longest", "itertools.pairwise"].contains (strIterType z) = false := by
  rcases z2a z with ⟨_, e⟩ | ⟨_, e⟩ <;> rw [e] <;> decide
section
variable {prog : Program} {w : World} {A : Around} {E : Value -> Shared -> Prop} {s : Shared}
theorem z7O {it : Addr} {z : Str} {t : Tok} {i c : Nat} {Q : Option Value -> Shared -> Prop} (hit : s.heap.IsStrIter it (strIterType z) z t i) (hx : z.cps[i]? = some c)
    (k : ∀ h', h'.IsStrIter it (strIterType z) z t (i + 1) -> Heap.SameBut it s.heap h' -> Q (some (.str ⟨#[c]⟩ s.toks)) { s with heap := h', toks := s.toks + 1 }) : wpAny (model prog w) A (pyNext (.ref it)) Q E s := by
  rcases z2a z with ⟨_, e⟩ | ⟨_, e⟩
  . rw [e] at hit k
    exact wpAny_pyNext_ascii_item hit hx k
  . rw [e] at hit k
    exact wpAny_pyNext_wide_item hit hx k
theorem z95 {it : Addr} {z : Str} {t : Tok} {i : Nat} {Q : Option Value -> Shared -> Prop} (hh : A.handled = none) (hit : s.heap.IsStrIter it (strIterType z) z t i) (hx : z.cps[i]? = none)
    (k : ∀ h', Heap.ExtBut it s.heap h' -> Q none { s with heap := h' }) : wpAny (model prog w) A (pyNext (.ref it)) Q E s := by
  rcases z2a z with ⟨_, e⟩ | ⟨_, e⟩
  . rw [e] at hit
    exact wpAny_pyNext_ascii_end hh hit hx k
  . rw [e] at hit
    exact wpAny_pyNext_wide_end hh hit hx k
theorem z7P {it : Addr} {z : Str} {t : Tok} {i : Nat} {Q : Value -> Shared -> Prop} (hit : s.heap.IsStrIter it (strIterType z) z t i) (h : Q (.ref it) s) : wpAny (model prog w) A (pyIter (.ref it)) Q E s := by
  rcases z2a z with ⟨_, e⟩ | ⟨_, e⟩
  . rw [e] at hit
    exact wpAny_pyIter_striter_ascii hit h
  . rw [e] at hit
    exact wpAny_pyIter_striter_wide hit h
end
theorem z57 {prog : Program} {w : World} {A : Around} (hh : A.handled = none) (it : Addr) (z : Str) (t : Tok) :
    Draws prog w A it [it] z.cps.size (fun i v => ∃ c u, z.cps[i]? = some c /\ v = .str ⟨#[c]⟩ u) (fun i h => h.IsStrIter it (strIterType z) z t i) := by
  rcases z2a z with ⟨_, e⟩ | ⟨_, e⟩
  . rw [e]
    exact Draws.strAscii hh it z t
  . rw [e]
    exact Draws.strWide hh it z t
theorem z2k {h h' : Heap} {it : Addr} {ty : String} {z : Str} {t : Tok} {i : Nat} (x : h.IsStrIter it ty z t i) (k : ∀ o, h.get? it = some o -> h'.get? it = some o) : h'.IsStrIter it ty z t i := let ⟨o, e, r⟩ := x; ⟨o, k o e, r⟩
theorem zAB {P : Program} {w : World} {K : PySem.W.Frag} {tg : Expr} (it : Addr) (z : Str) (t : Tok) : Turn P w K tg (Its z) [it] it (fun i h => h.IsStrIter it (strIterType z) z t i) where
  mem := by simp
  obj := fun i h st b hb => by
    have e : b = it := by simpa using hb
    subst e
    obtain ⟨o, e, c, d⟩ := st
    exact ⟨o, e, fun v q => by rw [d] at q; cases q⟩
  keep := fun i h h' st k => z2k st fun o e => k it (by simp) o e
  item := by
    intro X hP hw hK hc i pins s σ H E I hf st hg
    subst hP hw hK
    have hg' : i < z.cps.size := hg
    have hx : z.cps[i]? = some z.cps[i] := by simp [hg']
    obtain ⟨f0, f1, f2, f3, f4, f5⟩ := hf it (by simp)
    refine z7O st hx fun h' st' sb => ?_
    have I1 : Inv X pins σ H { s with heap := h', toks := s.toks + 1 } := I.turned (t' := s.toks + 1) (fun b o hb e => (sb.2 b hb).trans e) f0 f1 f3 f4 f5
    obtain ⟨o, e, c, d⟩ := id st'
    exact ⟨_, rfl, z6y (s := { s with heap := h', toks := s.toks + 1 }) e c d (z7N z) ⟨.str ⟨#[z.cps[i]]⟩, H, I1, ⟨_, rfl⟩, ⟨rfl, _, hx, rfl⟩, st', fun b hb => (hf b hb).1⟩⟩
  done := by
    intro X hP hw hK hc i pins s σ H E I hf st hg
    subst hP hw hK
    have hg' : z.cps.size <= i := hg
    obtain ⟨f0, f1, f2, f3, f4, f5⟩ := hf it (by simp)
    exact z95 (I.ok.hd hc) st (by simp [hg']) fun h' eb => ⟨rfl, I.turned (t' := s.toks) (fun b o hb e => eb b o hb e) f0 f1 f3 f4 f5⟩
  self := fun _ _ _ _ _ st h => z7P st h
def zCc (z : Str) : It :=
  ⟨fun i _ => i < z.cps.size, fun i H x H' => ∃ T c, H T = none /\ x = .ref T /\ H' = upd H T (.tup [.int i, .str ⟨#[c]⟩]) /\ z.cps[i]? = some c, fun i _ => i = z.cps.size⟩
theorem z7Q {P : Program} {w : World} {K : PySem.W.Frag} {es : List Expr} {k : Nat} {pos : Pos} (e it : Addr) (z : Str) (t : Tok) (hei : e ≠ it) :
    Turn P w K (.Tuple es k pos) (zCc z) [e, it] e (fun i h => (∃ old, IsEnum h e it (i : Nat) old) /\ h.IsStrIter it (strIterType z) z t i) where
  mem := List.mem_cons_self
  obj := fun i h st b hb => by
    obtain ⟨⟨old, he⟩, o, hi, hc, hd⟩ := st
    rcases List.mem_cons.mp hb with rfl | hb
    . exact ⟨_, he, fun v z => by cases z⟩
    . rw [List.mem_singleton.mp hb]
      exact ⟨o, hi, fun v z => by rw [hd] at z; cases z⟩
  keep := fun i h h' st k => ⟨let ⟨old, he⟩ := st.1; ⟨old, k e List.mem_cons_self _ he⟩, z2k st.2 fun o q => k it (List.mem_cons_of_mem _ List.mem_cons_self) o q⟩
  item := by
    intro X hP hw hK hc i pins s σ H E I hf st hg
    subst hP hw hK
    have hg' : i < z.cps.size := hg
    obtain ⟨⟨old, he⟩, hit⟩ := st
    obtain ⟨f0, f1, f2, f3, f4, f5⟩ := hf e List.mem_cons_self
    obtain ⟨g0, g1, g2, g3, g4, g5⟩ := hf it (List.mem_cons_of_mem _ List.mem_cons_self)
    have hh : X.A.in1.handled = none := I.ok.hd hc
    refine wpAny_pyNext_enum_itemD (z57 hh it z t) he hit hg' hei (by simp [hei]) fun x h' tk hP ho hit' hT hsz hk => ?_
    obtain ⟨c, u, hx, rfl⟩ := hP
    refine ⟨.ref s.heap.objs.size, rfl, wpAny_letOwnedTupleGo_enum ho fun h'' he'' sb => ?_⟩
    have nT : H s.heap.objs.size = none := I.hok.fresh (Nat.le_refl _)
    have kk : ∀ b o, b ≠ e -> b ≠ it -> s.heap.get? b = some o -> h''.get? b = some o := fun b o b1 b2 q => (sb.2 b b1).trans (hk b o b1 b2 q)
    have hTe : s.heap.objs.size ≠ e := Nat.ne_of_gt (Heap.lt_size he)
    have nb : ∀ b u, H b = some u -> b ≠ e /\ b ≠ it := fun b u q => ⟨fun y => (by rw [y, f0] at q; cases q), fun y => (by rw [y, g0] at q; cases q)⟩
    have gT : h''.get? s.heap.objs.size = some { cls := .type "tuple", data := .seq #[.int i tk, .str ⟨#[c]⟩ u] } := (sb.2 _ hTe).trans hT
    have I1 : Inv X pins σ (upd H s.heap.objs.size (.tup [.int i, .str ⟨#[c]⟩])) { s with heap := h'', toks := tk + 1 } := by
      refine I.step (g' := s.gens) (d' := s.drawn) (ch := [e, it]) (fun b hb => ?_) (fun b o _ _ hb q _ => kk b o (fun y => hb (by simp [y])) (fun y => hb (by simp [y])) q) (fun b o _ _ hb q _ => ⟨o.slots, kk b o (fun y => hb (by simp [y])) (fun y => hb (by simp [y])) q⟩) (fun b o _ q n => ?_)
        (fun b o hb q => ⟨o, kk b o (fun y => hb (by simp [y])) (fun y => hb (by simp [y])) q⟩) (fun b ys q => ?_) (fun b ob y q => ?_) (fun b ps q => ⟨#[], ?_⟩) (fun m hm => ?_) (fun b y q => ?_) I.bare
      . rcases List.mem_cons.mp hb with rfl | hb
        . exact ⟨f3, f1, f4, f5⟩
        . rw [List.mem_singleton.mp hb]
          exact ⟨g3, g1, g4, g5⟩
      . rw [z07 (Nat.ne_of_lt (Heap.lt_size q))]
        exact n
      . rw [z07 (z08 q nT)]
        exact q
      . rw [z07 (z08 q nT)]
        exact q
      . rw [z07 (z08 q nT), q]
        simp
      . obtain ⟨o, es', ep, ho', r⟩ := hm
        exact ⟨o, es', ep, kk _ o (Ne.symm f1) (Ne.symm g1) ho', r⟩
      . by_cases hb : b = s.heap.objs.size
        . subst hb
          rw [upd_same] at q
          cases q
          exact ⟨by show 2 <= sizeLine; decide, [.int i tk, .str ⟨#[c]⟩ u], .cons ⟨_, rfl⟩ (.cons ⟨_, rfl⟩ .nil), _, gT, rfl, _, rfl⟩
        . rw [z07 hb] at q
          refine (I.hok b y q).stay (fun c v hc' r => ?_) (fun c r => by rw [z07 (z08 r nT)]; exact r) fun c ys r => by rw [z07 (z08 r nT)]; exact r
          rcases hc' with z' | z'
          . subst z'
            exact kk c v (nb c y q).1 (nb c y q).2 r
          . exact kk c v (nb c _ z').1 (nb c _ z').2 r
    refine ⟨.ref s.heap.objs.size, _, I1, rfl, ⟨_, c, nT, rfl, rfl, hx⟩, ⟨⟨_, by simpa using he''⟩, z2k hit' fun o q => (sb.2 it (Ne.symm hei)).trans q⟩, fun b hb => ?_⟩
    have hn := (hf b hb).1
    have lt : b < s.heap.objs.size := by
      rcases List.mem_cons.mp hb with rfl | hb
      . exact Heap.lt_size he
      . rw [List.mem_singleton.mp hb]
        obtain ⟨o, q, _⟩ := hit
        exact Heap.lt_size q
    rw [z07 (Nat.ne_of_lt lt)]
    exact hn
  done := by
    intro X hP hw hK hc i pins s σ H E I hf st hg
    subst hP hw hK
    have hg' : i = z.cps.size := hg
    subst hg'
    obtain ⟨⟨old, he⟩, hit⟩ := st
    obtain ⟨g0, g1, g2, g3, g4, g5⟩ := hf it (List.mem_cons_of_mem _ List.mem_cons_self)
    have hh : X.A.in1.handled = none := I.ok.hd hc
    exact wpAny_pyNext_enum_endD (z57 hh it z t) he hit fun h' eb => ⟨rfl, I.turned (t' := s.toks) (fun b o hb q => eb b o hb q) g0 g1 g3 g4 g5⟩
  self := fun _ _ _ _ _ st h => let ⟨_, he⟩ := st.1; wpAny_pyIter_enum he h
section
variable {X : Cx} {tg : Expr}
def zED (tl : TE) : TI := fun σ H R => tl σ H fun x H1 => ∃ z, x = .str z /\ R (Its z) H1
theorem zCd {l : Expr} {tl : TE} (hl : PE X l tl) : PI X tg l (zED tl) := by
  intro pins s σ H R I h
  refine thn (hl pins s σ H _ I h) fun v s1 ⟨x, H1, I1, r1, q1⟩ => ?_
  obtain ⟨z, e, q⟩ := q1
  subst e
  obtain ⟨t, rfl⟩ := r1
  refine wpAny_pyIter_strU ?_
  refine ⟨s1.heap.objs.size, [s1.heap.objs.size], _, _, H1, rfl, I1.kept (t' := s1.toks) fun b o e => Heap.get?_push_of_some _ e, zAB _ z t, ⟨_, Heap.get?_push_size _ rfl, rfl, rfl⟩, fun b hb => ?_, q⟩
  have e : b = s1.heap.objs.size := by simpa using hb
  subst e
  exact I1.fpOk (Nat.le_refl _) (I1.hok.fresh (Nat.le_refl _))
def zCe (ta : TA) : TI := fun σ H R => ta σ H fun vs H1 => ∃ z, vs = [.str z] /\ R (zCc z) H1
theorem zAC {l : Expr} {ta : TA} {p pos : Pos} {es : List Expr} {k : Nat} {tp : Pos} (hg : Gl X "enumerate") (hm : X.mg "enumerate" = none) (ha : PA X [l] ta) (hs : starEach [l] X.env = [(false, eval l X.env)] := by rfl) :
    PI X (.Tuple es k tp) (.Call (.Name "enumerate" p) [l] [] pos) (zCe ta) := by
  intro pins s σ H R I h
  refine Call_ (z1w I hg hm boot_enumerate (PyProof.Rows.callWith_type1 (thn (ha pos pins s σ H _ I h) fun us s1 ⟨vs, H1, I1, r1, q1⟩ => ?_) hs rfl))
  obtain ⟨z, e, q⟩ := q1
  subst e
  obtain ⟨u, rfl, ru⟩ := vals1 r1
  obtain ⟨t, rfl⟩ := (show ∃ t, u = Value.str z t from ru)
  refine call_enumerate_str fun h' he hit hsz hk => ?_
  refine wpAny_pyIter_enum (s := { s1 with heap := h' }) he ?_
  have n1 : H1 s1.heap.objs.size = none := I1.hok.fresh (Nat.le_refl _)
  have n2 : H1 (s1.heap.objs.size + 1) = none := I1.hok.fresh (Nat.le_succ _)
  refine ⟨s1.heap.objs.size + 1, [s1.heap.objs.size + 1, s1.heap.objs.size], _, _, H1, rfl, I1.kept (t' := s1.toks) hk, z7Q _ _ z t (Nat.succ_ne_self _), ⟨⟨_, by simpa using he⟩, hit⟩, fun b hb => ?_, q⟩
  rcases List.mem_cons.mp hb with rfl | hb
  . exact I1.fpOk (Nat.le_succ _) n2
  . rw [List.mem_singleton.mp hb]
    exact I1.fpOk (Nat.le_refl _) n1
end
section
variable {X : Cx} {pins : List (Addr × Obj)} {σ : St} {H : Hp} {s : Shared} {a : Addr} {ob : Obj} {kvs : List (Key × V)}
theorem zAy {P : Program} {w : World} {h : Heap} {u u' : HO} (ok : HOk P w H h) (e : H a = some u') (n1 : ∀ y, u' ≠ .own y) (n2 : ∀ xs, u' ≠ .tup xs) (new : ∀ H', (∀ b y, H b = some (.own y) -> H' b = some (.own y)) -> (∀ b xs, H b = some (.tup xs) -> H' b = some (.tup xs)) -> ObjOk P w H' h a u) : HOk P w (upd H a u) h := fun b v q => by
  have o1 : ∀ b y, H b = some (.own y) -> (upd H a u) b = some (.own y) := fun b y z => by
    rw [z07 fun k => ?_]
    . exact z
    . subst k
      rw [e] at z
      exact n1 y (Option.some.inj z)
  have o2 : ∀ b xs, H b = some (.tup xs) -> (upd H a u) b = some (.tup xs) := fun b y z => by
    rw [z07 fun k => ?_]
    . exact z
    . subst k
      rw [e] at z
      exact n2 y (Option.some.inj z)
  by_cases hb : b = a
  . subst hb
    rw [upd_same] at q
    cases q
    exact new _ o1 o2
  . rw [z07 hb] at q
    exact (ok b v q).stay (fun _ _ _ z => z) (fun c z => o1 c b z) o2
theorem Inv.freeze (I : Inv X pins σ H s) (e : H a = some (.dK kvs)) (ho : s.heap.get? a = some ob) : Inv X pins σ (upd H a (.frz ob (.dK kvs))) s := by
  refine I.un (t' := s.toks) (h' := s.heap) ⟨fun b o q _ _ _ => q, fun b o q _ _ _ => ⟨o.slots, q⟩, fun b o _ n _ => ?_, fun b o q _ => ⟨o, q⟩, fun b xs q => ?_, fun b o u q => ?_, fun b ps q => ⟨#[], ?_⟩⟩ ?_
  . rw [z07 fun z => by subst z; rw [e] at n; cases n]
    exact n
  . rw [z07 (z2P q e fun z => nomatch z)]
    exact q
  . rw [z07 (z2P q e fun z => nomatch z)]
    exact q
  . rw [z07 (z2P q e fun z => nomatch z), q]
    simp
  . exact zAy I.hok e (fun _ z => nomatch z) (fun _ z => nomatch z) fun H' k1 k2 => ⟨ho, (I.hok a _ e).stay (fun _ _ _ z => z) (fun c z => k1 c a z) k2⟩
theorem Inv.thaw (I : Inv X pins σ H s) (e : H a = some (.frz ob (.dK kvs))) (h0 : ∀ o u, X.H₀ a ≠ some (.frz o u)) : Inv X pins σ (upd H a (.dK kvs)) s := by
  have ne : ∀ {b : Addr}, H b = none -> b ≠ a := fun {b} n z => by subst z; rw [e] at n; cases n
  refine { I with base := { I.base with free := fun b o q n hx => ?_, tups := fun b xs q => ?_, frzs := fun b o u q => ?_, tbls := fun b ps q => ?_ }, free := ?_, freeC := fun x c q => ?_, pin := fun p hp => ?_, hok := ?_ }
  . have := I.base.free b o q n hx
    rw [z07 (ne this)]
    exact this
  . have := I.base.tups b xs q
    rw [z07 (z2P this e fun z => nomatch z)]
    exact this
  . have := I.base.frzs b o u q
    rw [z07 fun z => by subst z; exact h0 o u q]
    exact this
  . obtain ⟨m, r⟩ := I.base.tbls b ps q
    exact ⟨m, by rw [z07 (z2P r e fun z => nomatch z)]; exact r⟩
  . rw [z07 (ne I.free)]
    exact I.free
  . rw [z07 (ne (I.freeC x c q))]
    exact I.freeC x c q
  . obtain ⟨q1, q2, q3⟩ := I.pin p hp
    exact ⟨q1, by rw [z07 (ne q2)]; exact q2, q3⟩
  . exact zAy I.hok e (fun _ z => nomatch z) (fun _ z => nomatch z) fun H' k1 k2 => (I.hok a _ e).2.stay (fun _ _ _ z => z) (fun c z => k1 c a z) k2
def zDU (t : TE) : TE := fun σ H Q => ∃ a kvs, H a = some (.dK kvs) /\ t σ H fun v H' => ∃ ob, H' a = some (.frz ob (.dK kvs)) /\ Q v (upd H' a (.dK kvs))
theorem zBq {e : Expr} {t : TE} (h : PE X e t) : PE X e (zDU t) := by
  intro pins s σ H Q I ⟨a, kvs, ha, q⟩
  have h0 : ∀ o u, X.H₀ a ≠ some (.frz o u) := fun o u z => by
    have := I.base.frzs a o u z
    rw [ha] at this
    cases this
  refine thn (h pins s σ H _ I q) fun v s1 ⟨x, H1, I1, r1, ob, e1, q1⟩ => ⟨x, _, I1.thaw e1 h0, r1, q1⟩
end
def zDk (a : Addr) (ob : Obj) (kvs : List (Key × V)) : It :=
  ⟨fun i H => H a = some (.frz ob (.dK kvs)) /\ i < kvs.length, fun i H x H' => H' = H /\ ∃ k, kvs[i]? = some (k, x), fun i H => H a = some (.frz ob (.dK kvs)) /\ kvs.length <= i⟩
theorem zAz {κ : Type} : ∀ {kvs : List (κ × V)} {vs : List (κ × Value)} {i : Nat} {k : κ} {x : V}, KV kvs vs -> kvs[i]? = some (k, x) -> ∃ u, vs[i]? = some (k, u) /\ RelV x u
  | _, _, _, _, _, .nil, e => by simp at e
  | (k', x') :: _, (k2, u) :: _, 0, k, x, .cons r _, e => by
    simp at e
    obtain ⟨rfl, rfl⟩ := e
    have r1 : k' = k2 := r.1
    subst r1
    exact ⟨u, rfl, r.2⟩
  | _ :: _, _ :: _, i + 1, k, x, .cons _ t, e => by
    have := zAz (i := i) t (by simpa using e)
    simpa using this
theorem z96 {P : Program} {w : World} {K : PySem.W.Frag} {tg : Expr} (it a : Addr) (ob : Obj) (kvs : List (Key × V)) (hia : it ≠ a) :
    Turn P w K tg (zDk a ob kvs) [it] it (fun i h => ∃ es ep, ob.data = .dict es ep /\ h.IsValIter it a i kvs.length ep) where
  mem := by simp
  obj := fun i h st b hb => by
    have e : b = it := by simpa using hb
    subst e
    obtain ⟨_, _, _, o, e, c, d⟩ := st
    exact ⟨o, e, fun v q => by rw [d] at q; cases q⟩
  keep := fun i h h' st k => let ⟨es, ep, d, q⟩ := st; ⟨es, ep, d, q.at fun o e => k it (by simp) o e⟩
  item := by
    intro X hP hw hK hc i pins s σ H E I hf st hg
    subst hP hw hK
    obtain ⟨ha, hi⟩ := hg
    obtain ⟨es, ep, hd, hit⟩ := st
    obtain ⟨go, _, _, vs, rel, o, es', ep', g1, g2, g3, g4⟩ := I.hok a _ ha
    rw [go] at g1
    cases g1
    rw [hd] at g3
    cases g3
    have hl := rel.length
    have dat : s.heap.DictAt (z0c X.prog X.w) a vs ep := ⟨ob, es, go, g2, hd, g4⟩
    rw [hl] at hit
    have hx : kvs[i]? = some kvs[i] := List.getElem?_eq_getElem hi
    obtain ⟨u, hu, ru⟩ := zAz (k := kvs[i].1) (x := kvs[i].2) rel hx
    obtain ⟨f0, f1, f2, f3, f4, f5⟩ := hf it (by simp)
    refine wpAny_pyNext_values_item hit dat hu fun h' st' sb => ?_
    have I1 : Inv X pins σ H { s with heap := h' } := I.turned (t' := s.toks) (fun b o hb e => (sb.2 b hb).trans e) f0 f1 f3 f4 f5
    obtain ⟨o, e, c, d⟩ := id st'
    exact ⟨u, rfl, z6y (s := { s with heap := h' }) e c d (by decide) ⟨kvs[i].2, H, I1, ru, ⟨rfl, kvs[i].1, hx⟩, ⟨es, ep, hd, by rw [hl]; exact st'⟩, fun b hb => (hf b hb).1⟩⟩
  done := by
    intro X hP hw hK hc i pins s σ H E I hf st hg
    subst hP hw hK
    obtain ⟨ha, hi⟩ := hg
    obtain ⟨es, ep, hd, hit⟩ := st
    obtain ⟨go, _, _, vs, rel, o, es', ep', g1, g2, g3, g4⟩ := I.hok a _ ha
    rw [go] at g1
    cases g1
    rw [hd] at g3
    cases g3
    have hl := rel.length
    have dat : s.heap.DictAt (z0c X.prog X.w) a vs ep := ⟨ob, es, go, g2, hd, g4⟩
    rw [hl] at hit
    obtain ⟨f0, f1, f2, f3, f4, f5⟩ := hf it (by simp)
    exact wpAny_pyNext_values_end (I.ok.hd hc) hit dat (List.getElem?_eq_none (by omega)) fun h' eb => ⟨rfl, I.turned (t' := s.toks) (fun b o hb e => eb b o hb e) f0 f1 f3 f4 f5⟩
  self := fun _ _ _ _ _ st h => let ⟨_, _, _, q⟩ := st; wpAny_pyIter_valiter q h
section
variable {X : Cx} {tg : Expr}
def zDV (td : TE) : TI := fun σ H R => td σ H fun x H1 => ∃ a kvs, x = .ref a /\ H1 a = some (.dK kvs) /\ ∀ ob, R (zDk a ob kvs) (upd H1 a (.frz ob (.dK kvs)))
theorem zBr {o : Expr} {td : TE} {apos cpos : Pos} (ho : PE X o td) (hbase : attributeBase o ("values" : Str) X.env (eval o X.env) = eval o X.env := by rfl) (hline : (apos.endLine == cpos.line) = true := by rfl) :
    PI X tg (.Call (.Attribute o "values" apos) [] [] cpos) (zDV td) := by
  intro pins s σ H R I h
  refine wpAny_Call_method0_late hbase hline (thn (ho pins s σ H _ I h) fun v s1 ⟨x, H1, I1, r1, a, kvs, ex, ha, q1⟩ => ?_)
  subst ex
  cases r1
  have ty : tyV X.K "dict" (.ref a) H1 := .inr (.inr (.inl ⟨rfl, .inl ⟨kvs, ha⟩⟩))
  obtain ⟨h1, h2⟩ := zAa I1 (show RelV (.ref a) (.ref a) from rfl) ty
  obtain ⟨z, hd, vs, rel, dd⟩ := zD6 I1.hok ha
  refine ⟨"dict", "dict.values", PySem.F.plainAttrs_dict, PySem.F.slot_dict_values, PySem.F.type_dict_values, h1, h2, Calls.callWith_builtin rfl (PySem.evalArgs_none ?_)⟩
  refine call_meetsIn PySem.F.slot_dict_values dd.typeIs PySem.F.entry_dict_values (PySem.F.args_dict_values_1 _) (meets_dict_values (z0c X.prog X.w) a hd) ⟨⟨vs, dd⟩, ?_⟩
  obtain ⟨ob, es, ep, g1, g2, g3, g4⟩ := id dd
  have lt : a < s1.heap.objs.size := Heap.lt_size g1
  have dv : (s1.heap.push { cls := .type "dict_values", data := .fields #[.ref a] }).IsValuesView s1.heap.objs.size a := ⟨_, Heap.get?_push_size _ rfl, rfl, rfl⟩
  have da : (s1.heap.push { cls := .type "dict_values", data := .fields #[.ref a] }).DictAt (z0c X.prog X.w) a vs ep := ⟨ob, es, Heap.get?_push_of_some _ g1, g2, g3, g4⟩
  refine wpAny_pyIter_values (s := { s1 with heap := s1.heap.push { cls := .type "dict_values", data := .fields #[.ref a] } }) dv da ?_
  have hz : (s1.heap.push { cls := .type "dict_values", data := .fields #[.ref a] }).objs.size = s1.heap.objs.size + 1 := Heap.size_push ..
  have I2 := I1.kept (t' := s1.toks) (h' := (s1.heap.push { cls := .type "dict_values", data := .fields #[.ref a] }).push { cls := .type "dict_valueiterator", data := .fields #[.ref a, .int 0 0, .int vs.length 0, .int ep 0] }) fun b o e => Heap.get?_push_of_some _ (Heap.get?_push_of_some _ e)
  have I3 := I2.freeze ha (ob := ob) (Heap.get?_push_of_some _ (Heap.get?_push_of_some _ g1))
  have hl := rel.length
  refine ⟨(s1.heap.push { cls := .type "dict_values", data := .fields #[.ref a] }).objs.size, [(s1.heap.push { cls := .type "dict_values", data := .fields #[.ref a] }).objs.size], _, _, _, rfl, I3, z96 _ a ob kvs (by rw [hz]; exact Nat.ne_of_gt (Nat.lt_succ_of_lt lt)), ⟨es, ep, g3, _, Heap.get?_push_size _ rfl, rfl, by rw [hl]; rfl⟩, fun b hb => ?_, q1 ob⟩
  have e : b = (s1.heap.push { cls := .type "dict_values", data := .fields #[.ref a] }).objs.size := by simpa using hb
  subst e
  have le : s1.heap.objs.size <= (s1.heap.push { cls := .type "dict_values", data := .fields #[.ref a] }).objs.size := by rw [hz]; exact Nat.le_succ _
  refine I1.fpOk le ?_
  rw [z07 (by rw [hz]; exact Nat.ne_of_gt (Nat.lt_succ_of_lt lt))]
  exact I1.hok.fresh le
end
theorem z97 {z : Str} {g : TG} {tb : TS} {D : Ends} {σ : St} {H : Hp} (Pv : Nat -> St -> Hp -> Prop) (h0 : Pv 0 σ H)
    (hs : ∀ i c σ H T, z.cps[i]? = some c -> Pv i σ H -> H T = none -> g (.ref T) σ (upd H T (.tup [.int i, .str ⟨#[c]⟩])) fun σ2 H2 => tb { D with nx := Pv (i + 1), ct := Pv (i + 1), bk := D.nx } σ2 H2) (hd : ∀ σ H, Pv z.cps.size σ H -> D.nx σ H) :
    ∃ W : Nat -> Nat -> St -> Hp -> Prop, (∃ m, W 0 m σ H) /\ ∀ i m σ H, W i m σ H ->
      ((zCc z).stop i H /\ D.nx σ H) \/ ((zCc z).go i H /\ ∃ N : St -> Hp -> Prop, (∀ σ' H', N σ' H' -> ∃ m', m' < m /\ W (i + 1) m' σ' H') /\ ∀ x H', (zCc z).yld i H x H' -> g x σ H' fun σ2 H2 => tb { D with nx := N, ct := N, bk := D.nx } σ2 H2) := by
  refine ⟨fun i m σ H => m = z.cps.size - i /\ i <= z.cps.size /\ Pv i σ H, ⟨z.cps.size, by simp, Nat.zero_le _, h0⟩, ?_⟩
  rintro i m σ H ⟨rfl, hi, p⟩
  by_cases hlt : i < z.cps.size
  . refine .inr ⟨hlt, Pv (i + 1), fun σ' H' p' => ⟨z.cps.size - (i + 1), by omega, rfl, hlt, p'⟩, fun x H' y => ?_⟩
    obtain ⟨T, c, nT, rfl, rfl, hc⟩ := y
    exact hs i c σ H T hc p nT
  . have e : i = z.cps.size := by omega
    subst e
    exact .inl ⟨rfl, hd σ H p⟩
theorem z98 : typeLookup (.type "list") "keys" = pure none := am_miss_of_fast (by decide +kernel)
theorem z7R {prog : Program} {w : World} {A : Around} {E : Value -> Shared -> Prop} {s : Shared} {a : Addr} {o : Obj} {xs : Array Value} {k : Nat} {Q : Option Value -> Shared -> Prop}
    (hx : s.heap.get? a = some o) (hc : o.cls = .type "list") (hdat : o.data = .seq xs k) (hd : o.dict = none) (hA : A.handled = none)
    (h : ∀ h' tk e, Heap.NewExcOf s.heap h' e "AttributeError" -> Q none { s with heap := h', toks := tk }) :
    wpAny (model prog w) A (getAttr? (.ref a) "keys") Q E s := by
  obtain ⟨c, dc, dt, sl⟩ := o
  simp only at hc hdat hd
  subst hc hdat hd
  obtain ⟨hp, gs, dr, tk, os⟩ := s
  have hT : ∀ tk', (⟨hp, gs, dr, tk', os⟩ : Shared).TypeIs (.ref a) "list" := fun _ => ⟨_, hx, rfl⟩
  have y1 := sub_AttributeError
  have y3 := F.slot_list_getattribute.lookup
  have y4 := F.slot_list_getattribute.bind (.ref a)
  have y5 := am_list_getattr_none
  unfold getAttr? getAttrBy? getAttrBy
  repeat (any_goals (first | assumption | exact hT _ | ((with_reducible show wpAny _ _ (call (Value.builtin "list.__getattribute__") _ _) _ _ _); refine call_meets F.slot_list_getattribute (hT _) am_entry_list_getattribute (F.args_list_getattribute_2 _ _) (meets_getattribute_miss_list a xs k sl "keys" _ z98 (by decide +kernel) (by size_fits)) ⟨hx, hA, fun h' tk' e hx' => ?_⟩) | wp_step))
  obtain ⟨t', u', he⟩ := hx'.there
  show wpAny (model prog w) _ (getattributeRaised _ _ _ _ _ _ _) _ _ _
  unfold getattributeRaised
  repeat (any_goals first | assumption | wp_step)
  exact h _ _ _ hx'.of
theorem z2b : plainId "dict.update.loop" = true := by decide +kernel
theorem z58 : entryFor table "dict.update.loop" = some Builtin.«dict.update.loop» := entryFor_of_tree (by kernel_rfl)
section
variable {prog : Program} {w : World} {K : Type} [DecidableEq K] {knd : KeyKind prog w K} {A : Around}
def z5w (m kv : List (K × Value)) : List (K × Value) := kv.foldl (fun m p => stored m p.1 p.2) m
theorem zAD {R : Result -> Shared -> Prop} (hh : A.handled = none) {d l it : Addr} (hdi : d ≠ it) (hdl : d ≠ l) (hli : l ≠ it) {items : Array Value} {kv : List (K × Value)} (hkl : kv.length = items.size) :
    ∀ (n i : Nat) (z : Int) (s : Shared) (m : List (K × Value)), items.size - i = n -> i <= items.size -> s.heap.IsListIter it l i -> s.heap.IsList l items -> s.heap.DictOf knd d m -> m.length + n <= sizeLine ->
    (∀ j, i <= j -> (hj : j < items.size) -> ∃ T key, items[j]? = some (.ref T) /\ T ≠ d /\ T ≠ it /\ s.heap.IsTuple T #[key, (kv[j]'(by omega)).2] /\ knd.is (kv[j]'(by omega)).1 key = true) ->
    (∀ h' tk, h'.DictOf knd d (z5w m (kv.drop i)) -> (∀ b o, b ≠ d -> b ≠ it -> s.heap.get? b = some o -> h'.get? b = some o) -> R (.ok (.ret .none)) { s with heap := h', toks := tk }) ->
    codeAny (model prog w) A (.builtin "dict.update.loop" ⟨[.ref d, .ref it, rawInt z, .none], []⟩) R s := by
  intro n
  have hh1 : A.in1.handled = none := hh
  induction n with
  | zero =>
    intro i z s m hn hi hit hl hd hm hT k
    have e : i = items.size := by omega
    subst e
    refine codeAny_builtin z58 ?_
    rw [Around.under_plainId z2b _]
    show wpAny _ A.in1 (pyNext (.ref it) >>= _) _ _ s
    refine wpAny_bind (wpAny_pyNext_list_end hh1 hit hl (by simp) fun h' eb => ?_)
    show wpAny _ A.in1 (Builtin.Dict.addKeywords d [] >>= _) _ _ _
    refine wpAny_bind (wpAny_pure ?_)
    refine wpAny_pure (k h' s.toks ?_ fun b o _ b2 e => eb b o b2 e)
    rw [List.drop_of_length_le (by omega)]
    exact hd.extBut eb hdi
  | succ n ih =>
    intro i z s m hn hi hit hl hd hm hT k
    have hlt : i < items.size := by omega
    obtain ⟨T, key, e1, e2, e3, e4, e5⟩ := hT i (Nat.le_refl _) hlt
    refine codeAny_builtin z58 ?_
    rw [Around.under_plainId z2b _]
    show wpAny _ A.in1 (pyNext (.ref it) >>= _) _ _ s
    refine wpAny_bind (wpAny_pyNext_list_item hit hl e1 fun h' hit' sb => ?_)
    have t1 : h'.IsTuple T #[key, (kv[i]'(by omega)).2] := e4.extBut sb.extBut e3
    have d1 : h'.DictOf knd d m := hd.extBut sb.extBut hdi
    have l1 : h'.IsList l items := hl.extBut sb.extBut hli
    obtain ⟨o, g1, g2, n1, g3⟩ := id t1
    show wpAny _ A.in1 (holding [Value.ref T] _ >>= _) _ _ _
    refine wpAny_bind (wpAny_holding (wpAny_bind (wpAny_tryCatch ?_)))
    unfold Builtin.Dict.pairItems
    refine wpAny_bind (wpAny_typeOf (T := "tuple") ⟨o, g1, g2⟩ ?_)
    simp only [beq_self_eq_true, Bool.or_true, if_true]
    refine wpAny_bind (wpAny_seqItems g1 g3 (wpAny_pure ?_))
    show wpAny _ A.in1 (holding [key, (kv[i]'(by omega)).2] (dictSet d key (kv[i]'(by omega)).2)) _ _ _
    refine wpAny_holding (wpAny_dictSet_pairs (hsz := by omega) e5 d1 fun h2 d2 sb2 => ?_)
    refine wpAny_pure ⟨plainId_quiet z2b _, ?_⟩
    have ke : kv.drop i = kv[i]'(by omega) :: kv.drop (i + 1) := List.drop_eq_getElem_cons (by omega)
    refine ih (i + 1) (z + 1) _ (stored m (kv[i]'(by omega)).1 (kv[i]'(by omega)).2) (by omega) hlt (hit'.extBut sb2.extBut hdi.symm) (l1.extBut sb2.extBut hdl.symm) d2 ?_ (fun j hj hj2 => ?_) fun h3 tk d3 kk => ?_
    . have : (stored m (kv[i]'(by omega)).1 (kv[i]'(by omega)).2).length <= m.length + 1 := by
        unfold stored
        split
        . rw [List.length_map]; omega
        . rw [List.length_append]; exact Nat.le_refl _
      omega
    . obtain ⟨T', key', f1, f2, f3, f4, f5⟩ := hT j (by omega) hj2
      exact ⟨T', key', f1, f2, f3, (f4.extBut sb.extBut f3).extBut sb2.extBut f2, f5⟩
    . refine k h3 tk ?_ fun b o b1 b2 e => kk b o b1 b2 (sb2.extBut b o b1 (sb.extBut b o b2 e))
      rw [ke]
      exact d3
theorem z3X {E : Value -> Shared -> Prop} {s : Shared} {Q : Value -> Shared -> Prop} (hh : A.handled = none) {l : Addr} {items : Array Value} {o : Obj} {c : Nat}
    (hx : s.heap.get? l = some o) (hc : o.cls = .type "list") (hdat : o.data = .seq items c) (hdn : o.dict = none) {kv : List (K × Value)} (hkl : kv.length = items.size) (hsz : items.size <= sizeLine)
    (hT : ∀ j, (hj : j < items.size) -> ∃ T key, items[j]? = some (.ref T) /\ s.heap.IsTuple T #[key, (kv[j]'(by omega)).2] /\ knd.is (kv[j]'(by omega)).1 key = true)
    (k : ∀ h' tk, h'.DictOf knd s.heap.objs.size (z5w [] kv) -> (∀ b o, s.heap.get? b = some o -> h'.get? b = some o) -> Q (.ref s.heap.objs.size) { s with heap := h', toks := tk }) :
    wpAny (model prog w) A (call (.type "dict") [.ref l]) Q E s := by
  refine callType_codes (Q₁ := fun ob sa => ob = .ref s.heap.objs.size /\ sa = { s with heap := s.heap.push { cls := .type "dict", data := .dict #[] } }) F.kt_called_dict (F.kt_typeCall_dict_1 _) F.entry_dict_init (kt_code_dict_new _ ⟨rfl, rfl⟩) ?_
  rintro obj sa ⟨rfl, rfl⟩
  have n0 : (s.heap.push { cls := .type "dict", data := .dict #[] }).DictOf knd s.heap.objs.size [] := Heap.DictOf.new s.heap
  have hx' : (s.heap.push { cls := .type "dict", data := .dict #[] }).get? l = some o := Heap.get?_push_of_some _ hx
  have llt : l < s.heap.objs.size := Heap.lt_size hx
  refine ⟨n0.typeIs, F.args_dict_init_2 _ _, ?_⟩
  unfold Builtin.«dict.__init__» Builtin.Dict.selfAndRest
  refine wpAny_bind ?_
  refine wpAny_bind (wpAny_notOrdered_dict n0.typeIs ?_)
  show wpAny _ _ (pure (s.heap.objs.size, [Value.ref l])) _ _ _
  refine wpAny_pure ?_
  show wpAny _ _ (Builtin.Dict.updateFrom "dict.__init__" s.heap.objs.size (.ref l) [] .none) _ _ _
  unfold Builtin.Dict.updateFrom
  refine wpAny_bind (wpAny_typeOf (T := "list") ⟨o, hx', hc⟩ ?_)
  rw [if_pos (by decide)]
  refine wpAny_bind (z7R (s := { s with heap := s.heap.push { cls := .type "dict", data := .dict #[] } }) hx' hc hdat hdn hh fun h1 tk e ne => ?_)
  rw [if_pos (by decide)]
  refine wpAny_bind (wpAny_rule ?_)
  have k1 : ∀ b ob, (s.heap.push { cls := .type "dict", data := .dict #[] }).get? b = some ob -> h1.get? b = some ob := ne.keeps
  have hl1 : h1.IsList l items := ⟨o, k1 _ _ hx', hc, c, hdat⟩
  have hd1 : h1.DictOf knd s.heap.objs.size [] := let ⟨o', es, ep, g, r⟩ := n0; ⟨o', es, ep, k1 _ _ g, r⟩
  refine wpAny_bind (wpAny_pyIter_list (s := { s with heap := h1, toks := tk }) hl1 ?_)
  have lt1 : ∀ {b ob}, (s.heap.push { cls := .type "dict", data := .dict #[] }).get? b = some ob -> b < h1.objs.size := fun e => Heap.lt_size (k1 _ _ e)
  have dlt : s.heap.objs.size < h1.objs.size := let ⟨_, _, _, g, _⟩ := hd1; Heap.lt_size g
  have llt1 : l < h1.objs.size := Heap.lt_size (k1 _ _ hx')
  refine wpAny_pure ⟨plainId_quiet z2b _, ?_⟩
  have pk : ∀ b ob, h1.get? b = some ob -> (h1.push { cls := .type "list_iterator", data := .fields #[.ref l, .int 0 0] }).get? b = some ob := fun b ob e => Heap.get?_push_of_some _ e
  refine zAD (knd := knd) (A := A.in1) (d := s.heap.objs.size) (l := l) (it := h1.objs.size) hh (Nat.ne_of_lt dlt) (Nat.ne_of_gt llt) (Nat.ne_of_lt llt1) (items := items) (kv := kv) hkl items.size 0 0 _ [] (Nat.sub_zero _) (Nat.zero_le _) ⟨_, Heap.get?_push_size _ rfl, rfl, rfl⟩ (hl1.push _) (hd1.push _) (by simpa using hsz) (fun j _ hj => ?_) fun h' tk' dd kk => ?_
  . obtain ⟨T, key, e1, ⟨ot, g1, g2⟩, e3⟩ := hT j hj
    have tlt : T < s.heap.objs.size := Heap.lt_size g1
    exact ⟨T, key, e1, Nat.ne_of_lt tlt, Nat.ne_of_lt (Nat.lt_trans tlt dlt), ⟨ot, pk _ _ (k1 _ _ (Heap.get?_push_of_some _ g1)), g2⟩, e3⟩
  . refine ⟨rfl, k h' tk' dd fun b ob e => ?_⟩
    have blt : b < s.heap.objs.size := Heap.lt_size e
    exact kk b ob (Nat.ne_of_lt blt) (Nat.ne_of_lt (Nat.lt_trans blt dlt)) (pk _ _ (k1 _ _ (Heap.get?_push_of_some _ e)))
end
def putAll (m kvs : List (Key × V)) : List (Key × V) := kvs.foldl (fun m p => putK m p.1 p.2) m
theorem zB0 : ∀ {kvs : List (Key × V)} {vs : List (Key × Value)} {m : List (Key × V)} {n : List (Key × Value)}, KV kvs vs -> KV m n -> KV (putAll m kvs) (z5w n vs)
  | _, _, _, _, .nil, r => r
  | (k, v) :: kvs, (k', u) :: vs, m, n, .cons q t, r => by
    obtain ⟨e, rv⟩ := q
    have e : k = k' := e
    subst e
    exact zB0 (kvs := kvs) (vs := vs) t (r.put k rv)
theorem z59 : ∀ {ts : List Addr} {us : List Value}, Vals (ts.map V.ref) us -> us = ts.map Value.ref
  | [], _, .nil => rfl
  | t :: ts, _, .cons q r => by
    cases (show _ = Value.ref t from q)
    rw [z59 r]
    rfl
section
variable {X : Cx} {pins : List (Addr × Obj)} {σ : St} {H : Hp} {s : Shared}
theorem z6p (I : Inv X pins σ H s) : ∀ {ts : List Addr} {kvs : List (Key × V)}, kvs.length = ts.length -> (∀ (i : Nat) t k v, ts[i]? = some t -> kvs[i]? = some (k, v) -> H t = some (.tup [kV k, v])) ->
    ∃ vs : List (Key × Value), KV kvs vs /\ vs.length = ts.length /\ ∀ (j : Nat) t p, ts[j]? = some t -> vs[j]? = some p -> ∃ key, s.heap.IsTuple t #[key, p.2] /\ (z0c X.prog X.w).is p.1 key = true
  | [], [], _, _ => ⟨[], .nil, rfl, fun _ _ _ e => by simp at e⟩
  | [], _ :: _, hl, _ => by cases hl
  | _ :: _, [], hl, _ => by cases hl
  | t :: ts, (k, v) :: kvs, hl, h => by
    obtain ⟨vs, r1, r2, r3⟩ := z6p I (ts := ts) (kvs := kvs) (by simpa using hl) fun i t' k' v' e1 e2 => h (i + 1) t' k' v' (by simpa using e1) (by simpa using e2)
    obtain ⟨_, its, r, p⟩ := I.hok t _ (h 0 t k v rfl rfl)
    cases r with
    | @cons _ u1 _ _ x1 r => cases r with
      | @cons _ u2 _ _ x2 r =>
        cases r
        refine ⟨(k, u2) :: vs, .cons ⟨rfl, x2⟩ r1, by rw [List.length_cons, List.length_cons, r2], fun j t' p' e1 e2 => ?_⟩
        cases j with
        | zero =>
          cases e1
          cases e2
          exact ⟨u1, p, z9k x1⟩
        | succ j => exact r3 j t' p' (by simpa using e1) (by simpa using e2)
theorem z3y (hc : X.calm = true) : z2G X (.type "dict") (fun xs H Q => ∃ (l : Addr) (ts : List Addr) (kvs : List (Key × V)), xs = [.ref l] /\ SqL X.K H l (ts.map V.ref) /\ kvs.length = ts.length /\ (putAll [] kvs).length <= sizeLine /\
    (∀ (i : Nat) t k v, ts[i]? = some t -> kvs[i]? = some (k, v) -> H t = some (.tup [kV k, v])) /\ ∀ p, H p = none -> Q (.ref p) (upd H p (.dK (putAll [] kvs)))) := by
  intro pins s σ H xs us Q I r h
  obtain ⟨l, ts, kvs, rfl, hq, hl, hp, ht, q⟩ := h
  obtain ⟨u, rfl, ru⟩ := vals1 r
  cases (show u = Value.ref l from ru)
  obtain ⟨its, rv, ⟨o, n, e, c1, c2, c3⟩, hz⟩ := I.list hq
  have ei := z59 rv
  subst ei
  obtain ⟨vs, r1, r2, r3⟩ := z6p I hl ht
  have hh : X.A.handled = none := I.ok.hd hc
  have sz : (ts.map Value.ref).toArray.size = ts.length := by simp
  refine z3X (knd := z0c X.prog X.w) (kv := vs) hh e c1 c3 c2 (by rw [sz]; exact r2) (by rw [sz]; simpa using hz) (fun j hj => ?_) fun h' tk dd kk => ?_
  . rw [sz] at hj
    obtain ⟨key, g1, g2⟩ := r3 j (ts[j]'hj) (vs[j]'(by omega)) (List.getElem?_eq_getElem hj) (List.getElem?_eq_getElem _)
    exact ⟨ts[j]'hj, key, by simp [hj], g1, g2⟩
  . exact ⟨.ref s.heap.objs.size, _, I.laid (a := s.heap.objs.size) (o := .dK (putAll [] kvs)) (t' := tk) kk (Nat.le_refl _) (zCJ hp (beq_eq_false_iff_ne.mpr (Ne.symm (Nat.ne_of_lt I.big))) (zB0 r1 .nil) dd), rfl, q _ (I.hok.fresh (Nat.le_refl _))⟩
end
section
variable {X : Cx} {sc : Scope} {cl : List (Str × Addr)} {C : Addr} {N : List Str} {fp : List Addr} {s2 : Shared} {H2 : Hp} {pn : List (Addr × Obj)} {e o i : Expr} {ta td ty : TE} {f : Str} {pos : Pos}
theorem zBs (he : PE (cxC X sc cl C N fp s2 H2 pn) e ta) (hb : attributeBase e f (cxC X sc cl C N fp s2 H2 pn).env (eval e (cxC X sc cl C N fp s2 H2 pn).env) = eval e (cxC X sc cl C N fp s2 H2 pn).env) :
    PE (cxC X sc cl C N fp s2 H2 pn) (.Attribute e f pos) (zDd X.K ta f) := z4g he hb
theorem zAE (hu : X.A.units + 1 < cLine) (ho : PE (cxC X sc cl C N fp s2 H2 pn) o td) (hi : PE (cxC X sc cl C N fp s2 H2 pn) i ty) (hs : zD8 i) :
    PE (cxC X sc cl C N fp s2 H2 pn) (.Subscript o i pos) (zCK td ty) := z89 hu ho hi hs
end
end L2
namespace L2
open PySem PySem.Spec PyProof.Rows G
structure FontOk (hg : Nat) (Ss : List Sg) : Prop where
  n1 : 1 <= Ss.length
  n2 : Ss.length <= 60
  nd : (Ss.map (·.c)).Nodup
  sg : ∀ S ∈ Ss, S.c ∈ sgnL
  rect : ∀ S ∈ Ss, Rect S.w hg S.rows
def firstBad (Ss : List Sg) : List Nat -> Nat -> Option (Nat × Nat)
  | [], _ => none
  | c :: cs, i => if known Ss c = true then firstBad Ss cs (i + 1) else some (c, i)
theorem z1O {Ss : List Sg} : ∀ {cs : List Nat} {i : Nat}, (∀ c ∈ cs, known Ss c = true) -> firstBad Ss cs i = none
  | [], _, _ => rfl
  | c :: cs, i, h => by
    show (if known Ss c = true then firstBad Ss cs (i + 1) else some (c, i)) = none
    rw [if_pos (h c List.mem_cons_self)]
    exact z1O fun d hd => h d (List.mem_cons_of_mem _ hd)
theorem z1l {Ss : List Sg} : ∀ {cs : List Nat} {i : Nat}, (∃ c ∈ cs, known Ss c = false) -> ∃ c j, firstBad Ss cs i = some (c, j)
  | [], _, ⟨_, h, _⟩ => nomatch h
  | c :: cs, i, ⟨d, hd, e⟩ => by
    show ∃ c' j, (if known Ss c = true then firstBad Ss cs (i + 1) else some (c, i)) = some (c', j)
    by_cases k : known Ss c = true
    . rw [if_pos k]
      rcases List.mem_cons.mp hd with rfl | hd
      . rw [k] at e; cases e
      . exact z1l ⟨d, hd, e⟩
    . rw [if_neg k]
      exact ⟨c, i, rfl⟩
theorem z2K {Ss : List Sg} : ∀ {cs : List Nat} {i k : Nat} {c : Nat}, (∀ d ∈ cs.take k, known Ss d = true) -> cs[k]? = some c -> known Ss c = false -> firstBad Ss cs i = some (c, i + k)
  | [], _, _, _, _, e, _ => by simp at e
  | d :: cs, i, 0, c, _, e, h => by
    simp at e
    subst e
    show (if known Ss d = true then firstBad Ss cs (i + 1) else some (d, i)) = some (d, i + 0)
    rw [if_neg (by rw [h]; exact Bool.false_ne_true)]
    rfl
  | d :: cs, i, k + 1, c, hk, e, h => by
    show (if known Ss d = true then firstBad Ss cs (i + 1) else some (d, i)) = some (c, i + (k + 1))
    rw [if_pos (hk d (by simp)), z2K (k := k) (fun x hx => hk x (by simp [hx])) (by simpa using e) h]
    congr 2
    omega
def PicsAt (hg : Nat) (H : Hp) (d : Addr) (Ss : List Sg) : Prop := ∃ ps : List Addr, ps.length = Ss.length /\ H d = some (.dK ((Ss.zip ps).map fun p => (Sum.inr (one p.1.c), V.ref p.2))) /\ ∀ (i : Nat) S p, Ss[i]? = some S -> ps[i]? = some p -> PicAt H p S.w S.rows
theorem PicsAt.mono {hg : Nat} {H H' : Hp} {d : Addr} {Ss : List Sg} (s : Same H H') (h : PicsAt hg H d Ss) : PicsAt hg H' d Ss := let ⟨ps, a, b, c⟩ := h; ⟨ps, a, s _ _ b, fun i S p x y => (c i S p x y).mono s⟩
def FA (C : Addr) (H : Hp) (f : Addr) (hg : Nat) (Ss : List Sg) (gap : Int) : Prop := ∃ dx d, H f = some (.ins C dx [("pics", .ref d), ("high", .int hg), ("gap", .int gap)]) /\ PicsAt hg H d Ss
theorem FA.mono {C : Addr} {H H' : Hp} {f : Addr} {hg : Nat} {Ss : List Sg} {gap : Int} (s : Same H H') (h : FA C H f hg Ss gap) : FA C H' f hg Ss gap := let ⟨dx, d, a, b⟩ := h; ⟨dx, d, s _ _ a, b.mono s⟩
theorem FA.ins {C : Addr} {H : Hp} {f : Addr} {hg : Nat} {Ss : List Sg} {gap : Int} (h : FA C H f hg Ss gap) : ∃ dx fs, H f = some (.ins C dx fs) /\ fs.lookup ("width" : Str) = none /\ fs.lookup ("height" : Str) = none /\ fs.lookup ("band" : Str) = none /\ fs.lookup ("pics_of" : Str) = none := by
  obtain ⟨dx, d, a, _⟩ := h
  have k : ∀ n : Str, (n == ("pics" : Str)) = false -> (n == ("gap" : Str)) = false -> (n == ("high" : Str)) = false -> ([("pics", V.ref d), ("high", .int hg), ("gap", .int gap)] : List (Str × V)).lookup n = none := fun n u v w => by simp only [List.lookup, u, v, w]
  exact ⟨dx, _, a, k _ (by decide +kernel) (by decide +kernel) (by decide +kernel), k _ (by decide +kernel) (by decide +kernel) (by decide +kernel), k _ (by decide +kernel) (by decide +kernel) (by decide +kernel), k _ (by decide +kernel) (by decide +kernel) (by decide +kernel)⟩
def zBt (z : Str) : Prop := ∀ c ∈ z.cps.toList, c ∈ sgnL
theorem TextOf.inSg {hg : Nat} {Ss : List Sg} {z : Str} (O : FontOk hg Ss) (h : TextOf Ss z) : zBt z := fun c hc => by
  obtain ⟨S, hS, e⟩ := List.any_eq_true.mp (h c hc)
  rw [<- of_decide_eq_true e]
  exact O.sg S hS
theorem zBu : ∀ c ∈ sgnL, (reprText (one c)).length <= 100000 := by decide +kernel
def SameB (x : Addr) (H H' : Hp) : Prop := ∀ b o, b ≠ x -> H b = some o -> H' b = some o
theorem SameB.fresh {x dx : Addr} {H H' : Hp} {o u : HO} (nx : H x = none) (nd : H dx = none) (s : SameB x (upd (upd H dx u) x o) H') : Same H H' := fun b v e => s b v (z08 e nx) (by rw [z07 (z08 e nx), z07 (z08 e nd)]; exact e)
def z5x (C : Addr) : Sp := fun vs H Q _ => ∃ (x dx l : Addr) (us : List Addr) (Ss : List Sg) (hg : Nat) (gap : Int), vs = [.ref x, .ref l, .int gap] /\ H x = some (.ins C dx []) /\ PrsAt hg H l us Ss /\ FontOk hg Ss /\ 0 <= gap /\ gap <= 8 /\
  ∀ H', SameB x H H' -> FA C H' x hg Ss gap -> Q .non H'
theorem zAF {hg : Nat} {H : Hp} {l : Addr} {ts : List Addr} {Ss : List Sg} {st : Int} (SA : SgsAt hg H l ts Ss) (h1 : 1 <= Ss.length) (h2 : Ss.length <= 60) (hc : ∀ (i : Nat) S, Ss[i]? = some S -> S.c = z2O (st + 37 * i)) : FontOk hg Ss := by
  refine ⟨h1, h2, ?_, fun S hS => ?_, fun S hS => ?_⟩
  . refine List.pairwise_iff_getElem.mpr fun i j hi hj hij => ?_
    rw [List.length_map] at hi hj
    rw [List.getElem_map, List.getElem_map, hc i _ (List.getElem?_eq_getElem hi), hc j _ (List.getElem?_eq_getElem hj)]
    intro e
    have := z6f e
    omega
  . obtain ⟨i, hi, e⟩ := List.mem_iff_getElem.mp hS
    rw [<- e, hc i _ (List.getElem?_eq_getElem hi)]
    unfold z2O
    have h1 := Int.emod_nonneg (st + 37 * i) (show (94 : Int) ≠ 0 by decide)
    have h2 := Int.emod_lt_of_pos (st + 37 * i) (show (0 : Int) < 94 by decide)
    have hj : ((st + 37 * i) % 94).toNat < sgnL.length := by rw [z2W]; omega
    rw [List.getD_eq_getElem?_getD, List.getElem?_eq_getElem hj]
    exact List.getElem_mem hj
  . obtain ⟨i, hi, e⟩ := List.mem_iff_getElem.mp hS
    obtain ⟨t, _, ⟨_, _, _, _, R⟩, _⟩ := SA.get hi
    rw [e] at R
    exact R
theorem beyond {Ss : List Sg} {st : Int} {j : Nat} (hc : ∀ (i : Nat) S, Ss[i]? = some S -> S.c = z2O (st + 37 * i)) (h1 : Ss.length <= j) (h2 : j < 94) : known Ss (z2O (st + 37 * j)) = false := by
  cases e : known Ss (z2O (st + 37 * j)) with
  | false => rfl
  | true =>
    obtain ⟨S, hS, z⟩ := List.any_eq_true.mp e
    obtain ⟨i, hi, ei⟩ := List.mem_iff_getElem.mp hS
    have z := of_decide_eq_true z
    rw [<- ei, hc i _ (List.getElem?_eq_getElem hi)] at z
    have := z6f z
    omega
section
variable {X : Cx}
def zDW (K : PySem.W.Frag) : R2 := fun x y H Q => ∃ (a b : Addr) (z z' : Str) (i j : Int), x = .ref a /\ y = .ref b /\ SqT K H a [.str z, .int i] /\ SqT K H b [.str z', .int j] /\ Q (.bl ((z == z') && (i == j))) H
theorem zBv (hu : X.A.units + 1 < cLine) : OpR X (compareOp .Eq) (zDW X.K) := by
  intro pins s σ H x y v u Q I rx ry h0
  obtain ⟨a, b, z, z', i, j, rfl, rfl, ha, hb, q⟩ := h0
  cases rx
  cases ry
  obtain ⟨its, r1, p1, _⟩ := I.tuple ha
  obtain ⟨its2, r2, p2, _⟩ := I.tuple hb
  cases r1 with
  | @cons _ u1 _ _ x1 r1 => cases r1 with
    | @cons _ u2 _ _ x2 r1 =>
      cases r1
      cases r2 with
      | @cons _ v1 _ _ y1 r2 => cases r2 with
        | @cons _ v2 _ _ y2 r2 =>
          cases r2
          obtain ⟨t1, rfl⟩ := x1
          obtain ⟨t2, rfl⟩ := x2
          obtain ⟨t3, rfl⟩ := y1
          obtain ⟨t4, rfl⟩ := y2
          refine SeqAt.eq_tupleAt (e := fun k => match k with | 0 => z == z' | _ => i == j) p1 p2 (by omega) (fun k k1 k2 => ?_) ⟨.bl _, H, I, rfl, ?_⟩
          . have c2 : k < 2 := k1
            match k, c2 with
            | 0, _ => exact SeqAt.EqAt.str_str _ _ _ _
            | 1, _ => exact SeqAt.EqAt.int_int _ _ _ _
          . have e : ((List.range (min 2 2)).all (fun k => match k with | 0 => z == z' | _ => i == j) && ((2 : Nat) == 2)) = ((z == z') && (i == j)) := by
              show (((z == z') && ((i == j) && true)) && true) = _
              rw [Bool.and_true, Bool.and_true]
            show Q (.bl ((List.range (min 2 2)).all (fun k => match k with | 0 => z == z' | _ => i == j) && ((2 : Nat) == 2))) H
            rw [e]
            exact q
end
end L2
namespace L2
open PySem PySem.Spec PyProof.Rows G
theorem z5y {P : Nat -> Addr -> Prop} : ∀ n : Nat, (∀ i, i < n -> ∃ p, P i p) -> ∃ ps : List Addr, ps.length = n /\ ∀ (i : Nat) p, ps[i]? = some p -> P i p
  | 0, _ => ⟨[], rfl, fun _ _ e => by simp at e⟩
  | n + 1, h => by
    obtain ⟨ps, hl, hp⟩ := z5y n fun i hi => h i (by omega)
    obtain ⟨p, hn⟩ := h n (Nat.lt_succ_self n)
    refine ⟨ps ++ [p], by rw [List.length_append, hl]; rfl, fun i q e => ?_⟩
    by_cases hi : i < ps.length
    . rw [List.getElem?_append_left hi] at e
      exact hp i q e
    . rw [List.getElem?_append_right (by omega)] at e
      cases hk : i - ps.length with
      | zero =>
        rw [hk] at e
        cases e
        have : i = n := by omega
        rw [this]
        exact hn
      | succ m =>
        rw [hk] at e
        cases e
theorem PrsAt.pics {hg : Nat} {H : Hp} {l : Addr} {us : List Addr} {Ss : List Sg} (h : PrsAt hg H l us Ss) : ∃ ps : List Addr, ps.length = Ss.length /\ ∀ (i : Nat) t S p, us[i]? = some t -> Ss[i]? = some S -> ps[i]? = some p -> H t = some (.tup [.str (one S.c), .ref p]) /\ PicAt H p S.w S.rows /\ Rect S.w hg S.rows := by
  obtain ⟨ps, hl, hp⟩ := z5y (P := fun i p => ∃ (hi : i < us.length) (hj : i < Ss.length), H us[i] = some (.tup [.str (one Ss[i].c), .ref p]) /\ PicAt H p Ss[i].w Ss[i].rows /\ Rect Ss[i].w hg Ss[i].rows) Ss.length fun i hi => by
    have hu : i < us.length := by rw [h.len]; exact hi
    obtain ⟨p, a, b, c⟩ := h.at' i _ _ (List.getElem?_eq_getElem hu) (List.getElem?_eq_getElem hi)
    exact ⟨p, hu, hi, a, b, c⟩
  refine ⟨ps, hl, fun i t S p e1 e2 e3 => ?_⟩
  obtain ⟨hi, hj, a, b, c⟩ := hp i p e3
  rw [List.getElem?_eq_getElem hi] at e1
  rw [List.getElem?_eq_getElem hj] at e2
  cases e1
  cases e2
  exact ⟨a, b, c⟩
def kvF (Ss : List Sg) (ps : List Addr) : List (Key × V) := (Ss.zip ps).map fun p => (Sum.inr (one p.1.c), V.ref p.2)
theorem z4S {Ss : List Sg} {ps : List Addr} (h : ps.length = Ss.length) : (kvF Ss ps).length = Ss.length := by
  unfold kvF
  rw [List.length_map, List.length_zip, h, Nat.min_self]
theorem z6q {Ss : List Sg} {ps : List Addr} (h : ps.length = Ss.length) {i : Nat} (hi : i < Ss.length) : (kvF Ss ps)[i]? = some (Sum.inr (one Ss[i].c), V.ref (ps[i]'(by omega))) := by
  unfold kvF
  rw [List.getElem?_map, List.getElem?_eq_getElem (by rw [List.length_zip, h, Nat.min_self]; exact hi), List.getElem_zip]
  rfl
theorem z6r : ∀ {Ss : List Sg} {ps : List Addr}, ps.length = Ss.length -> (kvF Ss ps).map (·.1) = Ss.map fun S => (Sum.inr (one S.c) : Key)
  | [], [], _ => rfl
  | [], _ :: _, h => by cases h
  | _ :: _, [], h => by cases h
  | S :: Ss, p :: ps, h => by
    show (Sum.inr (one S.c) : Key) :: (kvF Ss ps).map (·.1) = _
    rw [z6r (by simpa using h)]
    rfl
theorem zBw {m : List (Key × V)} {k : Key} {v : V} (h : k ∉ m.map (·.1)) : putK m k v = m ++ [(k, v)] := by
  unfold putK
  rw [if_neg fun z => ?_]
  obtain ⟨p, hp, e⟩ := List.any_eq_true.mp z
  exact h (List.mem_map.mpr ⟨p, hp, by simpa using e⟩)
theorem z3z : ∀ {kvs m : List (Key × V)}, (kvs.map (·.1)).Nodup -> (∀ k ∈ kvs.map (·.1), k ∉ m.map (·.1)) -> putAll m kvs = m ++ kvs
  | [], m, _, _ => (List.append_nil m).symm
  | (k, v) :: kvs, m, nd, h => by
    show putAll (putK m k v) kvs = _
    obtain ⟨n1, n2⟩ := List.nodup_cons.mp nd
    rw [zBw (h k List.mem_cons_self), z3z n2 fun k' hk hm => ?_, List.append_assoc]
    . rfl
    . rw [List.map_append] at hm
      rcases List.mem_append.mp hm with z | z
      . exact h k' (List.mem_cons_of_mem _ hk) z
      . have e : k' = k := by simpa using z
        exact n1 (e ▸ hk)
theorem z99 {hg : Nat} {Ss : List Sg} {ps : List Addr} (O : FontOk hg Ss) (h : ps.length = Ss.length) : putAll [] (kvF Ss ps) = kvF Ss ps := by
  rw [z3z ?_ fun _ _ z => by simp at z]
  . rfl
  . rw [z6r h]
    have e : (Ss.map fun S => (Sum.inr (one S.c) : Key)) = (Ss.map (·.c)).map fun c => (Sum.inr (one c) : Key) := by rw [List.map_map]; rfl
    rw [e]
    refine List.Pairwise.map _ (fun a b n z => n ?_) O.nd
    injection z with z
    exact one_inj z
theorem z5z : ∀ {Ss : List Sg} {ps : List Addr} (c : Nat), ps.length = Ss.length -> (z4B (kvF Ss ps) (Sum.inr (one c))).isSome = known Ss c
  | [], [], _, _ => rfl
  | [], _ :: _, _, h => by cases h
  | _ :: _, [], _, h => by cases h
  | S :: Ss, p :: ps, c, h => by
    have ih := z5z (Ss := Ss) (ps := ps) c (by simpa using h)
    unfold known
    rw [List.any_cons]
    by_cases e : S.c = c
    . rw [decide_eq_true e, Bool.true_or, <- e]
      show (z4B ((Sum.inr (one S.c), V.ref p) :: kvF Ss ps) (Sum.inr (one S.c))).isSome = true
      unfold z4B
      rw [List.find?_cons_of_pos (by simp)]
      rfl
    . rw [decide_eq_false e, Bool.false_or]
      show (z4B ((Sum.inr (one S.c), V.ref p) :: kvF Ss ps) (Sum.inr (one c))).isSome = _
      have ne : ¬ (Sum.inr (one S.c) : Key) = Sum.inr (one c) := fun z => by
        injection z with z
        exact e (one_inj z)
      unfold z4B at ih ⊢
      rw [List.find?_cons_of_neg (by simpa using ne)]
      exact ih
theorem z9A {Ss : List Sg} {ps : List Addr} : ∀ {c : Nat}, ps.length = Ss.length -> known Ss c = true -> ∃ (i : Nat) (S : Sg) (p : Addr), Ss[i]? = some S /\ ps[i]? = some p /\ S.c = c /\ z4B (kvF Ss ps) (Sum.inr (one c)) = some (.ref p) := fun {c} h k => by
  have e := z5z c h
  rw [k] at e
  obtain ⟨v, hv⟩ := Option.isSome_iff_exists.mp e
  unfold z4B at hv
  obtain ⟨⟨k', v'⟩, hf, ev⟩ := Option.map_eq_some_iff.mp hv
  have hm := List.mem_of_find?_eq_some hf
  have hk := List.find?_some hf
  obtain ⟨i, hi, ei⟩ := List.mem_iff_getElem.mp hm
  rw [z4S h] at hi
  have g := z6q h hi
  rw [List.getElem?_eq_getElem (by rw [z4S h]; exact hi), ei] at g
  cases g
  refine ⟨i, Ss[i], ps[i]'(by omega), List.getElem?_eq_getElem hi, List.getElem?_eq_getElem _, ?_, ?_⟩
  . have : (Sum.inr (one Ss[i].c) : Key) = Sum.inr (one c) := by simpa using hk
    injection this with z
    exact one_inj z
  . unfold z4B
    rw [hf]
    rfl
theorem zB1 {n d : Nat} {i : Int} (h0 : 0 <= i) (h1 : i <= n) : HT.sIx n d (some i) = i.toNat := by
  simp only [HT.sIx]
  rw [if_neg (by omega)]
  omega
theorem zAG {z : Str} {i : Int} (h0 : 0 <= i) (h1 : i <= z.length) : (z53 z none (some i)).cps.toList = z.cps.toList.take i.toNat := by
  unfold z53
  rw [zB1 h0 h1]
  show ((z.cps.toList.drop 0).take (i.toNat - 0)).toArray.toList = _
  rw [List.drop_zero, Nat.sub_zero]
theorem zAH {z : Str} {i : Int} (h0 : 0 <= i) (h1 : i <= z.length) : (z53 z (some i) none).cps.toList = z.cps.toList.drop i.toNat := by
  unfold z53
  rw [zB1 h0 h1]
  show ((z.cps.toList.drop i.toNat).take (z.length - i.toNat)).toArray.toList = _
  have e : z.length = z.cps.toList.length := (Array.length_toList).symm
  rw [List.take_of_length_le (by rw [List.length_drop, e]; exact Nat.le_refl _)]
def putIn (z : Str) (i : Int) (c : Nat) : Str := z53 z none (some i) ++ one c ++ z53 z (some i) none
theorem z5A {z : Str} {i : Int} (h0 : 0 <= i) (h1 : i <= z.length) (c : Nat) : (putIn z i c).cps.toList = z.cps.toList.take i.toNat ++ c :: z.cps.toList.drop i.toNat := by
  have e : (putIn z i c).cps = (z53 z none (some i)).cps ++ #[c] ++ (z53 z (some i) none).cps := rfl
  rw [e, Array.toList_append, Array.toList_append, zAG h0 h1, zAH h0 h1, List.append_assoc]
  rfl
theorem z9B {z : Str} {i : Int} (h0 : 0 <= i) (h1 : i <= z.length) (c : Nat) : (putIn z i c).length = z.length + 1 := by
  have e := congrArg List.length (z5A h0 h1 c)
  have e2 : z.cps.toList.length = z.length := Array.length_toList
  rw [List.length_append, List.length_cons, List.length_take, List.length_drop, e2] at e
  have e3 : (putIn z i c).cps.toList.length = (putIn z i c).length := Array.length_toList
  omega
theorem z5B {z : Str} {i : Int} (h0 : 0 <= i) (h1 : i <= z.length) {c d : Nat} : d ∈ (putIn z i c).cps.toList ↔ d = c \/ d ∈ z.cps.toList := by
  rw [z5A h0 h1, List.mem_append, List.mem_cons]
  have e : d ∈ z.cps.toList ↔ d ∈ z.cps.toList.take i.toNat \/ d ∈ z.cps.toList.drop i.toNat := by
    rw [<- List.mem_append, List.take_append_drop]
  rw [e]
  constructor
  . rintro (h | h | h)
    . exact .inr (.inl h)
    . exact .inl h
    . exact .inr (.inr h)
  . rintro (h | h | h)
    . exact .inr (.inl h)
    . exact .inl h
    . exact .inr (.inr h)
theorem zAI (n : Int) : z2O n ∈ sgnL := by
  unfold z2O
  have h1 := Int.emod_nonneg n (show (94 : Int) ≠ 0 by decide)
  have h2 := Int.emod_lt_of_pos n (show (0 : Int) < 94 by decide)
  have hj : (n % 94).toNat < sgnL.length := by rw [z2W]; omega
  rw [List.getD_eq_getElem?_getD, List.getElem?_eq_getElem hj]
  exact List.getElem_mem hj
def sgB (z : Str) : Bool := decide (z.length = 1) && ((decide (32 <= z.cps.getD 0 0) && decide (z.cps.getD 0 0 <= 126)) && decide (z.cps.getD 0 0 ≠ 37))
def sgV : V -> Bool
  | .str z => sgB z
  | _ => false
theorem sgn_mem {c : Nat} : c ∈ sgnL ↔ 32 <= c /\ c <= 126 /\ c ≠ 37 := by
  unfold sgnL
  rw [List.mem_filter, List.mem_map, decide_eq_true_iff]
  constructor
  . rintro ⟨⟨a, ha, rfl⟩, h⟩
    have := List.mem_range.mp ha
    omega
  . rintro ⟨h1, h2, h3⟩
    exact ⟨⟨c - 32, List.mem_range.mpr (by omega), by omega⟩, h3⟩
theorem zBx {c : Nat} (h : c ∈ sgnL) : sgB (one c) = true := by
  obtain ⟨h1, h2, h3⟩ := sgn_mem.mp h
  unfold sgB
  have e : (one c).cps.getD 0 0 = c := rfl
  rw [e, decide_eq_true (zBY c), decide_eq_true h1, decide_eq_true h2, decide_eq_true h3]
  rfl
def z9C : Sp := fun vs H Q _ => ∃ v T, vs = [v] /\ tyS H v = some T /\ (∀ z, v = .str z -> z.length <= 1000) /\ Q (.bl (sgV v)) H
inductive PairIs (H : Hp) (v : V) : Bool -> Prop
  | no (T : String) : tyS H v = some T -> (T == "tuple") = false -> PairIs H v false
  | few (t : Addr) (xs : List V) : v = .ref t -> H t = some (.tup xs) -> xs.length ≠ 2 -> PairIs H v false
  | two (t : Addr) (a b : V) (T : String) (k : Bool) : v = .ref t -> H t = some (.tup [a, b]) -> tyS H a = some T -> (∀ z, a = .str z -> z.length <= 1000) -> IsP H b k -> PairIs H v (sgV a && k)
theorem PrAt.isPair {hg : Nat} {H : Hp} {t : Addr} {S : Sg} (h : PrAt hg H t S) (hc : S.c ∈ sgnL) : PairIs H (.ref t) true := by
  obtain ⟨p, a, b, R⟩ := h
  have q := PairIs.two (H := H) (v := .ref t) t (.str (one S.c)) (.ref p) "str" true rfl a rfl (fun z e => by cases e; exact (by decide : (1 : Nat) <= 1000)) (b.isP R)
  rw [Bool.and_true] at q
  have e : sgV (.str (one S.c)) = true := zBx hc
  rw [e] at q
  exact q
def z9D : Sp := fun vs H Q _ => ∃ v k, vs = [v] /\ PairIs H v k /\ ∀ H', Same H H' -> Q (.bl k) H'
def z6s : Sp := fun vs H Q _ => ∃ (l : Addr) (us : List Addr) (Ss : List Sg) (hg : Nat), vs = [.ref l] /\ PrsAt hg H l us Ss /\ FontOk hg Ss /\ ∀ d H', Same H H' -> H d = none -> PicsAt hg H' d Ss -> Q (.ref d) H'
def zCf (H : Hp) (l : Addr) (Ss : List Sg) (cs : List Nat) : Prop := ∃ ps : List Addr, ps.length = cs.length /\ H l = some (.lst (ps.map V.ref)) /\ ∀ (i : Nat) p c, ps[i]? = some p -> cs[i]? = some c -> ∃ S ∈ Ss, S.c = c /\ PicAt H p S.w S.rows
def z3B (C cS : Addr) : Sp := fun vs H Q E => ∃ (x : Addr) (z : Str) (Ss : List Sg) (hg : Nat) (gap : Int), vs = [.ref x, .str z] /\ FA C H x hg Ss gap /\ FontOk hg Ss /\ z.length <= 1000 /\ zBt z /\
  (firstBad Ss z.cps.toList 0 = none -> ∀ l H', Same H H' -> H l = none -> zCf H' l Ss z.cps.toList -> Q (.ref l) H') /\
  ∀ c i d H', firstBad Ss z.cps.toList 0 = some (c, i) -> Same H H' -> H' d = some (.ext (z3W d [("at", .int (i : Nat)), ("sign", .str (one c))])) -> E (.ref cS) (some d) H'
def z3C (C : Addr) : Sp := fun vs H Q _ => ∃ (x : Addr) (Ss : List Sg) (hg : Nat) (gap : Int), vs = [.ref x] /\ FA C H x hg Ss gap /\ Q (.int hg) H
end L2
namespace L2
open PySem PySem.Spec PyProof.Rows G
def sgF (Ss : List Sg) (c : Nat) : Sg := (Ss.find? fun S => decide (S.c = c)).getD ⟨c, 0, []⟩
theorem z9E {hg : Nat} {Ss : List Sg} {S : Sg} (O : FontOk hg Ss) (hS : S ∈ Ss) : sgF Ss S.c = S := by
  unfold sgF
  cases h : Ss.find? fun T => decide (T.c = S.c) with
  | none =>
    have := List.find?_eq_none.mp h S hS
    simp at this
  | some T =>
    have hT := List.mem_of_find?_eq_some h
    have e : T.c = S.c := by simpa using List.find?_some h
    obtain ⟨i, hi, ei⟩ := List.mem_iff_getElem.mp hT
    obtain ⟨j, hj, ej⟩ := List.mem_iff_getElem.mp hS
    have z : (Ss.map (·.c))[i]'(by rw [List.length_map]; exact hi) = (Ss.map (·.c))[j]'(by rw [List.length_map]; exact hj) := by
      rw [List.getElem_map, List.getElem_map, ei, ej]
      exact e
    have ij := (List.getElem_inj O.nd).mp z
    subst ij
    show T = S
    rw [<- ei, <- ej]
theorem z2c {hg : Nat} {Ss : List Sg} {c : Nat} (O : FontOk hg Ss) (h : known Ss c = true) : sgF Ss c ∈ Ss /\ (sgF Ss c).c = c := by
  obtain ⟨S, hS, e⟩ := List.any_eq_true.mp h
  have e := of_decide_eq_true e
  have q := z9E O hS
  rw [e] at q
  rw [q]
  exact ⟨hS, e⟩
def z3D (Ss : List Sg) (gap : Int) (cs : List Nat) (k : Nat) : Int := ((cs.take k).map fun c => ((sgF Ss c).w : Int) + gap).sum
theorem z5C (Ss : List Sg) (gap : Int) (cs : List Nat) : z3D Ss gap cs 0 = 0 := rfl
theorem z5D {Ss : List Sg} {gap : Int} {cs : List Nat} {k c : Nat} (h : cs[k]? = some c) : z3D Ss gap cs (k + 1) = z3D Ss gap cs k + (((sgF Ss c).w : Int) + gap) := by
  unfold z3D
  rw [List.take_succ, h, List.map_append, List.sum_append]
  simp
def cellK (Ss : List Sg) (hg : Nat) (gap : Int) (cs : List Nat) : Nat -> Int -> Nat -> Option Int
  | 0, _, _ => none
  | k + 1, x, y => (match cs[k]? with
    | some c => look (sgF Ss c).w hg (sgF Ss c).rows (x - z3D Ss gap cs k) (y : Int)
    | none => none).or (cellK Ss hg gap cs k x y)
theorem z28 {Ss : List Sg} {hg : Nat} {gap : Int} {cs : List Nat} {k c : Nat} (h : cs[k]? = some c) (x : Int) (y : Nat) : cellK Ss hg gap cs (k + 1) x y = (look (sgF Ss c).w hg (sgF Ss c).rows (x - z3D Ss gap cs k) (y : Int)).or (cellK Ss hg gap cs k x y) := by
  show (match cs[k]? with
    | some c => look (sgF Ss c).w hg (sgF Ss c).rows (x - z3D Ss gap cs k) (y : Int)
    | none => none).or (cellK Ss hg gap cs k x y) = _
  rw [h]
theorem z3E {w h : Nat} {rows : Rws} {x y : Int} (hx : x < 0 \/ (w : Int) <= x) : look w h rows x y = none := by
  unfold look
  rw [if_neg (by omega)]
theorem z7S {w h : Nat} {rows : Rws} (R : Rect w h rows) (x y : Int) : Cell (look w h rows x y) := by
  rw [z2i R]
  exact z6c (z2I R y) _
theorem z2l {hg : Nat} {Ss : List Sg} (O : FontOk hg Ss) (gap : Int) {cs : List Nat} (hk : ∀ c ∈ cs, known Ss c = true) (x : Int) (y : Nat) : ∀ k, Cell (cellK Ss hg gap cs k x y)
  | 0 => fun z e => nomatch e
  | k + 1 => by
    have ih := z2l O gap hk x y k
    cases hc : cs[k]? with
    | none =>
      show Cell ((match cs[k]? with
        | some c => look (sgF Ss c).w hg (sgF Ss c).rows (x - z3D Ss gap cs k) (y : Int)
        | none => none).or (cellK Ss hg gap cs k x y))
      rw [hc]
      exact ih
    | some c =>
      rw [z28 hc]
      have h1 := z7S (O.rect _ (z2c O (hk c (List.mem_of_getElem? hc))).1) (x - z3D Ss gap cs k) (y : Int)
      cases hl : look (sgF Ss c).w hg (sgF Ss c).rows (x - z3D Ss gap cs k) (y : Int) with
      | none => exact ih
      | some z =>
        rw [hl] at h1
        exact h1
def z2L (Ss : List Sg) (hg : Nat) (gap : Int) (cs : List Nat) (x : Int) (w k : Nat) : Rws := z1M w hg fun i y => cellK Ss hg gap cs k (x + (i : Int)) y
theorem z2d {hg : Nat} {Ss : List Sg} (O : FontOk hg Ss) (h1 : 1 <= hg) (h2 : hg <= 64) (gap : Int) {cs : List Nat} (hk : ∀ c ∈ cs, known Ss c = true) (x : Int) {w : Nat} (w1 : 1 <= w) (w2 : w <= 64) (k : Nat) : Rect w hg (z2L Ss hg gap cs x w k) :=
  z23 h1 h2 w1 w2 fun _ _ => z2l O gap hk _ _ _
theorem z9F (Ss : List Sg) (hg : Nat) (gap : Int) (cs : List Nat) (x : Int) (w : Nat) : z2L Ss hg gap cs x w 0 = List.replicate hg (List.replicate w none) := by
  unfold z2L z1M
  refine List.eq_replicate_iff.mpr ⟨by rw [List.length_map, List.length_range], fun r hr => ?_⟩
  obtain ⟨y, _, rfl⟩ := List.mem_map.mp hr
  refine List.eq_replicate_iff.mpr ⟨by rw [List.length_map, List.length_range], fun c hc => ?_⟩
  obtain ⟨i, _, rfl⟩ := List.mem_map.mp hc
  rfl
theorem zAJ {hg : Nat} {Ss : List Sg} (O : FontOk hg Ss) (h1 : 1 <= hg) (h2 : hg <= 64) (gap : Int) {cs : List Nat} (hk : ∀ c ∈ cs, known Ss c = true) (x : Int) {w : Nat} (w1 : 1 <= w) (w2 : w <= 64) {k c : Nat} (hc : cs[k]? = some c) :
    z0Y (z2L Ss hg gap cs x w k) (cutRows (sgF Ss c).rows (-(z3D Ss gap cs k - x)) (-0) w hg) = z2L Ss hg gap cs x w (k + 1) := by
  have R := z2d O h1 h2 gap hk x w1 w2 k
  have R2 := O.rect _ (z2c O (hk c (List.mem_of_getElem? hc))).1
  rw [<- z8h R R2]
  unfold z2L z1M
  refine List.map_congr_left fun y hy => ?_
  unfold llR
  refine List.map_congr_left fun i hi => ?_
  show _ = cellK Ss hg gap cs (k + 1) (x + (i : Int)) y
  rw [z28 hc]
  have e1 : (i : Int) - (z3D Ss gap cs k - x) = x + (i : Int) - z3D Ss gap cs k := by omega
  have e2 : (y : Int) - 0 = (y : Int) := by omega
  rw [e1, e2]
  congr 1
  exact z4x (f := fun i y => cellK Ss hg gap cs k (x + (i : Int)) y) (List.mem_range.mp hi) (List.mem_range.mp hy)
theorem z9G {hg : Nat} {Ss : List Sg} {gap : Int} {cs : List Nat} {x : Int} {w k c : Nat} (hc : cs[k]? = some c) (h : z3D Ss gap cs k - x <= -((sgF Ss c).w : Int) \/ (w : Int) <= z3D Ss gap cs k - x) : z2L Ss hg gap cs x w (k + 1) = z2L Ss hg gap cs x w k := by
  unfold z2L
  refine z2h fun i y hi _ => ?_
  rw [z28 hc, z3E (by omega)]
  rfl
abbrev Col := List (Option Int)
def z30 (hg : Nat) (S : Sg) : List Col := (List.range S.w).map fun x => S.rows.map fun r => (r[x]?).join
def z5V (hg : Nat) (gap : Int) : List Col := List.replicate gap.toNat (List.replicate hg none)
def z1I (Ss : List Sg) (hg : Nat) (gap : Int) (cs : List Nat) : Nat -> List Col
  | 0 => []
  | k + 1 => (match cs[k]? with
    | some c => (z1I Ss hg gap cs k ++ if 0 < k then z5V hg gap else []) ++ z30 hg (sgF Ss c)
    | none => z1I Ss hg gap cs k)
theorem z2m {Ss : List Sg} {hg : Nat} {gap : Int} {cs : List Nat} {k c : Nat} (h : cs[k]? = some c) : z1I Ss hg gap cs (k + 1) = (z1I Ss hg gap cs k ++ if 0 < k then z5V hg gap else []) ++ z30 hg (sgF Ss c) := by
  show (match cs[k]? with
    | some c => (z1I Ss hg gap cs k ++ if 0 < k then z5V hg gap else []) ++ z30 hg (sgF Ss c)
    | none => z1I Ss hg gap cs k) = _
  rw [h]
def z1f (cols : List Col) (x : Int) (y : Nat) : Option Int := if 0 <= x then ((cols[x.toNat]?).bind fun c => c[y]?).join else none
theorem z2v (A B : List Col) (x : Int) (y : Nat) : z1f (A ++ B) x y = if x < A.length then z1f A x y else z1f B (x - A.length) y := by
  unfold z1f
  by_cases h0 : 0 <= x
  . rw [if_pos h0, if_pos h0]
    by_cases h1 : x < A.length
    . rw [if_pos h1, List.getElem?_append_left (by omega)]
    . rw [if_neg h1, if_pos (by omega), List.getElem?_append_right (by omega)]
      have : x.toNat - A.length = (x - A.length).toNat := by omega
      rw [this]
  . rw [if_neg h0, if_neg h0]
    by_cases h1 : x < A.length
    . rw [if_pos h1]
    . rw [if_neg h1, if_neg (by omega)]
theorem z29 {A : List Col} {x : Int} {y : Nat} (h : (A.length : Int) <= x) : z1f A x y = none := by
  unfold z1f
  by_cases h0 : 0 <= x
  . rw [if_pos h0, List.getElem?_eq_none (by omega)]
    rfl
  . rw [if_neg h0]
theorem z5E {A : List Col} {x : Int} {y : Nat} (h : x < 0) : z1f A x y = none := by
  unfold z1f
  rw [if_neg (by omega)]
theorem z9H (hg : Nat) (gap : Int) (x : Int) (y : Nat) : z1f (z5V hg gap) x y = none := by
  unfold z1f z5V
  by_cases h0 : 0 <= x
  . rw [if_pos h0]
    by_cases h1 : x.toNat < gap.toNat
    . rw [List.getElem?_replicate, if_pos h1]
      show ((List.replicate hg none)[y]?).join = none
      rw [List.getElem?_replicate]
      split <;> rfl
    . rw [List.getElem?_replicate, if_neg h1]
      rfl
  . rw [if_neg h0]
theorem z7T {hg : Nat} {S : Sg} (R : Rect S.w hg S.rows) (x : Int) {y : Nat} (hy : y < hg) : z1f (z30 hg S) x y = look S.w hg S.rows x (y : Int) := by
  have hR := R.len
  by_cases h0 : 0 <= x
  . by_cases h1 : x < S.w
    . have hyr : y < S.rows.length := by omega
      have hw := (R.row0 hyr).1
      unfold z1f z30
      rw [if_pos h0, List.getElem?_map, List.getElem?_range (by omega)]
      show ((S.rows.map fun r => (r[x.toNat]?).join)[y]?).join = _
      rw [List.getElem?_map, List.getElem?_eq_getElem hyr]
      show ((S.rows[y]'hyr)[x.toNat]?).join = _
      have hx : x.toNat < (S.rows[y]'hyr).length := by omega
      rw [List.getElem?_eq_getElem hx]
      have e := zBR (w := S.w) (h := hg) (rows := S.rows) (x := x) (y := (y : Int)) h0 (by omega) (by omega) (by omega) (by simpa using hyr) (by simpa using hx)
      rw [e]
      rfl
    . rw [z3E (.inr (by omega)), z29 (by unfold z30; rw [List.length_map, List.length_range]; omega)]
  . rw [z3E (.inl (by omega)), z5E (by omega)]
theorem z5F {hg : Nat} {Ss : List Sg} (O : FontOk hg Ss) {gap : Int} (g0 : 0 <= gap) {cs : List Nat} (hk : ∀ c ∈ cs, known Ss c = true) : ∀ k, k <= cs.length ->
    (((z1I Ss hg gap cs k).length : Int) = if k = 0 then 0 else z3D Ss gap cs k - gap) /\ ∀ (x : Int) (y : Nat), y < hg -> z1f (z1I Ss hg gap cs k) x y = cellK Ss hg gap cs k x y
  | 0, _ => ⟨rfl, fun x y _ => by
    unfold z1f
    show (if 0 <= x then ((([] : List Col)[x.toNat]?).bind fun c => c[y]?).join else none) = none
    split <;> rfl⟩
  | k + 1, h => by
    obtain ⟨ihl, ihc⟩ := z5F O g0 hk k (by omega)
    have hc : cs[k]? = some (cs[k]'(by omega)) := List.getElem?_eq_getElem (by omega)
    generalize cs[k]'(by omega) = c at hc
    have R := O.rect _ (z2c O (hk c (List.mem_of_getElem? hc))).1
    have hlen : ((z1I Ss hg gap cs k ++ if 0 < k then z5V hg gap else []).length : Int) = z3D Ss gap cs k := by
      rw [List.length_append]
      by_cases h0 : k = 0
      . subst h0
        rfl
      . rw [if_neg h0] at ihl
        rw [if_pos (by omega)]
        unfold z5V
        rw [List.length_replicate]
        omega
    have hs : (z30 hg (sgF Ss c)).length = (sgF Ss c).w := by unfold z30; rw [List.length_map, List.length_range]
    rw [z2m hc, z5D hc]
    refine ⟨?_, fun x y hy => ?_⟩
    . rw [List.length_append, hs, if_neg (show ¬ k + 1 = 0 by omega)]
      omega
    . rw [z2v, hlen, z28 hc]
      by_cases h1 : x < z3D Ss gap cs k
      . rw [if_pos h1, z3E (.inl (by omega)), z2v]
        show _ = cellK Ss hg gap cs k x y
        by_cases h2 : x < (z1I Ss hg gap cs k).length
        . rw [if_pos h2]
          exact ihc x y hy
        . rw [if_neg h2, <- ihc x y hy, z29 (A := z1I Ss hg gap cs k) (by omega)]
          by_cases h0 : 0 < k
          . rw [if_pos h0]
            exact z9H _ _ _ _
          . rw [if_neg h0]
            unfold z1f
            split <;> rfl
      . rw [if_neg h1, z7T R _ hy]
        have e0 : cellK Ss hg gap cs k x y = none := by
          rw [<- ihc x y hy, z29]
          by_cases h0 : k = 0
          . subst h0
            rw [if_pos rfl] at ihl
            rw [z5C] at h1
            omega
          . rw [if_neg h0] at ihl
            omega
        rw [e0]
        cases look (sgF Ss c).w hg (sgF Ss c).rows (x - z3D Ss gap cs k) (y : Int) <;> rfl
end L2
namespace L2
open PySem PySem.Spec PyProof.Rows G
def TableAt (hg : Nat) (H : Hp) (d : Addr) (Ss : List Sg) : Prop := ∃ rls : List Addr, rls.length = Ss.length /\ H d = some (.dK (kvF Ss rls)) /\ ∀ (i : Nat) S p, Ss[i]? = some S -> rls[i]? = some p -> ∃ ps, RowsAt H p ps S.rows /\ Rect S.w hg S.rows
theorem TableAt.get {hg : Nat} {H : Hp} {d : Addr} {Ss : List Sg} {c : Nat} (O : FontOk hg Ss) (h : TableAt hg H d Ss) (k : known Ss c = true) : ∃ p ps, (∀ H', Same H H' -> DGet H' d (.str ⟨#[c]⟩) (some (.ref p))) /\ RowsAt H p ps (sgF Ss c).rows /\ Rect (sgF Ss c).w hg (sgF Ss c).rows := by
  obtain ⟨rls, a, b, e⟩ := h
  obtain ⟨i, S, p, e1, e2, e3, e4⟩ := z9A a k
  obtain ⟨ps, r1, r2⟩ := e i S p e1 e2
  have q := z9E O (List.mem_of_getElem? e1)
  rw [e3] at q
  rw [q]
  refine ⟨p, ps, fun H' s => ?_, r1, r2⟩
  have g := DGet.k (k := Sum.inr (one c)) (s _ _ b)
  rw [e4] at g
  exact g
theorem SgsAt.rows {hg : Nat} {H : Hp} {l : Addr} {ts : List Addr} {Ss : List Sg} (h : SgsAt hg H l ts Ss) : ∃ rls : List Addr, rls.length = Ss.length /\ ∀ (i : Nat) t S p, ts[i]? = some t -> Ss[i]? = some S -> rls[i]? = some p -> H t = some (.tup [.str (one S.c), .ref p]) /\ ∃ ps, RowsAt H p ps S.rows /\ Rect S.w hg S.rows := by
  obtain ⟨ps, hl, hp⟩ := z5y (P := fun i p => ∃ (hi : i < ts.length) (hj : i < Ss.length), H ts[i] = some (.tup [.str (one Ss[i].c), .ref p]) /\ ∃ ps, RowsAt H p ps Ss[i].rows /\ Rect Ss[i].w hg Ss[i].rows) Ss.length fun i hi => by
    have hu : i < ts.length := by rw [h.len]; exact hi
    obtain ⟨p, ps, a, b, c⟩ := h.at' i _ _ (List.getElem?_eq_getElem hu) (List.getElem?_eq_getElem hi)
    exact ⟨p, hu, hi, a, ps, b, c⟩
  refine ⟨ps, hl, fun i t S p e1 e2 e3 => ?_⟩
  obtain ⟨hi, hj, a, b⟩ := hp i p e3
  rw [List.getElem?_eq_getElem hi] at e1
  rw [List.getElem?_eq_getElem hj] at e2
  cases e1
  cases e2
  exact ⟨a, b⟩
def z40 (hg : Nat) (cols : List Col) : Prop := ∀ c ∈ cols, c.length = hg /\ Cells c
theorem zAK {hg : Nat} {S : Sg} (R : Rect S.w hg S.rows) : z40 hg (z30 hg S) := fun c hc => by
  unfold z30 at hc
  obtain ⟨x, _, rfl⟩ := List.mem_map.mp hc
  refine ⟨by rw [List.length_map]; exact R.len, fun d hd => ?_⟩
  obtain ⟨r, hr, rfl⟩ := List.mem_map.mp hd
  cases hx : r[x]? with
  | none => exact fun z e => nomatch e
  | some z => exact (R.row r hr).2 z (List.mem_of_getElem? hx)
theorem zBy (hg : Nat) (gap : Int) : z40 hg (z5V hg gap) := fun c hc => by
  unfold z5V at hc
  rw [(List.mem_replicate.mp hc).2]
  exact ⟨List.length_replicate, fun d hd => by rw [(List.mem_replicate.mp hd).2]; exact fun z e => nomatch e⟩
theorem z60 {hg : Nat} {Ss : List Sg} (O : FontOk hg Ss) {gap : Int} (g0 : 0 <= gap) (g1 : gap <= 8) {cs : List Nat} (hk : ∀ c ∈ cs, known Ss c = true) : ∀ k, k <= cs.length -> z40 hg (z1I Ss hg gap cs k) /\ (z1I Ss hg gap cs k).length <= 72 * k
  | 0, _ => ⟨fun c hc => (nomatch hc), Nat.zero_le _⟩
  | k + 1, h => by
    obtain ⟨i1, i2⟩ := z60 O g0 g1 hk k (by omega)
    have hc : cs[k]? = some (cs[k]'(by omega)) := List.getElem?_eq_getElem (by omega)
    generalize cs[k]'(by omega) = c at hc
    have R := O.rect _ (z2c O (hk c (List.mem_of_getElem? hc))).1
    have w2 := R.w2
    rw [z2m hc]
    refine ⟨fun d hd => ?_, ?_⟩
    . rcases List.mem_append.mp hd with hd | hd
      . rcases List.mem_append.mp hd with hd | hd
        . exact i1 d hd
        . split at hd
          . exact zBy hg gap d hd
          . cases hd
      . exact zAK R d hd
    . rw [List.length_append, List.length_append]
      have l1 : (if 0 < k then z5V hg gap else []).length <= 8 := by
        split
        . unfold z5V
          rw [List.length_replicate]
          omega
        . exact Nat.zero_le _
      have l2 : (z30 hg (sgF Ss c)).length = (sgF Ss c).w := by unfold z30; rw [List.length_map, List.length_range]
      omega
theorem z7U {hg : Nat} {cols : List Col} (h : z40 hg cols) (x : Int) (y : Nat) : Cell (z1f cols x y) := by
  unfold z1f
  split
  . cases hx : cols[x.toNat]? with
    | none => exact fun z e => nomatch e
    | some c =>
      show Cell ((c[y]?).join)
      cases hy : c[y]? with
      | none => exact fun z e => nomatch e
      | some d => exact (h c (List.mem_of_getElem? hx)).2 d (List.mem_of_getElem? hy)
  . exact fun z e => nomatch e
theorem RowsB.fresh {H0 H : Hp} {l p : Addr} {ps : List Addr} {rows : Rws} (B : RowsB H0 H l ps rows) (n : H p = none) : H0 p = none /\ p ≠ l /\ p ∉ ps := by
  refine ⟨B.same.free n, fun e => ?_, fun hp => ?_⟩
  . have := B.rat.lst
    rw [<- e, n] at this
    cases this
  . obtain ⟨i, hi, e⟩ := List.mem_iff_getElem.mp hp
    have hl := B.rat.len
    have := B.rat.row i p _ (by rw [List.getElem?_eq_getElem hi, e]) (List.getElem?_eq_getElem (by omega))
    rw [n] at this
    cases this
def z9I (C cS : Addr) : Sp := fun vs H Q E => ∃ (f : Addr) (z : Str) (x w : Int) (Ss : List Sg) (hg : Nat) (gap : Int), vs = [.ref f, .str z, .int x, .int w] /\ FA C H f hg Ss gap /\ FontOk hg Ss /\ 1 <= hg /\ hg <= 64 /\ z.length <= 1000 /\ zBt z /\ 1 <= w /\ w <= 64 /\
  (firstBad Ss z.cps.toList 0 = none -> ∀ p H', Same H H' -> PicAt H' p w.toNat (z2L Ss hg gap z.cps.toList x w.toNat z.length) -> Q (.ref p) H') /\
  ∀ c i d H', firstBad Ss z.cps.toList 0 = some (c, i) -> Same H H' -> H' d = some (.ext (z3W d [("at", .int (i : Nat)), ("sign", .str (one c))])) -> E (.ref cS) (some d) H'
def z5G : Sp := fun vs H Q _ => ∃ (z : Str) (d : Addr) (hg : Nat) (gap : Int) (Ss : List Sg), vs = [.str z, .ref d, .int hg, .int gap] /\ TableAt hg H d Ss /\ FontOk hg Ss /\ 1 <= hg /\ hg <= 64 /\ 0 <= gap /\ gap <= 8 /\ z.length <= 200 /\ TextOf Ss z /\
  ∀ l ps H', Same H H' -> H l = none -> RowsAt H' l ps (z1I Ss hg gap z.cps.toList z.length) -> Q (.ref l) H'
end L2
namespace L2
open PySem PySem.Spec PyProof.Rows G
def z19 (Ss : List Sg) (zs : List Str) : Option (Nat × Nat) := zs.findSome? fun z => firstBad Ss z.cps.toList 0
theorem z2F {Ss : List Sg} {zs : List Str} (h : z19 Ss zs = none) : ∀ z ∈ zs, firstBad Ss z.cps.toList 0 = none := List.findSome?_eq_none_iff.mp h
theorem z2w {Ss : List Sg} {zs : List Str} {i : Nat} {z : Str} {p : Nat × Nat} (h : ∀ y ∈ zs.take i, firstBad Ss y.cps.toList 0 = none) (e : zs[i]? = some z) (hz : firstBad Ss z.cps.toList 0 = some p) : z19 Ss zs = some p := by
  obtain ⟨hi, rfl⟩ := List.getElem?_eq_some_iff.mp e
  have e2 : zs = zs.take i ++ zs[i] :: zs.drop (i + 1) := by
    rw [<- List.drop_eq_getElem_cons hi, List.take_append_drop]
  unfold z19
  rw [e2, List.findSome?_append, List.findSome?_eq_none_iff.mpr h, Option.none_or, List.findSome?_cons, hz]
theorem z4T {Ss : List Sg} {cs : List Nat} {i : Nat} (hb : firstBad Ss cs i = none) : ∀ c ∈ cs, known Ss c = true := fun c hc => by
  cases e : known Ss c with
  | true => rfl
  | false =>
    obtain ⟨c', j, e'⟩ := z1l (i := i) ⟨c, hc, e⟩
    rw [hb] at e'
    cases e'
theorem z9J {w h : Nat} {f : Nat -> Nat -> Option Int} (x y : Int) : look w h (z1M w h f) x y = if 0 <= x /\ x < w /\ 0 <= y /\ y < h then f x.toNat y.toNat else none := by
  unfold look
  split
  . rename_i c
    obtain ⟨a, b, c, d⟩ := c
    have e : (z1M w h f).getD y.toNat [] = (List.range w).map fun x => f x y.toNat := by rw [List.getD_eq_getElem?_getD, z6b (by omega)]; rfl
    rw [e, List.getD_eq_getElem?_getD, List.getElem?_map, List.getElem?_range (by omega)]
    rfl
  . rfl
def z3i (Ss : List Sg) (hg : Nat) (gap lead : Int) (zs : List Str) : Nat -> Int -> Int -> Option Int
  | 0, _, _ => none
  | k + 1, x, y => (match zs[k]? with
    | some z => if 0 <= y - (k : Int) * (hg + lead) /\ y - (k : Int) * (hg + lead) < hg then cellK Ss hg gap z.cps.toList z.length x (y - (k : Int) * (hg + lead)).toNat else none
    | none => none).or (z3i Ss hg gap lead zs k x y)
theorem z2A {Ss : List Sg} {hg : Nat} {gap lead : Int} {zs : List Str} {k : Nat} {z : Str} (h : zs[k]? = some z) (x y : Int) :
    z3i Ss hg gap lead zs (k + 1) x y = (if 0 <= y - (k : Int) * (hg + lead) /\ y - (k : Int) * (hg + lead) < hg then cellK Ss hg gap z.cps.toList z.length x (y - (k : Int) * (hg + lead)).toNat else none).or (z3i Ss hg gap lead zs k x y) := by
  show (match zs[k]? with
    | some z => if 0 <= y - (k : Int) * (hg + lead) /\ y - (k : Int) * (hg + lead) < hg then cellK Ss hg gap z.cps.toList z.length x (y - (k : Int) * (hg + lead)).toNat else none
    | none => none).or (z3i Ss hg gap lead zs k x y) = _
  rw [h]
theorem zBz {a b : Option Int} (ha : Cell a) (hb : Cell b) : Cell (a.or b) := by
  cases a with
  | none => exact hb
  | some z => exact ha
theorem z41 {hg : Nat} {Ss : List Sg} (O : FontOk hg Ss) (gap lead : Int) {zs : List Str} (hk : ∀ z ∈ zs, ∀ c ∈ z.cps.toList, known Ss c = true) (x y : Int) : ∀ k, Cell (z3i Ss hg gap lead zs k x y)
  | 0 => fun z e => nomatch e
  | k + 1 => by
    have ih := z41 O gap lead hk x y k
    cases hz : zs[k]? with
    | none =>
      show Cell ((match zs[k]? with
        | some z => if 0 <= y - (k : Int) * (hg + lead) /\ y - (k : Int) * (hg + lead) < hg then cellK Ss hg gap z.cps.toList z.length x (y - (k : Int) * (hg + lead)).toNat else none
        | none => none).or (z3i Ss hg gap lead zs k x y))
      rw [hz]
      exact ih
    | some z =>
      rw [z2A hz]
      refine zBz ?_ ih
      split
      . exact z2l O gap (hk z (List.mem_of_getElem? hz)) _ _ _
      . exact fun z e => nomatch e
def z2n (Ss : List Sg) (hg : Nat) (gap lead : Int) (zs : List Str) (x y : Int) (w h k : Nat) : Rws := z1M w h fun i j => z3i Ss hg gap lead zs k (x + (i : Int)) (y + (j : Int))
theorem z5H {hg : Nat} {Ss : List Sg} (O : FontOk hg Ss) (gap lead : Int) {zs : List Str} (hk : ∀ z ∈ zs, ∀ c ∈ z.cps.toList, known Ss c = true) (x y : Int) {w h : Nat} (w1 : 1 <= w) (w2 : w <= 64) (h1 : 1 <= h) (h2 : h <= 64) (k : Nat) : Rect w h (z2n Ss hg gap lead zs x y w h k) :=
  z23 h1 h2 w1 w2 fun _ _ => z41 O gap lead hk _ _ _
theorem z9K (Ss : List Sg) (hg : Nat) (gap lead : Int) (zs : List Str) (x y : Int) (w h : Nat) : z2n Ss hg gap lead zs x y w h 0 = List.replicate h (List.replicate w none) := by
  unfold z2n z1M
  refine List.eq_replicate_iff.mpr ⟨by rw [List.length_map, List.length_range], fun r hr => ?_⟩
  obtain ⟨j, _, rfl⟩ := List.mem_map.mp hr
  refine List.eq_replicate_iff.mpr ⟨by rw [List.length_map, List.length_range], fun c hc => ?_⟩
  obtain ⟨i, _, rfl⟩ := List.mem_map.mp hc
  rfl
theorem zAL {hg : Nat} {Ss : List Sg} (O : FontOk hg Ss) (g1 : 1 <= hg) (g2 : hg <= 64) (gap lead : Int) {zs : List Str} (hk : ∀ z ∈ zs, ∀ c ∈ z.cps.toList, known Ss c = true) (x y : Int) {w h : Nat} (w1 : 1 <= w) (w2 : w <= 64) (h1 : 1 <= h) (h2 : h <= 64) {k : Nat} {z : Str} (hz : zs[k]? = some z) :
    z0Y (z2n Ss hg gap lead zs x y w h k) (cutRows (z2L Ss hg gap z.cps.toList x w z.length) (-0) (-((k : Int) * (hg + lead) - y)) w h) = z2n Ss hg gap lead zs x y w h (k + 1) := by
  have R := z5H O gap lead hk x y w1 w2 h1 h2 k
  have R2 := z2d O g1 g2 gap (hk z (List.mem_of_getElem? hz)) x w1 w2 z.length
  rw [<- z8h R R2]
  unfold z2n z1M
  refine List.map_congr_left fun j hj => ?_
  unfold llR
  refine List.map_congr_left fun i hi => ?_
  have hi' := List.mem_range.mp hi
  have hj' := List.mem_range.mp hj
  show _ = z3i Ss hg gap lead zs (k + 1) (x + (i : Int)) (y + (j : Int))
  rw [z2A hz]
  congr 1
  . unfold z2L
    rw [z9J]
    have e1 : (j : Int) - ((k : Int) * (hg + lead) - y) = y + (j : Int) - (k : Int) * (hg + lead) := by omega
    rw [e1, Int.sub_zero]
    generalize y + (j : Int) - (k : Int) * (hg + lead) = t
    by_cases c : 0 <= t /\ t < hg
    . rw [if_pos ⟨by omega, by omega, c.1, c.2⟩, if_pos c, Int.toNat_natCast]
    . rw [if_neg (fun q => c q.2.2), if_neg c]
  . exact z4x (f := fun i j => z3i Ss hg gap lead zs k (x + (i : Int)) (y + (j : Int))) hi' hj'
theorem z5I {hg : Nat} {Ss : List Sg} {gap lead : Int} {zs : List Str} {x y : Int} {w h k : Nat} {z : Str} (hz : zs[k]? = some z) (c : (k : Int) * (hg + lead) - y <= -(hg : Int) \/ (h : Int) <= (k : Int) * (hg + lead) - y) :
    z2n Ss hg gap lead zs x y w h (k + 1) = z2n Ss hg gap lead zs x y w h k := by
  unfold z2n
  refine z2h fun i j _ hj => ?_
  rw [z2A hz]
  generalize (k : Int) * (hg + lead) = t at c ⊢
  rw [if_neg (by omega)]
  rfl
def z1m (hg : Nat) (lead : Int) (cl : List (List Col)) (x t : Int) : Option Int :=
  if 0 <= t / (hg + lead) /\ t / (hg + lead) < cl.length /\ t % (hg + lead) < hg then z1f (cl.getD (t / (hg + lead)).toNat []) x (t % (hg + lead)).toNat else none
theorem zCg {p t k : Int} (hp : 0 < p) (h0 : 0 <= t - k * p) (h1 : t - k * p < p) : t / p = k /\ t % p = t - k * p := by
  have e := Int.mul_ediv_add_emod t p
  have m0 := Int.emod_nonneg t (show p ≠ 0 by omega)
  have m1 := Int.emod_lt_of_pos t hp
  have hk : t / p = k := by
    refine Int.le_antisymm ?_ ?_
    . refine Int.le_of_lt_add_one (Int.not_le.mp fun hle => ?_)
      have := Int.mul_le_mul_of_nonneg_right hle (Int.le_of_lt hp)
      rw [Int.add_mul] at this
      rw [Int.mul_comm] at e
      omega
    . refine Int.le_of_lt_add_one (Int.not_le.mp fun hle => ?_)
      have := Int.mul_le_mul_of_nonneg_right hle (Int.le_of_lt hp)
      rw [Int.add_mul] at this
      rw [Int.mul_comm] at e
      omega
  refine ⟨hk, ?_⟩
  rw [hk, Int.mul_comm] at e
  omega
theorem z6t {Ss : List Sg} {hg : Nat} {gap lead : Int} (g1 : 1 <= hg) (l0 : 0 <= lead) {zs : List Str} (x t : Int) : ∀ k, k <= zs.length ->
    z3i Ss hg gap lead zs k x t = if 0 <= t / (hg + lead) /\ t / (hg + lead) < k /\ t % (hg + lead) < hg then cellK Ss hg gap (zs.getD (t / (hg + lead)).toNat Str.empty).cps.toList (zs.getD (t / (hg + lead)).toNat Str.empty).length x (t % (hg + lead)).toNat else none
  | 0, _ => by rw [if_neg (by omega)]; rfl
  | k + 1, h => by
    have ih := z6t (Ss := Ss) (gap := gap) g1 l0 (zs := zs) x t k (by omega)
    have hz : zs[k]? = some (zs[k]'(by omega)) := List.getElem?_eq_getElem (by omega)
    have hd : zs.getD k Str.empty = zs[k]'(by omega) := by rw [List.getD_eq_getElem?_getD, hz]; rfl
    have hp : (0 : Int) < hg + lead := by omega
    rw [z2A hz, ih]
    by_cases c : 0 <= t - (k : Int) * (hg + lead) /\ t - (k : Int) * (hg + lead) < hg
    . obtain ⟨e1, e2⟩ := zCg hp c.1 (by omega)
      rw [if_pos c, if_neg (by rw [e1]; omega), if_pos (by rw [e1, e2]; omega), e1, e2, Int.toNat_natCast, hd, Option.or_none]
    . rw [if_neg c]
      show (if _ then _ else _) = _
      by_cases e : t / (hg + lead) = k
      . have q := Int.mul_ediv_add_emod t (hg + lead)
        rw [e, Int.mul_comm] at q
        have m0 := Int.emod_nonneg t (show (hg : Int) + lead ≠ 0 by omega)
        rw [if_neg (by rw [e]; omega), if_neg (by rw [e]; omega)]
      . by_cases d : 0 <= t / (hg + lead) /\ t / (hg + lead) < k /\ t % (hg + lead) < hg
        . rw [if_pos d, if_pos (by omega)]
        . rw [if_neg d, if_neg (by omega)]
theorem z42 {hg : Nat} {cl : List (List Col)} (h : ∀ c ∈ cl, z40 hg c) (lead x t : Int) : Cell (z1m hg lead cl x t) := by
  unfold z1m
  split
  . rename_i c
    have hn : (t / (hg + lead)).toNat < cl.length := by omega
    rw [List.getD_eq_getElem?_getD, List.getElem?_eq_getElem hn]
    exact z7U (h _ (List.getElem_mem hn)) _ _
  . exact fun z e => nomatch e
def zCh (hg : Nat) (lead : Int) (cl : List (List Col)) (x y : Int) (w h : Nat) : Rws := z1M w h fun i j => z1m hg lead cl (x + (i : Int)) (y + (j : Int))
theorem zAM {hg : Nat} {Ss : List Sg} (O : FontOk hg Ss) (g1 : 1 <= hg) {gap lead : Int} (g0 : 0 <= gap) (l0 : 0 <= lead) {zs : List Str} (hk : ∀ z ∈ zs, ∀ c ∈ z.cps.toList, known Ss c = true) (x y : Int) (w h : Nat) :
    z2n Ss hg gap lead zs x y w h zs.length = zCh hg lead (zs.map fun z => z1I Ss hg gap z.cps.toList z.length) x y w h := by
  unfold z2n zCh
  refine z2h fun i j _ _ => ?_
  rw [z6t g1 l0 _ _ _ (Nat.le_refl _)]
  unfold z1m
  rw [List.length_map]
  generalize y + (j : Int) = t
  by_cases c : 0 <= t / (hg + lead) /\ t / (hg + lead) < zs.length /\ t % (hg + lead) < hg
  . rw [if_pos c, if_pos c]
    have hn : (t / (hg + lead)).toNat < zs.length := by omega
    have m0 := Int.emod_nonneg t (show (hg : Int) + lead ≠ 0 by omega)
    have e1 : zs.getD (t / (hg + lead)).toNat Str.empty = zs[(t / (hg + lead)).toNat]'hn := by rw [List.getD_eq_getElem?_getD, List.getElem?_eq_getElem hn]; rfl
    have e2 : (zs.map fun z => z1I Ss hg gap z.cps.toList z.length).getD (t / (hg + lead)).toNat [] = z1I Ss hg gap (zs[(t / (hg + lead)).toNat]'hn).cps.toList (zs[(t / (hg + lead)).toNat]'hn).length := by
      rw [List.getD_eq_getElem?_getD, List.getElem?_map, List.getElem?_eq_getElem hn]; rfl
    rw [e1, e2]
    have el : (zs[(t / (hg + lead)).toNat]'hn).length = (zs[(t / (hg + lead)).toNat]'hn).cps.toList.length := (Array.length_toList).symm
    rw [el]
    exact ((z5F O g0 (hk _ (List.getElem_mem hn)) _ (Nat.le_refl _)).2 _ _ (by omega)).symm
  . rw [if_neg c, if_neg c]
theorem zC0 {n : Nat} {i : Int} (h0 : 0 <= i) (h1 : i < n) : ixN n i = some i.toNat := by
  unfold ixN
  rw [if_pos h0, if_pos (by omega)]
theorem z5J {c : Nat} : ∀ {l : List Nat}, c ∈ l -> ∃ i : Nat, l[i]? = some c /\ c ∉ l.take i
  | [], h => nomatch h
  | d :: l, h => by
    by_cases e : d = c
    . exact ⟨0, by rw [e]; rfl, fun h => nomatch h⟩
    . have h' : c ∈ l := by
        rcases List.mem_cons.mp h with h | h
        . exact absurd h.symm e
        . exact h
      obtain ⟨i, a, b⟩ := z5J h'
      refine ⟨i + 1, a, fun q => ?_⟩
      rw [List.take_succ_cons] at q
      rcases List.mem_cons.mp q with q | q
      . exact e q.symm
      . exact b q
def z2o (H : Hp) (l : Addr) (zs : List Str) : Prop := H l = some (.lst (zs.map V.str))
def z9L (C cS : Addr) : Sp := fun vs H Q E => ∃ (f l : Addr) (zs : List Str) (Ss : List Sg) (hg : Nat) (gap : Int), vs = [.ref f, .ref l] /\ FA C H f hg Ss gap /\ FontOk hg Ss /\ z2o H l zs /\ (∀ z ∈ zs, z.length <= 1000 /\ zBt z) /\
  (z19 Ss zs = none -> ∀ H', Same H H' -> Q .non H') /\
  ∀ c i d H', z19 Ss zs = some (c, i) -> Same H H' -> H' d = some (.ext (z3W d [("at", .int (i : Nat)), ("sign", .str (one c))])) -> E (.ref cS) (some d) H'
def z9M (C : Addr) : Sp := fun vs H Q _ => ∃ (f : Addr) (lead at_ : Int) (Ss : List Sg) (hg : Nat) (gap : Int), vs = [.ref f, .int lead, .int at_] /\ FA C H f hg Ss gap /\ hg <= 64 /\ 0 <= lead /\ lead <= 100 /\ 0 <= at_ /\ at_ <= 10000 /\ Q (.int (at_ * ((hg : Int) + lead))) H
def z9N (C cS : Addr) : Sp := fun vs H Q E => ∃ (f l : Addr) (zs : List Str) (Ss : List Sg) (hg : Nat) (gap lead x y w h : Int), vs = [.ref f, .ref l, .int lead, .int x, .int y, .int w, .int h] /\ FA C H f hg Ss gap /\ FontOk hg Ss /\ 1 <= hg /\ hg <= 64 /\ z2o H l zs /\ zs.length <= 1000 /\ (∀ z ∈ zs, z.length <= 1000 /\ zBt z) /\ 0 <= lead /\ lead <= 100 /\ 1 <= w /\ w <= 64 /\ 1 <= h /\ h <= 64 /\
  (z19 Ss zs = none -> ∀ p H', Same H H' -> PicAt H' p w.toNat (z2n Ss hg gap lead zs x y w.toNat h.toNat zs.length) -> Q (.ref p) H') /\
  ∀ c i d H', z19 Ss zs = some (c, i) -> Same H H' -> H' d = some (.ext (z3W d [("at", .int (i : Nat)), ("sign", .str (one c))])) -> E (.ref cS) (some d) H'
def z6u (K : PySem.W.Frag) : Sp := fun vs H Q _ => ∃ (a l : Addr) (ns : List Int) (ts : List Addr) (Ss : List Sg) (hg : Nat), vs = [.ref a, .ref l] /\ SqL K H a (ns.map V.int) /\ SgsAt hg H l ts Ss /\ 1 <= Ss.length /\ Ss.length <= 60 /\
  ∀ m zs H', Same H H' -> H m = none -> z2o H' m zs -> zs.length <= 60 -> (∀ z ∈ zs, z.length <= 10 /\ TextOf Ss z) -> Q (.ref m) H'
def z6v (K : PySem.W.Frag) : Sp := fun vs H Q _ => ∃ (a : Addr) (ns : List Int) (k n : Int), vs = [.ref a, .int k, .int n] /\ SqL K H a (ns.map V.int) /\ 0 <= k /\ k < 1000 /\ 0 <= n /\ n <= 100000 /\ ∀ x : Int, -10000000000 <= x -> x <= 10000000000 -> Q (.int x) H
def z6w (K : PySem.W.Frag) : Sp := fun vs H Q _ => ∃ (a : Addr) (ns : List Int), vs = [.ref a] /\ SqL K H a (ns.map V.int) /\ ∀ (w h : Int) t H', 1 <= w -> w <= 64 -> 1 <= h -> h <= 64 -> Same H H' -> H' t = some (.tup [.int w, .int h]) -> Q (.ref t) H'
structure ColsAt (H : Hp) (l : Addr) (hg : Nat) (cl : List (List Col)) : Prop where
  lst : ∃ qs : List Addr, qs.length = cl.length /\ H l = some (.lst (qs.map V.ref)) /\ ∀ (i : Nat) q c, qs[i]? = some q -> cl[i]? = some c -> ∃ ps, RowsAt H q ps c
  ok : ∀ c ∈ cl, z40 hg c /\ c.length <= 20000
theorem ColsAt.mono {H H' : Hp} {l : Addr} {hg : Nat} {cl : List (List Col)} (s : Same H H') (h : ColsAt H l hg cl) : ColsAt H' l hg cl :=
  ⟨let ⟨qs, a, b, c⟩ := h.lst; ⟨qs, a, s _ _ b, fun i q d x y => let ⟨ps, r⟩ := c i q d x y; ⟨ps, r.mono s⟩⟩, h.ok⟩
def zB2 : Sp := fun vs H Q _ => ∃ (l s p d : Addr) (cl : List (List Col)) (hg : Nat) (lead x y w h : Int), vs = [.ref l, .ref s, .ref p, .ref d] /\ ColsAt H l hg cl /\ cl.length <= 1000 /\ H s = some (.tup [.int hg, .int lead]) /\ H p = some (.tup [.int x, .int y]) /\ H d = some (.tup [.int w, .int h]) /\ 1 <= hg /\ hg <= 64 /\ 0 <= lead /\ lead <= 100 /\ 1 <= w /\ w <= 64 /\ 1 <= h /\ h <= 64 /\ -10000000000 <= x /\ x <= 10000000000 /\ -10000000000 <= y /\ y <= 10000000000 /\
  ∀ q H', Same H H' -> PicAt H' q w.toNat (zCh hg lead cl x y w.toNat h.toNat) -> Q (.ref q) H'
def z43 (C : Addr) : Sp := fun vs H Q _ => ∃ (f l p d t : Addr) (zs : List Str) (Ss : List Sg) (hg : Nat) (gap lead x y w h : Int) (c i : Nat), vs = [.ref f, .ref l, .int lead, .ref p, .ref d, .ref t] /\ FA C H f hg Ss gap /\ FontOk hg Ss /\ 1 <= hg /\ hg <= 64 /\ z2o H l zs /\ zs.length <= 1000 /\ (∀ z ∈ zs, z.length <= 1000 /\ zBt z) /\ 0 <= lead /\ lead <= 100 /\ H p = some (.tup [.int x, .int y]) /\ H d = some (.tup [.int w, .int h]) /\ 1 <= w /\ w <= 64 /\ 1 <= h /\ h <= 64 /\
  z19 Ss zs = some (c, i) /\ H t = some (.tup [.str (one c), .int (i : Nat)]) /\ ∀ H', Same H H' -> Q (.bl true) H'
def z5K (K : PySem.W.Frag) (C : Addr) : Sp := fun vs H Q _ => ∃ (a f m l p d : Addr) (ns : List Int) (ts : List Addr) (zs : List Str) (Ss : List Sg) (hg : Nat) (gap lead x y w h : Int), vs = [.ref a, .ref f, .ref m, .ref l, .int lead, .ref p, .ref d] /\ SqL K H a (ns.map V.int) /\ SgsAt hg H m ts Ss /\ FA C H f hg Ss gap /\ FontOk hg Ss /\ 1 <= hg /\ hg <= 64 /\ Ss.length <= 60 /\ z2o H l zs /\ zs.length <= 60 /\ (∀ z ∈ zs, z.length <= 10 /\ TextOf Ss z) /\ 0 <= lead /\ lead <= 100 /\ H p = some (.tup [.int x, .int y]) /\ H d = some (.tup [.int w, .int h]) /\ 1 <= w /\ w <= 64 /\ 1 <= h /\ h <= 64 /\
  (∀ (i : Nat) S, Ss[i]? = some S -> S.c = z2O (z1b ns 0 10039 94 + 37 * i)) /\ ∀ H', Same H H' -> Q (.bl true) H'
end L2
namespace L2
open PySem PySem.Spec PyProof.Rows G
section
variable {prog : Program} {w : World} {A : Around} {R : Result -> Shared -> Prop} {J : Addr} {fp wr : List Addr} {n : Nat} {P : Nat -> Value -> Prop} {St : Nat -> Heap -> Prop}
theorem z3F : (toString "max" ++ toString ".loop" : String) = "max.loop" := by decide
theorem zAN (W : Walks prog w A.in1 J fp wr n P St) (bt : Nat -> Nat -> Bool) (hcmp : CmpOf prog w A.in1 .Gt P bt) (S : Addr) (nS : S ∉ fp) (kw : List (Str × Value)) :
    ∀ (k j b : Nat) (s : Shared) (vb : Value) (c : Nat), n - j = k -> j <= n -> St j s.heap -> b < n -> P b vb ->
    s.heap.get? S = some { cls := .type "list", dict := none, data := .seq #[vb, vb] c, slots := #[] } ->
    (∀ i v h' tk, i < n -> P i v -> (∀ b o, b ∉ wr -> b ≠ S -> s.heap.get? b = some o -> h'.get? b = some o) -> R (.ok (.ret v)) { s with heap := h', toks := tk }) ->
    codeAny (model prog w) A (.builtin "max.loop" ⟨[.ref J, .none, .ref S], kw⟩) R s := by
  have nw : S ∉ wr := fun h => nS (W.sub _ h)
  intro k
  induction k with
  | zero =>
    intro j b s vb c e0 ej hst eb hPb gS hR
    have hin : j = n := by omega
    subst hin
    refine codeAny_builtin F.entry_max_loop ?_
    rw [Around.under_plainId F.plain_max_loop _]
    refine wpAny_bind (wpAny_seqItems gS rfl ?_)
    refine wpAny_bind (wpAny_tryCatch (W.done s _ _ hst fun h' tk kp => ?_))
    have gS' := kp S _ nw gS
    refine wpAny_bind ?_
    refine wpAny_updateSeq gS' rfl (wpAny_bind (wpAny_letGo (wpAny_pure ?_)))
    exact hR b vb _ tk eb hPb fun b o h1 h2 e => (Heap.get?_update_other _ _ (Ne.symm h2)).trans (kp b o h1 e)
  | succ k ih =>
    intro j b s vb c e0 ej hst eb hPb gS hR
    have hlt : j < n := by omega
    refine codeAny_builtin F.entry_max_loop ?_
    rw [Around.under_plainId F.plain_max_loop _]
    refine wpAny_bind (wpAny_seqItems gS rfl ?_)
    refine wpAny_bind (wpAny_tryCatch (W.item j s _ _ hlt hst fun v h' tk hP hst' kp => ?_))
    have gS' := kp S _ nw gS
    show wpAny _ A.in1 (tryCatch (holding [v, v] (richCompare .Gt v vb >>= _)) _ >>= _) _ _ _
    refine wpAny_bind (wpAny_tryCatch (wpAny_holding (wpAny_bind (hcmp j b v vb _ _ _ hP hPb ?_))))
    refine wpAny_bind (wpAny_holding (wpAny_truthy_bool ?_))
    refine wpAny_bind (wpAny_letGo (wpAny_pure ?_))
    cases hb : bt j b with
    | true =>
      simp only [if_true]
      refine wpAny_bind ?_
      refine wpAny_updateSeq gS' rfl (wpAny_bind (wpAny_letGo ?_))
      rw [z3F]
      refine wpAny_pure ⟨plainId_quiet F.plain_max_loop _, ih (j + 1) j _ v _ (by omega) hlt (W.frame _ _ _ hst' fun b hbf o e => ?_) hlt hP (Heap.get?_update_self _ gS' rfl) fun i v' h2 tk2 hi hP' k2 => ?_⟩
      . exact (Heap.get?_update_other _ _ (fun h : S = b => nS (by rw [h]; exact hbf))).trans e
      . exact hR i v' h2 tk2 hi hP' fun b o h3 h4 e => k2 b o h3 h4 ((Heap.get?_update_other _ _ (Ne.symm h4)).trans (kp b o h3 e))
    | false =>
      simp only [Bool.false_eq_true, if_false]
      refine wpAny_bind (wpAny_letGo ?_)
      rw [z3F]
      refine wpAny_pure ⟨plainId_quiet F.plain_max_loop _, ih (j + 1) b _ vb c (by omega) hlt hst' eb hPb gS' fun i v' h2 tk2 hi hP' k2 => ?_⟩
      exact hR i v' h2 tk2 hi hP' fun b o h3 h4 e => k2 b o h3 h4 (kp b o h3 e)
theorem z9O (W : Walks prog w A.in1 J fp wr n P St) (bt : Nat -> Nat -> Bool) (hcmp : CmpOf prog w A.in1 .Gt P bt) (S : Addr) (nS : S ∉ fp) (x : Str) (d : Value) {s : Shared} {c : Nat} (hst : St 0 s.heap)
    (gS : s.heap.get? S = some { cls := .type "list", dict := none, data := .seq #[] c, slots := #[] })
    (h0 : n = 0 -> ∀ h' tk, (∀ b o, b ∉ wr -> s.heap.get? b = some o -> h'.get? b = some o) -> R (.ok (.ret d)) { s with heap := h', toks := tk })
    (hR : ∀ i v h' tk, i < n -> P i v -> (∀ b o, b ∉ wr -> b ≠ S -> s.heap.get? b = some o -> h'.get? b = some o) -> R (.ok (.ret v)) { s with heap := h', toks := tk }) :
    codeAny (model prog w) A (.builtin "max.loop" ⟨[.ref J, .none, .ref S], [(x, d)]⟩) R s := by
  have nw : S ∉ wr := fun h => nS (W.sub _ h)
  refine codeAny_builtin F.entry_max_loop ?_
  rw [Around.under_plainId F.plain_max_loop _]
  refine wpAny_bind (wpAny_seqItems gS rfl ?_)
  by_cases hn : n = 0
  . subst hn
    refine wpAny_bind (wpAny_tryCatch (W.done s _ _ hst fun h' tk kp => ?_))
    exact wpAny_bind (wpAny_rule (wpAny_pure (h0 rfl h' tk kp)))
  . refine wpAny_bind (wpAny_tryCatch (W.item 0 s _ _ (by omega) hst fun v h' tk hP hst' kp => ?_))
    have gS' := kp S _ nw gS
    refine wpAny_bind (wpAny_pure ?_)
    refine wpAny_bind ?_
    refine wpAny_updateSeq gS' rfl ?_
    rw [z3F]
    refine wpAny_pure ⟨plainId_quiet F.plain_max_loop _, zAN W bt hcmp S nS _ _ 1 0 _ v _ rfl (by omega) (W.frame _ _ _ hst' fun b hbf o e => ?_) (by omega) hP (Heap.get?_update_self _ gS' rfl) fun i v' h2 tk2 hi hP' k2 => ?_⟩
    . exact (Heap.get?_update_other _ _ (fun h : S = b => nS (by rw [h]; exact hbf))).trans e
    . exact hR i v' h2 tk2 hi hP' fun b o h3 h4 e => k2 b o h3 h4 ((Heap.get?_update_other _ _ (Ne.symm h4)).trans (kp b o h3 e))
end
section
variable {prog : Program} {w : World} {A : Around} {E : Value -> Shared -> Prop} {s : Shared} {l : Addr} {xs : Array (Int × Tok)}
theorem zAO (a d : Value) : argsOk "max" ⟨[a], [(Str.ofString "default", d)]⟩ := by unfold argsOk; kernel_rfl
theorem zAP {Q : Value -> Shared -> Prop} {d : Value} (hh : A.handled = none) (hl : s.heap.IsList l (intItems xs))
    (h0 : xs.size = 0 -> ∀ h' tk, (∀ b o, s.heap.get? b = some o -> h'.get? b = some o) -> Q d { s with heap := h', toks := tk })
    (h : ∀ (i : Nat) v h' tk, (intItems xs)[i]? = some v -> (∀ b o, s.heap.get? b = some o -> h'.get? b = some o) -> Q v { s with heap := h', toks := tk }) :
    wpAny (model prog w) A (call (.builtin "max") [.ref l] [(Str.ofString "default", d)]) Q E s := by
  refine PyProof.Rows.kmk_tree F.kind_max F.plain_max F.entry_max (zAO _ _) ?_
  refine wpAny_bind (wpAny_of_eq (show Builtin.Builtins.bindParams "max" ["key", "default"] 0 ⟨[], [(Str.ofString "default", d)]⟩ = pure [none, some d] from rfl) ?_)
  refine wpAny_bind (wpAny_pure ?_)
  refine wpAny_bind (iter_intList hl fun s₂ e st hfp hlI => ?_)
  subst e
  refine wpAny_bind (wpAny_newObj_type ?_)
  have hSf : (s.heap.push { cls := .type "list_iterator", data := .fields #[.ref l, .int 0 0] }).objs.size ∉ [s.heap.objs.size, l] := fun hm => Nat.lt_irrefl _ (hfp _ hm)
  rw [z3F]
  have W := Walks.list (prog := prog) (w := w) (A := A.in1) hh s.heap.objs.size l hlI (intItems xs)
  refine wpAny_pure ⟨plainId_quiet F.plain_max_loop _, z9O W _ (CmpOf.ints_gt (numAt xs) (fun _ _ => intItems_at)) _ hSf _ d (W.frame _ _ _ st fun b _ o e => Heap.get?_push_of_some _ e) (Heap.get?_push_size _ rfl) (fun hz h' tk kp => ?_) fun i v h' tk hi hP kp => ?_⟩
  . exact h0 (by simpa [intItems] using hz) h' tk (old_kept fun b o hb e => kp b o hb (Heap.get?_push_of_some _ e))
  . exact h i v h' tk hP (old_kept fun b o hb e => kp b o hb (Nat.ne_of_lt (Heap.lt_size e)) (Heap.get?_push_of_some _ e))
end
section
variable {X : Cx}
def zDX (K : PySem.W.Frag) (t tk : TA) : TE := fun σ H Q => t σ H fun vs H1 => tk σ H1 fun zs H2 => ∃ (a : Addr) (ns : List Int) (d : Int), vs = [.ref a] /\ zs = [.int d] /\ SqL K H2 a (ns.map V.int) /\ ∀ z, (z ∈ ns \/ (ns = [] /\ z = d)) -> Q (.int z) H2
theorem zC1 {x : Str} {p pos kp : Pos} {e e2 : Expr} {t tk : TA} (hc : X.calm = true) (hg : Gl X x) (hm : X.mg x = none) (hv : bootBuiltins x = some (.builtin "max")) (ha : PA X [e] t) (hk : PK X [⟨some (Str.ofString "default"), e2, kp⟩] tk) (hn : x ≠ "__name__" := by decide) (hdb : (x == ("__debug__" : Str)) = false := by decide)
    (he : backTo pos (starEach [e] X.env) = (false, eval e X.env) :: backTo pos (starEach [] X.env) := by rfl) (hpl : (backTo pos (starEach [e] X.env)).any (·.1) = false := by rfl)
    (h1 : (backToKw pos (keywordEach [⟨some (Str.ofString "default"), e2, kp⟩] X.env)).all (·.1.isSome) = true := by rfl) (h2 : (backToKw pos (keywordEach [⟨some (Str.ofString "default"), e2, kp⟩] X.env)).any (·.1.isNone) = false := by rfl)
    (h3 : (backToKw pos (keywordEach [⟨some (Str.ofString "default"), e2, kp⟩] X.env)).filterMap (·.1) = [Str.ofString "default"] := by rfl) : PE X (.Call (.Name x p) [e] [⟨some (Str.ofString "default"), e2, kp⟩] pos) (zDX X.K t tk) := by
  intro pins s σ H Q I h
  refine wpAny_Call_Name_kw (z1w I hg hm hv ?_ hn hdb)
  refine PyProof.Rows.callWith_kw (thn (ha pos pins s σ H _ I h) fun us s1 ⟨vs, H1, I1, r, q⟩ => ?_) he hpl h1 h2
  refine thn (hk pos pins s1 σ H1 _ I1 q) fun ws s2 ⟨zs, H2, I2, rz, q2⟩ => ?_
  obtain ⟨a, ns, d, rfl, rfl, hq, q3⟩ := q2
  obtain ⟨u, rfl, ru⟩ := vals1 r
  cases (show u = Value.ref a from ru)
  obtain ⟨u2, rfl, ru2⟩ := vals1 rz
  obtain ⟨td, rfl⟩ := ru2
  rw [h3]
  obtain ⟨its, rv, pl, _⟩ := I2.list hq
  have hi := z3u rv
  obtain ⟨xs, e⟩ := hi.allInts.items
  have hns : ns = xs.toList.map (·.1) := by
    rw [<- hi.numsOf, <- nums_intItems, <- e]
  have hl : s2.heap.IsList a (intItems xs) := by rw [<- e]; exact pl.isList
  refine zAP (I2.ok.hd hc) hl (fun hz h' tk hk => ?_) fun i v h' tk hv hk => ?_
  . refine ⟨.int _, H2, I2.kept (t' := tk) hk, ⟨td, rfl⟩, q3 _ (.inr ⟨?_, rfl⟩)⟩
    rw [hns]
    have : xs = #[] := Array.eq_empty_of_size_eq_zero hz
    rw [this]
    rfl
  . obtain ⟨t, rfl⟩ := intItems_at hv
    refine ⟨.int _, H2, I2.kept (t' := tk) hk, ⟨t, rfl⟩, q3 _ (.inl ?_)⟩
    have hlt : i < xs.size := by
      have := (Array.getElem?_eq_some_iff.mp hv).1
      simpa [intItems] using this
    rw [hns, numAt_eq]
    exact getD_mem (by rw [List.length_map, Array.length_toList]; omega)
def zEE : R2 := fun x y H Q => ∃ (c : Nat) (z : Str), x = .str (one c) /\ y = .str z /\ Q (.bl (decide (c ∈ z.cps.toList))) H
theorem zCi : OpR X (compareOp .In) zEE := by
  intro pins s σ H x y v u Q I rx ry h
  obtain ⟨c, z, rfl, rfl, q⟩ := h
  obtain ⟨t1, rfl⟩ := rx
  obtain ⟨t2, rfl⟩ := ry
  refine P.in_str ⟨.bl _, H, I, rfl, ?_⟩
  have e := StrLaws.found_one z c
  show Q (.bl (!(Builtin.Str.occurrences z (one c) 0 z.length 1).isEmpty)) H
  unfold one
  rw [e]
  exact q
def zCj : V -> List V -> Hp -> VK -> Prop := fun x vs H Q => ∃ (c : Nat) (z : Str) (i : Nat), x = .str z /\ vs = [.str (one c)] /\ z.cps.toList[i]? = some c /\ c ∉ z.cps.toList.take i /\ Q (.int (i : Int)) H
theorem zAQ : MtR X "str.index" zCj := by
  intro pins s σ H x vs v us Q I rx rv h
  obtain ⟨c, z, i, rfl, rfl, hi, hn, q⟩ := h
  obtain ⟨t, rfl⟩ := rx
  obtain ⟨u, rfl, ru⟩ := vals1 rv
  obtain ⟨t2, rfl⟩ := ru
  have key : ∃ r, Builtin.Str.occurrences z (one c) 0 z.length 1 = i :: r := by
    rcases StrLaws.occ_head z (one c) 1 (Nat.le_refl _) with ⟨_, h2⟩ | ⟨j, r, e, h2, h3⟩
    . exact absurd ((StrLaws.subAt_one z c i).mpr hi) (h2 i)
    . have hj := (StrLaws.subAt_one z c j).mp h2
      have e1 : j = i := by
        rcases Nat.lt_trichotomy j i with l | l | l
        . refine absurd ?_ hn
          exact List.mem_of_getElem? (i := j) (by rw [List.getElem?_take, if_pos l]; exact hj)
        . exact l
        . exact absurd ((StrLaws.subAt_one z c i).mpr hi) (h3 i l)
      exact ⟨r, by rw [e, e1]⟩
  obtain ⟨r, e⟩ := key
  refine call_gives F.slot_str_index (typeIs_str _ _ _) F.entry_str_index (F.args_str_index_2 _ _) (gives_str_index z (one c) t t2 i r e) ?_
  exact ⟨.int _, H, I.tok _, ⟨_, rfl⟩, q⟩
def zEF (K : PySem.W.Frag) : R2 := fun x y H Q => ∃ (a b : Addr) (zs : List Str), x = .ref a /\ y = .ref b /\ SqL K H a (zs.map V.str) /\ SqL K H b (zs.map V.str) /\ Q (.bl false) H
theorem zCk (hu : X.A.units + 1 < cLine) : OpR X (compareOp .NotEq) (zEF X.K) := by
  intro pins s σ H x y v u Q I rx ry h0
  obtain ⟨a, b, zs, rfl, rfl, ha, hb, q⟩ := h0
  cases rx
  cases ry
  obtain ⟨its, r1, p1, _⟩ := I.list ha
  obtain ⟨its2, r2, p2, _⟩ := I.list hb
  obtain ⟨l1, rfl, e1⟩ := z4N r1
  obtain ⟨l2, rfl, e2⟩ := z4N r2
  have hl : l1.length = l2.length := by rw [<- List.length_map (f := (·.1)), e1, <- e2, List.length_map]
  have v1 : ∀ l : List (Str × Tok), strValues l = l.map fun p => Value.str p.1 p.2 := fun _ => rfl
  rw [v1] at p1 p2
  refine (SeqAt.RcNeAt.lists (e := fun _ => true) p1.isList p2.isList (by simpa using hl) (by omega) (fun j j1 j2 => ?_)) X.prog X.w X.xe _ ⟨.bl _, H, I, rfl, ?_⟩
  . have i1 : j < l1.length := by simpa using j1
    have i2 : j < l2.length := by simpa using j2
    have ee : l1[j].1 = l2[j].1 := by
      have h1 : (l1.map (·.1))[j]? = (l2.map (·.1))[j]? := by rw [e1, e2]
      rw [List.getElem?_map, List.getElem?_map, List.getElem?_eq_getElem i1, List.getElem?_eq_getElem i2] at h1
      simpa using h1
    have q1 := SeqAt.EqAt.str_str (A := X.A.in1) (s := s) l1[j].1 l1[j].2 l2[j].1 l2[j].2
    have q2 : (l1[j].1 == l2[j].1) = true := by rw [ee]; exact beq_self_eq_true _
    rw [q2] at q1
    simpa using q1
  . have e : ((List.range (l1.map fun p => Value.str p.1 p.2).toArray.size).all fun _ => true) = true := by simp
    rw [e]
    exact q
theorem z61 {sc : Scope} {cl : List (Str × Addr)} {C : Addr} {N : List Str} {fp : List Addr} {s2 : Shared} {H2 : Hp} {pn : List (Addr × Obj)} (hc : X.calm = true) : z2G (cxC X sc cl C N fp s2 H2 pn) (.type "dict") (fun xs H Q => ∃ (l : Addr) (ts : List Addr) (kvs : List (Key × V)), xs = [.ref l] /\ SqL X.K H l (ts.map V.ref) /\ kvs.length = ts.length /\ (putAll [] kvs).length <= sizeLine /\
    (∀ (i : Nat) t k v, ts[i]? = some t -> kvs[i]? = some (k, v) -> H t = some (.tup [kV k, v])) /\ ∀ p, H p = none -> Q (.ref p) (upd H p (.dK (putAll [] kvs)))) := z3y (X := cxC X sc cl C N fp s2 H2 pn) hc
end
end L2
local macro_rules | `(tactic| walk_at "r1") => `(tactic| first
  | refine ⟨_, rfl, ?_⟩
  | refine ⟨_, _, rfl, rfl, ?_⟩
  | refine ⟨rfl, ?_⟩
  | refine ⟨(by show (0 : Int) < _; first | decide | omega), ?_⟩
  | refine ⟨⟨(by first | decide | omega), (by first | decide | omega)⟩, ?_⟩
  | refine ⟨L2.mulL (by first | decide | omega) (by first | decide | omega), ?_⟩
  | refine ⟨L2.mulR (by first | decide | omega) (by first | decide | omega), ?_⟩
  | refine ⟨L2.powS (by first | decide | omega) (by first | decide | omega) (by first | decide | omega), ?_⟩
  | refine ⟨L2.szV (by simp), ?_⟩)
local macro_rules | `(tactic| walk_at "rs") => `(tactic| repeat walk_at "r1")
namespace K34
open PySem PyProof.Rows L2 G
def z1c (i : Nat) : Stmt := PySem.Challenge.pw_glowboard_k34_views_of_a_page.main.body.getD i (.Pass ⟨0, 0, 0, 0⟩)
abbrev z1U : Stmt := z1c 6
abbrev z1B : Stmt := z1c 7
abbrev z1n : Stmt := z1c 9
abbrev z0r : Stmt := z1c 10
abbrev z0s : Stmt := z1c 11
abbrev z1V : Stmt := z1c 12
abbrev z0g : Stmt := z1c 13
abbrev z1W : Stmt := z1c 14
abbrev z1o : Stmt := z1c 15
abbrev z1p : Stmt := z1c 16
abbrev z0t : Stmt := z1c 18
abbrev z1X : Stmt := z1c 19
abbrev z4U : Stmt := z1c 20
abbrev z0u : Stmt := z1c 21
abbrev z2e : Stmt := z1c 22
abbrev z0h : Stmt := z1c 24
abbrev z2M : Stmt := z1c 25
abbrev z3Y : Stmt := z1c 26
abbrev z1q : Stmt := z1c 28
abbrev z1r : Stmt := z1c 29
abbrev z0T : Stmt := z1c 30
abbrev z1Q : Stmt := inClass (z1c 31) 0
abbrev z0x : Stmt := inClass (z1c 31) 1
abbrev z0i : Stmt := inClass (z1c 31) 2
abbrev z1R : Stmt := inClass (z1c 31) 4
abbrev z1Y : Stmt := z1c 33
abbrev z1C : Stmt := z1c 34
abbrev z1D : Stmt := z1c 35
abbrev z1E : Stmt := z1c 36
abbrev z1J : Stmt := z1c 37
abbrev z1Z : Stmt := z1c 38
abbrev z0y : Stmt := z1c 39
abbrev z1a : Stmt := z1c 40
abbrev z1F : Stmt := z1c 41
abbrev z0z : Stmt := z1c 42
abbrev z0Z : Stmt := z1c 43
abbrev z1K : Stmt := z1c 44
abbrev z0m : Stmt := z1c 45
abbrev z1G : Stmt := z1c 46
abbrev z1s : Stmt := z1c 47
abbrev z1H : Stmt := z1c 48
abbrev z0j : Stmt := z1c 49
abbrev z0v : Stmt := z1c 50
abbrev z31 : Stmt := z1c 51
structure Blt (mg : Str -> Option Value) : Prop where
  f_len : mg "len" = none
  f_range : mg "range" = none
  f_enumerate : mg "enumerate" = none
  f_zip : mg "zip" = none
  f_reversed : mg "reversed" = none
  f_isinstance : mg "isinstance" = none
  f_int : mg "int" = none
  f_bool : mg "bool" = none
  f_str : mg "str" = none
  f_list : mg "list" = none
  f_tuple : mg "tuple" = none
  f_dict : mg "dict" = none
  f_all : mg "all" = none
  f_max : mg "max" = none
  f_ord : mg "ord" = none
structure Co (K : PySem.W.Frag) (mg : Str -> Option Value) (c_Font : Addr) : Prop where
  m_Font : mg "Font" = some (.ref c_Font)
  k_Font : Cls K c_Font
  n_Font_pics : NoAttr K c_Font "pics"
  n_Font_high : NoAttr K c_Font "high"
  n_Font_gap : NoAttr K c_Font "gap"
structure Cl (K : PySem.W.Frag) (mg : Str -> Option Value) (c_GlowError c_NoFont c_NoSign : Addr) : Prop where
  m_GlowError : mg "GlowError" = some (.ref c_GlowError)
  gi : Gi K c_GlowError
  x_GlowError : XE K c_GlowError
  tup : PySem.W.kitOne K (.type "tuple") (.ref c_GlowError) = some false
  ab : ∀ c ∈ ([c_NoFont, c_NoSign] : List Addr), PySem.W.mroIn K c (.ref c_GlowError) = some true
  m_NoFont : mg "NoFont" = some (.ref c_NoFont)
  x_NoFont : XE K c_NoFont
  m_NoSign : mg "NoSign" = some (.ref c_NoSign)
  x_NoSign : XE K c_NoSign
  f_NoSign_sign : PySem.W.findIn K (.ref c_NoSign) "sign" = some none
  f_NoSign_at : PySem.W.findIn K (.ref c_NoSign) "at" = some none
  kt : ∀ i, i < 2 -> Kits K [c_NoFont, c_NoSign] c_GlowError i
section
variable {P : Program} {w : World} {K : PySem.W.Frag} {mg : Str -> Option Value} {base : Heap}
abbrev z2B : Stmt := inClass (z1c 4) 0
theorem z9P : FnScope ["self", "sign", "at"] ["self", "sign", "at"] (z02 z2B) := ⟨rfl, rfl, rfl, by decide +kernel, rfl, by decide +kernel, by decide +kernel⟩
theorem z9Q {c_GlowError c_NoFont c_NoSign : Addr} (Z : Cl K mg c_GlowError c_NoFont c_NoSign) {f : Addr} {fd : FuncData} (D : Fun K "__init__" "NoSign.__init__" z2B f fd) : FnOk P w K mg base CX0 1 f fd ["self", "sign", "at"] (zCr c_NoSign "sign" "at") := by
  refine D.ok z9P (fun vs H Q E h => ?_) (fun cdv A outer s H vs Q E hr h => ?_)
  . obtain ⟨x, z, v, rfl, _⟩ := h
    rfl
  obtain ⟨x, z, v, rfl, hx, hz, hv, q⟩ := h
  refine ⟨_, z04 (z1L (zA2 rfl Z.m_GlowError Z.gi (z00 (pv 0) (z00 (zBf (z39 z8w (z39 (zBd (pv 1)) (z39 z8w (z39 (zCX (pv 2)) zBe))))) z03)))) (z04 (zBb (pv 0) (pv 1) rfl) (z05 (zBc (pv 0) (pv 2) rfl))), ?_⟩
  refine ⟨_, rfl, ⟨by decide, ⟨_, rfl, ⟨z, rfl, hz⟩, rfl⟩, by decide, ⟨_, rfl, hv, rfl⟩, trivial⟩, fun z' => ⟨x, c_NoSign, none, _, rfl, hx, Z.x_NoSign, ?_⟩⟩
  refine ⟨_, rfl, _, rfl, x, c_NoSign, rfl, hx, Z.x_NoSign, Z.f_NoSign_sign, fun d nd hd => ?_⟩
  refine ⟨_, rfl, _, rfl, x, c_NoSign, d, _, rfl, hd, by rw [z07 (Ne.symm hd), upd_same], upd_same, by show 1 <= 900; decide, Z.x_NoSign, Z.f_NoSign_at, ?_⟩
  rw [z5Y]
  exact q d nd hd
end
section
variable {P : Program} {w : World} {K : PySem.W.Frag} {mg : Str -> Option Value} {base : Heap}
theorem z62 : FnScope ["_law_script", "_law_k", "_law_many"] ["_law_script", "_law_k", "_law_many"] (z02 z1C) := ⟨rfl, rfl, rfl, by decide +kernel, rfl, by decide +kernel, by decide +kernel⟩
theorem z63 {f : Addr} {fd : FuncData} (D : Df K mg "_law_great" z1C ["_law_script", "_law_k", "_law_many"] f fd) (B : Blt mg) :
    Ow P w K mg base "_law_great" ["_law_script", "_law_k", "_law_many"] 1 (zAg K) := by
  refine D.ow (D.F.ok z62 (fun vs H Q E h => ?_) (fun cdv A outer s H vs Q E hr h => ?_))
  . obtain ⟨a, ns, k, m, rfl, _⟩ := h
    rfl
  obtain ⟨a, ns, k, m, rfl, hS, k0, k1, hm, q⟩ := h
  refine ⟨_, (z04 (z0b (z0Q z2y (z09 z0B rfl B.f_len boot_len (z00 (pv 0) z03)) z01 (z0R _)) (z05 (z0I z01)) z0M)
    (z05 (z0I (z0H z2t (z0H zBS (z0H z0O (z0H z2t (z0L z17 (pv 0) (z0H z2t (pv 1) (z09 z0B rfl B.f_len boot_len (z00 (pv 0) z03))) (fun _ _ => rfl)) (z0H z6O z01 z01)) (pv 1)) (z0H z6O z01 z01)) (pv 2))))), ?_⟩
  refine ⟨_, rfl, a, _, rfl, .inl hS, ?_⟩
  walk_at "rs"
  refine z2g (fun c => ?_) (fun c => ?_)
  . exact q 0 (by decide) hm
  . have hl : 0 < ns.length := by
      rw [List.length_map] at c
      have : (ns.length : Int) ≠ 0 := fun e => c (by rw [e])
      omega
    obtain ⟨z, hz⟩ := zBQ hl k
    refine ⟨_, rfl, _, rfl, _, rfl, a, _, rfl, .inl hS, _, _, rfl, rfl, (by rw [List.length_map]; show (0 : Int) < (ns.length : Int); omega), a, _, _, _, rfl, rfl, hS, hz, ?_⟩
    walk_at "rs"
    have a1 := Int.emod_nonneg z (show (10 : Int) ^ Int.toNat 30 ≠ 0 by decide)
    have a2 := Int.emod_lt_of_pos z (show (0 : Int) < 10 ^ Int.toNat 30 by decide)
    have a3 : (10 : Int) ^ Int.toNat 30 + 1000000 < 2 ^ 1000 := by decide
    have a4 : ((2 ^ 1000 : Nat) : Int) = 2 ^ 1000 := by decide
    refine ⟨⟨by omega, by decide⟩, ?_⟩
    walk_at "rs"
    exact q _ (Int.emod_nonneg _ (by omega)) (Int.emod_lt_of_pos _ hm)
theorem z64 : FnScope ["_law_found"] ["_law_found"] (z02 z1D) := ⟨rfl, rfl, rfl, by decide +kernel, rfl, by decide +kernel, by decide +kernel⟩
theorem z65 {f : Addr} {fd : FuncData} (D : Df K mg "_law_whole" z1D ["_law_found"] f fd) (B : Blt mg) :
    Ow P w K mg base "_law_whole" ["_law_found"] 1 z3O := by
  refine D.ow (D.F.ok z64 (fun vs H Q E h => ?_) (fun cdv A outer s H vs Q E hr h => ?_))
  . obtain ⟨x, T, rfl, _⟩ := h
    rfl
  obtain ⟨x, T, rfl, hT, q⟩ := h
  refine ⟨_, (z05 (z0I (z2s (z09 z0l rfl B.f_isinstance boot_isinstance (z00 (pv 0) (z00 (z1A (v := .ty "int") rfl B.f_int boot_int rfl) z03))) (z2r (zAV (z09 z0l rfl B.f_isinstance boot_isinstance (z00 (pv 0) (z00 (z1A (v := .ty "bool") rfl B.f_bool boot_bool rfl) z03)))))))), ?_⟩
  refine ⟨x, rfl, x, "int", T, rfl, by decide, hT, _, rfl, ?_⟩
  have e := z3P T (z4C hT)
  cases hi : z79 T "int" with
  | true =>
    rw [hi, if_pos rfl] at e
    refine z33 ⟨x, rfl, x, "bool", T, rfl, by decide, hT, _, rfl, ?_⟩
    rw [e]
    exact q
  | false =>
    rw [hi, if_neg (by decide)] at e
    refine z3m ?_
    rw [e]
    exact q
theorem sc_lawrows : FnScope ["_law_script", "_law_k", "_law_wide", "_law_high", "_law_rows_here", "_law_y"] ["_law_script", "_law_k", "_law_wide", "_law_high"] (z02 z1J) := ⟨rfl, rfl, rfl, by decide +kernel, rfl, by decide +kernel, by decide +kernel⟩
theorem z7V {f : Addr} {fd : FuncData} (D : Df K mg "_law_rows" z1J ["_law_script", "_law_k", "_law_wide", "_law_high"] f fd)
    (O_lawshade : Ow P w K mg base "_law_shade" ["_law_script", "_law_k"] 2 (z8j K)) (B : Blt mg) :
    Ow P w K mg base "_law_rows" ["_law_script", "_law_k", "_law_wide", "_law_high"] 3 (zAh K) := by
  refine D.ow (D.F.ok sc_lawrows (fun vs H Q E h => ?_) (fun cdv A outer s H vs Q E hr h => ?_))
  . obtain ⟨a, ns, k, w, h, rfl, _⟩ := h
    rfl
  obtain ⟨a, ns, k, wd, hg, rfl, hS, k0, k1, w1, w2, h1, h2, q⟩ := h
  refine ⟨_, (z04 (z0G (i := 4) sc_lawrows.nd rfl (Or.inl rfl) (z2C z03))
    (z04 (z16 PassesOwn.never rfl (z0U rfl B.f_range (z00 (pv 3) z03)) (z0J (i := 5) sc_lawrows.nd rfl (Or.inr rfl)) (z05 (z1L (z3K PySem.F.plainAttrs_list PySem.F.slot_list_append PySem.F.type_list_append z18 (pv 4) (z00 (z1e (locs := ["_law_x"]) (ix := [0, 1, 5]) rfl (BlkSc.look (dsc := z02 z1J) (N := ["_law_script", "_law_k", "_law_wide", "_law_high", "_law_rows_here", "_law_y"]) rfl rfl (by decide +kernel)) (z0U rfl B.f_range (z00 (pv 2) z03)) (fun _ _ _ _ _ _ => (z0J (i := 0) (by decide +kernel : (["_law_x", "_law_script", "_law_k", "_law_y"] : List Str).Nodup) rfl (Or.inl rfl))) (fun _ _ _ _ _ _ => z0e) (fun _ _ _ _ _ _ => (z0F O_lawshade hr rfl (z00 (pv 1) (z00 (z0H z0O (z0H z0O (pv 2) (z0H z1N z01 (pv 3))) (pv 0)) z03))))) z03)))))
    (z05 (z0I (pv 4))))), ?_⟩
  walk_at "rs"
  intro l nl
  refine ⟨_, rfl, _, rfl, (z2N (by omega) (by omega)).1, (z2N (by omega) (by omega)).2, ?_⟩
  refine z0p (n := hg.toNat) (fun y σ H2 => ∃ ps rows v5, σ = [some (.ref a), some (.int k), some (.int wd), some (.int hg), some (.ref l), v5] /\ RowsB H H2 l ps rows /\ rows.length = y /\ ∀ r ∈ rows, r.length = wd.toNat /\ Cells r)
    ⟨[], [], none, rfl, z5e (Same.refl _) nl, rfl, (fun _ hr => nomatch hr)⟩ ?_ ?_
  . rintro y σ H2 hy ⟨ps, rows, v5, rfl, RB, hlen, hrow⟩
    have hpl := RB.rat.len
    refine ⟨_, rfl, .inl ⟨rfl, _, SqL.of RB.rat.lst⟩, _, rfl, _, rfl, (z2N (by omega) (by omega)).1, (z2N (by omega) (by omega)).2, ?_⟩
    refine z0f (n := wd.toNat) (fun i σ zs H3 => ∃ v r, σ = [v, some (.ref a), some (.int k), some (.int (0 + (y : Int)))] /\ zs = r.map z0S /\ r.length = i /\ Cells r /\ H3 = H2) ⟨none, [], rfl, rfl, rfl, (fun _ h => nomatch h), rfl⟩ (Nat.le_of_lt (z0D (by omega))) ?_ ?_ ?_ ?_ ?_
    . rintro i σ zs H3 ⟨v, r, _, rfl, hr, _⟩
      rw [List.length_map, hr]
    . rintro σ zs H3 _
      show wd.toNat <= wd.toNat
      exact Nat.le_refl _
    . intro i σ zs H3 hi _
      show i < wd.toNat
      exact hi
    . rintro i σ zs H3 x H' Z hi ⟨v, r, rfl, rfl, hr, hc, rfl⟩ ⟨rfl, rfl⟩ hZ
      walk_at "rs"
      refine ⟨a, ns, _, rfl, RB.same.seq hS, by omega, by omega, fun c hcell => ?_⟩
      refine hZ _ _ _ ⟨_, r ++ [c], rfl, by rw [List.map_append]; rfl, by rw [List.length_append, hr]; rfl, fun d hd => ?_, rfl⟩
      rcases List.mem_append.mp hd with e | e
      . exact hc d e
      . rw [List.mem_singleton.mp e]
        exact hcell
    . rintro σ zs H3 ⟨v, r, rfl, rfl, hr, hc, rfl⟩ p np
      have npl : p ≠ l := fun e => by
        have := RB.rat.lst
        rw [<- e, np] at this
        cases this
      have npp : p ∉ ps := fun hp => by
        obtain ⟨i, hi, e⟩ := List.mem_iff_getElem.mp hp
        have := RB.rat.row i p (rows[i]'(by omega)) (by rw [List.getElem?_eq_getElem hi, e]) (List.getElem?_eq_getElem _)
        rw [np] at this
        cases this
      have np0 : H p = none := RB.same.free np
      have RB1 := RB.put (o := .lst (r.map z0S)) np0 npl npp
      refine ⟨l, _, _, rfl, rfl, RB1.rat.lst, by rw [List.length_map]; exact z0D (by omega), ?_⟩
      refine ⟨ps ++ [p], rows ++ [r], _, rfl, RB1.push np0 npl upd_same, by rw [List.length_append, hlen]; rfl, fun r' hr' => ?_⟩
      rcases List.mem_append.mp hr' with e | e
      . exact hrow r' e
      . rw [List.mem_singleton.mp e]
        exact ⟨hr, hc⟩
  . rintro σ H2 ⟨ps, rows, v5, rfl, RB, hlen, hrow⟩
    refine ⟨_, rfl, ?_⟩
    exact q l ps rows H2 RB.same RB.fl (fun p hp => (RB.fp p hp).1) RB.rat ⟨hlen, by omega, by omega, by omega, by omega, hrow⟩
theorem sc_lawbits : FnScope ["_law_rows_here", "_law_paints", "_law_masks", "_law_row", "_law_paint", "_law_mask", "_law_cell"] ["_law_rows_here"] (z02 z1Z) := ⟨rfl, rfl, rfl, by decide +kernel, rfl, by decide +kernel, by decide +kernel⟩
theorem z7W {f : Addr} {fd : FuncData} (D : Df K mg "_law_bits" z1Z ["_law_rows_here"] f fd) (B : Blt mg) :
    Ow P w K mg base "_law_bits" ["_law_rows_here"] 1 z4H := by
  refine D.ow (D.F.ok sc_lawbits (fun vs H Q E h => ?_) (fun cdv A outer s H vs Q E hr h => ?_))
  . obtain ⟨l, ps, rows, w, h, rfl, _⟩ := h
    rfl
  obtain ⟨l, ps, rows, wd, hg, rfl, RA, R, q⟩ := h
  refine ⟨_, (z04 (z0G (i := 1) sc_lawbits.nd rfl (Or.inl rfl) (z2C z03))
    (z04 (z0G (i := 2) sc_lawbits.nd rfl (Or.inl rfl) (z2C z03))
    (z04 (z16 PassesOwn.never rfl (z1h (pv 0)) (z0J (i := 3) sc_lawbits.nd rfl (Or.inl rfl)) (z04 (z0G (i := 4) sc_lawbits.nd rfl (Or.inl rfl) z01)
    (z04 (z0G (i := 5) sc_lawbits.nd rfl (Or.inl rfl) z01)
    (z04 (z16 PassesOwn.never rfl (zCN rfl B.f_reversed (z00 (pv 3) z03)) (z0J (i := 6) sc_lawbits.nd rfl (Or.inl rfl)) (z04 (z0G (i := 4) sc_lawbits.nd rfl (Or.inl rfl) (z0H z1N (pv 4) z01))
    (z04 (z0G (i := 5) sc_lawbits.nd rfl (Or.inl rfl) (z0H z1N (pv 5) z01))
    (z05 (z0b (z0Q z48 (pv 6) z2p (z0R _)) (z04 (z0G (i := 4) sc_lawbits.nd rfl (Or.inl rfl) (z0H z0O (pv 4) (pv 6)))
    (z05 (z0G (i := 5) sc_lawbits.nd rfl (Or.inl rfl) (z0H z0O (pv 5) z01)))) z0M)))))
    (z04 (z1L (z3K PySem.F.plainAttrs_list PySem.F.slot_list_append PySem.F.type_list_append z18 (pv 1) (z00 (pv 4) z03)))
    (z05 (z1L (z3K PySem.F.plainAttrs_list PySem.F.slot_list_append PySem.F.type_list_append z18 (pv 2) (z00 (pv 5) z03)))))))))
    (z05 (z0I (z1S (z00 (z09 z0B rfl B.f_len boot_len (z00 (z0L z17 (pv 0) z01 (fun _ _ => rfl)) z03)) (z00 (z09 z0B rfl B.f_len boot_len (z00 (pv 0) z03)) (z00 (z0q z0k rfl B.f_tuple boot_tuple (z00 (pv 1) z03)) (z00 (z0q z0k rfl B.f_tuple boot_tuple (z00 (pv 2) z03)) z03)))))))))), ?_⟩
  walk_at "rs"
  intro lp np
  walk_at "rs"
  intro lm nm
  have hlen := RA.len
  have hR := R.len
  have hR2 := R.h2
  have hpm : lp ≠ lm := fun e => by
    rw [<- e, upd_same] at nm
    cases nm
  have s1 : Same H (upd (upd H lp (.lst [])) lm (.lst [])) := (Same.new np).trans (Same.new nm)
  have nm0 : H lm = none := (Same.new np).free nm
  have g1 : (upd (upd H lp (.lst [])) lm (.lst [])) lp = some (.lst []) := by rw [z07 hpm, upd_same]
  have g2 : (upd (upd H lp (.lst [])) lm (.lst [])) lm = some (.lst []) := upd_same
  generalize upd (upd H lp (.lst [])) lm (.lst []) = H1 at s1 g1 g2
  refine ⟨_, rfl, l, rfl, ⟨_, SqL.of (s1 _ _ RA.lst)⟩, ?_⟩
  refine z32 (K := K) (a := l) (xs := ps.map V.ref) (fun i σ H2 => ∃ v3 v4 v5 v6, σ = [some (.ref l), some (.ref lp), some (.ref lm), v3, v4, v5, v6] /\ Same H H2 /\ H2 lp = some (.lst (((rows.take i).map z06).map V.int)) /\ H2 lm = some (.lst (((rows.take i).map z0E).map V.int)))
    ⟨none, none, none, none, rfl, s1, g1, g2⟩ (fun i σ H2 _ ⟨_, _, _, _, _, s, _⟩ => SqL.of (s _ _ RA.lst)) ?_ ?_
  . rintro i x σ H2 hi ⟨v3, v4, v5, v6, rfl, s2, gp, gm⟩
    have hil : i < rows.length := by
      have := (List.getElem?_eq_some_iff.mp hi).1
      rw [List.length_map] at this
      omega
    obtain ⟨p, hp, gr⟩ := RA.at hil
    rw [List.getElem?_map, hp] at hi
    cases hi
    obtain ⟨hw, hc⟩ := R.row0 hil
    generalize hrow : rows[i]'hil = r at gr hw hc
    have hw2 := R.w2
    walk_at "rs"
    refine ⟨p, _, rfl, SqL.of (s2 _ _ gr), ?_⟩
    refine zBO (K := K) (a := p) (xs := r.map z0S) (fun j σ H3 => ∃ v6, σ = [some (.ref l), some (.ref lp), some (.ref lm), some (.ref p), some (.int (z06 (r.drop (r.length - j)))), some (.int (z0E (r.drop (r.length - j)))), v6] /\ H3 = H2)
      ⟨v6, by rw [Nat.sub_zero, List.drop_length]; rfl, rfl⟩ (fun j σ H3 _ ⟨_, _, e⟩ => by rw [e]; exact SqL.of (s2 _ _ gr)) ?_ ?_
    . rintro j x σ H3 hj hx ⟨v6, rfl, rfl⟩
      rw [List.length_map] at hj hx
      have hd : r.drop (r.length - (j + 1)) = r[r.length - 1 - j]'(by omega) :: r.drop (r.length - j) := by
        have e1 : r.length - (j + 1) = r.length - 1 - j := by omega
        have e2 : r.length - j = r.length - 1 - j + 1 := by omega
        rw [e1, e2]
        exact List.drop_eq_getElem_cons (by omega)
      rw [List.getElem?_map, List.getElem?_eq_getElem (by omega)] at hx
      have hx' : x = z0S (r[r.length - 1 - j]'(by omega)) := (Option.some.inj hx).symm
      subst hx'
      have hcell := hc _ (List.getElem_mem (show r.length - 1 - j < r.length by omega))
      generalize r[r.length - 1 - j]'(by omega) = c at hd hcell
      cases c with
      | none =>
        walk_at "rs"
        refine zAj (fun n => absurd rfl n) (fun _ => ?_)
        refine ⟨some (z0S none), ?_, rfl⟩
        rw [hd]
        show _ = [_, _, _, _, some (V.int ((none : Option Int).getD 0 + 16 * z06 (r.drop (r.length - j)))), some (V.int ((if (none : Option Int).isSome = true then 1 else 0) + 2 * z0E (r.drop (r.length - j)))), _]
        have e1 : (none : Option Int).getD 0 + 16 * z06 (r.drop (r.length - j)) = z06 (r.drop (r.length - j)) * 16 := by
          show (0 : Int) + _ = _
          omega
        have e2 : (if (none : Option Int).isSome = true then (1 : Int) else 0) + 2 * z0E (r.drop (r.length - j)) = z0E (r.drop (r.length - j)) * 2 := by
          rw [if_neg (by simp)]
          omega
        rw [e1, e2]
        rfl
      | some z =>
        walk_at "rs"
        refine ⟨some (z0S (some z)), ?_, rfl⟩
        rw [hd]
        show _ = [_, _, _, _, some (V.int ((some z : Option Int).getD 0 + 16 * z06 (r.drop (r.length - j)))), some (V.int ((if (some z : Option Int).isSome = true then 1 else 0) + 2 * z0E (r.drop (r.length - j)))), _]
        have e1 : (some z : Option Int).getD 0 + 16 * z06 (r.drop (r.length - j)) = z06 (r.drop (r.length - j)) * 16 + z := by
          show z + _ = _
          omega
        have e2 : (if (some z : Option Int).isSome = true then (1 : Int) else 0) + 2 * z0E (r.drop (r.length - j)) = z0E (r.drop (r.length - j)) * 2 + 1 := by
          rw [if_pos (show (some z).isSome = true from rfl)]
          omega
        rw [e1, e2]
        rfl
    . rintro σ H3 ⟨v6, rfl, rfl⟩
      rw [List.length_map, Nat.sub_self, List.drop_zero]
      have szp : (((rows.take i).map z06).map V.int).length < sizeLine := by
        rw [List.length_map, List.length_map, List.length_take]
        exact z0D (by omega)
      have szm : (((rows.take i).map z0E).map V.int).length < sizeLine := by
        rw [List.length_map, List.length_map, List.length_take]
        exact z0D (by omega)
      refine ⟨_, rfl, .inl ⟨rfl, _, SqL.of gp⟩, _, rfl, lp, _, _, rfl, rfl, gp, szp, ?_⟩
      have gm' : (upd H3 lp (.lst (((rows.take i).map z06).map V.int ++ [.int (z06 r)]))) lm = some (.lst (((rows.take i).map z0E).map V.int)) := by
        rw [z07 (Ne.symm hpm)]
        exact gm
      refine ⟨_, rfl, .inl ⟨rfl, _, SqL.of gm'⟩, _, rfl, lm, _, _, rfl, rfl, gm', szm, ?_⟩
      have tk : rows.take (i + 1) = rows.take i ++ [r] := by
        rw [List.take_succ, List.getElem?_eq_getElem hil, hrow]
        rfl
      refine ⟨_, _, _, _, rfl, (s2.put np).put nm0, ?_, ?_⟩
      . rw [z07 hpm, upd_same, tk, List.map_append, List.map_append]
        rfl
      . rw [upd_same, tk, List.map_append, List.map_append]
        rfl
  . rintro σ H2 ⟨v3, v4, v5, v6, rfl, s2, gp, gm⟩
    rw [List.length_map, hlen, List.take_length] at gp gm
    obtain ⟨p0, e0, g0⟩ := (RA.mono s2).atI R.ne
    refine ⟨_, rfl, l, _, 0, _, rfl, rfl, SqL.of (s2 _ _ RA.lst), e0, p0, _, rfl, .inl (SqL.of g0), _, rfl, l, _, rfl, .inl (SqL.of (s2 _ _ RA.lst)), _, rfl, lp, _, rfl, .inl ⟨SqL.of gp, fun t1 n1 => ?_⟩⟩
    refine ⟨_, rfl, lm, _, rfl, .inl ⟨SqL.of ((Same.new n1) _ _ gm), fun t2 n2 => ?_⟩⟩
    refine ⟨szV (by simp), fun t3 n3 => ?_⟩
    refine q t3 _ (((s2.trans (Same.new n1)).trans (Same.new n2)).trans (Same.new n3)) ⟨t1, t2, ?_, ?_, ?_⟩
    . rw [upd_same, List.length_map, List.length_map, hlen, (R.row0 R.ne).1]
    . exact (Same.new n3) _ _ ((Same.new n2) _ _ upd_same)
    . exact (Same.new n3) _ _ upd_same
theorem z66 : FnScope ["_law_found", "_law_due_here"] ["_law_found", "_law_due_here"] (z02 z0y) := ⟨rfl, rfl, rfl, by decide +kernel, rfl, by decide +kernel, by decide +kernel⟩
theorem z67 {f : Addr} {fd : FuncData} (D : Df K mg "_law_is_pic" z0y ["_law_found", "_law_due_here"] f fd)
    (O_lawwhole : Ow P w K mg base "_law_whole" ["_law_found"] 1 z3O) (B : Blt mg) :
    Ow P w K mg base "_law_is_pic" ["_law_found", "_law_due_here"] 2 z8k := by
  refine D.ow (D.F.ok z66 (fun vs H Q E h => ?_) (fun cdv A outer s H vs Q E hr h => ?_))
  . obtain ⟨p, d, w, h, rows, rfl, _⟩ := h
    rfl
  obtain ⟨p, d, wd, hg, rows, rfl, PC, PD, R, q⟩ := h
  refine ⟨_, (z04 (z0b (PW.pt (z2x (z0w (z0o (z09 z0l rfl B.f_isinstance boot_isinstance (z00 (pv 0) (z00 (z1A (v := .ty "tuple") rfl B.f_tuple boot_tuple rfl) z03))))) (z1t (z0Q z5Z (z09 z0B rfl B.f_len boot_len (z00 (pv 0) z03)) z01 (z0R _))))) (z05 (z0I z2Q)) z0M)
    (z04 (z0b (PW.pt (z2x (z0w (z0o (z09 z0l rfl B.f_isinstance boot_isinstance (z00 (z0L z0K (pv 0) z01 (fun _ _ => rfl)) (z00 (z1A (v := .ty "tuple") rfl B.f_tuple boot_tuple rfl) z03))))) (z1t (z0w (z0o (z09 z0l rfl B.f_isinstance boot_isinstance (z00 (z0L z0K (pv 0) z01 (fun _ _ => rfl)) (z00 (z1A (v := .ty "tuple") rfl B.f_tuple boot_tuple rfl) z03)))))))) (z05 (z0I z2Q)) z0M)
    (z04 (z0b (z0w (z0o (z09 (z34 rfl) rfl B.f_all boot_all (z00 (z1e (locs := ["_law_number"]) (ix := []) rfl (BlkSc.look (dsc := z02 z0y) (N := ["_law_found", "_law_due_here"]) rfl rfl (by decide +kernel)) (zCD (z0H z8S (z0H z8S (z1S (z00 (z0L z0K (pv 0) z01 (fun _ _ => rfl)) (z00 (z0L z0K (pv 0) z01 (fun _ _ => rfl)) z03))) (z0L z0K (pv 0) z01 (fun _ _ => rfl))) (z0L z0K (pv 0) z01 (fun _ _ => rfl)))) (fun _ _ _ _ _ _ => (z0J (i := 0) (by decide +kernel : (["_law_number"] : List Str).Nodup) rfl (Or.inl rfl))) (fun _ _ _ _ _ _ => z0e) (fun _ _ _ _ _ _ => (z0F O_lawwhole hr rfl (z00 (pv 0) z03)))) z03)))) (z05 (z0I z2Q)) z0M)
    (z05 (z0I (z1i (zCQ (z78 hr)) (pv 0) (pv 1) (z0R _))))))), ?_⟩
  obtain ⟨pp, pm, g1, g2, g3⟩ := id PC
  obtain ⟨qp, qm, d1, d2, d3⟩ := id PD
  have hR := R.len
  have hR2 := R.h2
  refine ⟨_, rfl, _, "tuple", "tuple", rfl, by decide, by simp only [tyS, g1], _, rfl, z1d rfl ?_⟩
  refine ⟨_, rfl, p, _, rfl, .inr (SqT.of g1), rfl, _, rfl, z1d rfl ?_⟩
  refine ⟨_, rfl, p, _, 2, _, rfl, rfl, SqT.of g1, rfl, _, "tuple", "tuple", rfl, by decide, by simp only [tyS, g2], _, rfl, z1d rfl ?_⟩
  refine ⟨_, rfl, p, _, 3, _, rfl, rfl, SqT.of g1, rfl, _, "tuple", "tuple", rfl, by decide, by simp only [tyS, g3], _, rfl, z1d rfl ?_⟩
  have hp1 : (rows.map z06).map V.int ≠ [] := fun e => by
    have h0 := R.ne
    rw [List.map_eq_nil_iff, List.map_eq_nil_iff] at e
    rw [e] at h0
    exact absurd h0 (Nat.lt_irrefl _)
  have hm1 : (rows.map z0E).map V.int ≠ [] := fun e => by
    have h0 := R.ne
    rw [List.map_eq_nil_iff, List.map_eq_nil_iff] at e
    rw [e] at h0
    exact absurd h0 (Nat.lt_irrefl _)
  refine ⟨_, rfl, p, _, 0, _, rfl, rfl, SqT.of g1, rfl, _, rfl, p, _, 1, _, rfl, rfl, SqT.of g1, rfl, szV (by simp), fun t1 n1 => ?_⟩
  have s1 : Same H (upd H t1 (.tup [.int (wd : Int), .int (rows.length : Int)])) := Same.new n1
  have k1 : (upd H t1 (.tup [.int (wd : Int), .int (rows.length : Int)])) t1 = some (.tup [.int (wd : Int), .int (rows.length : Int)]) := upd_same
  generalize upd H t1 (.tup [.int (wd : Int), .int (rows.length : Int)]) = H1 at s1 k1 ⊢
  refine ⟨_, rfl, p, _, 2, _, rfl, rfl, SqT.of (s1 _ _ g1), rfl, ?_⟩
  refine ⟨t1, pp, _, _, rfl, rfl, SqT.of k1, SqT.of (s1 _ _ g2), (by rw [List.length_map, List.length_map]; exact Nat.le_of_lt (z0D (by simp; omega))), (fun e => nomatch e), (fun _ e => absurd e hp1), fun _ _ t2 n2 => ?_⟩
  have s2 : Same H1 (upd H1 t2 (.tup ([.int (wd : Int), .int (rows.length : Int)] ++ (rows.map z06).map V.int))) := Same.new n2
  have k2 : (upd H1 t2 (.tup ([.int (wd : Int), .int (rows.length : Int)] ++ (rows.map z06).map V.int))) t2 = some (.tup ([.int (wd : Int), .int (rows.length : Int)] ++ (rows.map z06).map V.int)) := upd_same
  generalize upd H1 t2 (.tup ([.int (wd : Int), .int (rows.length : Int)] ++ (rows.map z06).map V.int)) = H2 at s2 k2 ⊢
  have u2 := s1.trans s2
  refine ⟨_, rfl, p, _, 3, _, rfl, rfl, SqT.of (u2 _ _ g1), rfl, ?_⟩
  refine ⟨t2, pm, _, _, rfl, rfl, SqT.of k2, SqT.of (u2 _ _ g3), (by rw [List.length_append, List.length_map, List.length_map, List.length_map, List.length_map]; exact Nat.le_of_lt (z0D (by simp; omega))), (fun e => nomatch e), (fun _ e => absurd e hm1), fun _ _ t3 n3 => ?_⟩
  have eall : [V.int (wd : Int), .int (rows.length : Int)] ++ (rows.map z06).map V.int ++ (rows.map z0E).map V.int = (([(wd : Int), (rows.length : Int)] ++ rows.map z06) ++ rows.map z0E).map V.int := by
    rw [List.map_append, List.map_append]
    rfl
  rw [eall]
  have hns : (([(wd : Int), (rows.length : Int)] ++ rows.map z06) ++ rows.map z0E).length <= 200 := by
    rw [List.length_append, List.length_append, List.length_map, List.length_map]
    simp
    omega
  generalize ([(wd : Int), (rows.length : Int)] ++ rows.map z06) ++ rows.map z0E = ms at hns
  have s3 : Same H2 (upd H2 t3 (.tup (ms.map V.int))) := Same.new n3
  have k3 : (upd H2 t3 (.tup (ms.map V.int))) t3 = some (.tup (ms.map V.int)) := upd_same
  generalize upd H2 t3 (.tup (ms.map V.int)) = H3 at s3 k3 ⊢
  have u3 := u2.trans s3
  refine ⟨t3, rfl, ⟨_, SqT.of k3⟩, ?_⟩
  refine z0f (n := ms.length) (fun i σ zs H4 => ∃ v, σ = [v] /\ zs = (List.replicate i true).map V.bl /\ H4 = H3) ⟨none, rfl, rfl, rfl⟩ (Nat.le_of_lt (z0D (by omega))) ?_ ?_ ?_ ?_ ?_
  . rintro i σ zs H4 ⟨v, _, rfl, _⟩
    rw [List.length_map, List.length_replicate]
  . rintro σ zs H4 ⟨v, _, _, rfl⟩
    exact ⟨_, SqT.of k3, by rw [List.length_map]; exact Nat.le_refl _⟩
  . rintro i σ zs H4 hi ⟨v, _, _, rfl⟩
    exact ⟨_, .int (ms[i]'hi), SqT.of k3, by rw [List.getElem?_map, List.getElem?_eq_getElem hi]; rfl⟩
  . rintro i σ zs H4 x H' Z hi ⟨v, rfl, rfl, rfl⟩ ⟨rfl, hx⟩ hZ
    have e := hx _ (SqT.of k3)
    rw [List.getElem?_map, List.getElem?_eq_getElem hi] at e
    cases e
    refine ⟨_, rfl, _, "int", rfl, rfl, ?_⟩
    refine hZ _ _ _ ⟨_, rfl, ?_, rfl⟩
    rw [List.replicate_succ', List.map_append]
    rfl
  . rintro σ zs H4 ⟨v, rfl, rfl, rfl⟩ l' hl'
    refine ⟨l', List.replicate ms.length true, rfl, SqL.of upd_same, _, rfl, z1d (by simp) ?_⟩
    have u4 := u3.trans (Same.new (o := .lst ((List.replicate ms.length true).map V.bl)) hl')
    generalize upd H4 l' (.lst ((List.replicate ms.length true).map V.bl)) = H5 at u4 ⊢
    refine ⟨_, rfl, _, rfl, p, d, pp, pm, qp, qm, _, _, _, _, _, _, _, _, rfl, rfl, SqT.of (u4 _ _ g1), SqT.of (u4 _ _ d1), SqT.of (u4 _ _ g2), SqT.of (u4 _ _ g3), SqT.of (u4 _ _ d2), SqT.of (u4 _ _ d3), ?_⟩
    simp only [beq_self_eq_true, decide_true, Bool.and_self]
    exact q _ u4
theorem z7X : FnScope ["thing"] ["thing"] (z02 z1U) := ⟨rfl, rfl, rfl, by decide +kernel, rfl, by decide +kernel, by decide +kernel⟩
theorem z7Y {f : Addr} {fd : FuncData} (D : Df K mg "is_whole" z1U ["thing"] f fd) (B : Blt mg) :
    Ow P w K mg base "is_whole" ["thing"] 1 z3O := by
  refine D.ow (D.F.ok z7X (fun vs H Q E h => ?_) (fun cdv A outer s H vs Q E hr h => ?_))
  . obtain ⟨x, T, rfl, _⟩ := h
    rfl
  obtain ⟨x, T, rfl, hT, q⟩ := h
  refine ⟨_, (z05 (z0I (z2s (z09 z0l rfl B.f_isinstance boot_isinstance (z00 (pv 0) (z00 (z1A (v := .ty "int") rfl B.f_int boot_int rfl) z03))) (z2r (zAV (z09 z0l rfl B.f_isinstance boot_isinstance (z00 (pv 0) (z00 (z1A (v := .ty "bool") rfl B.f_bool boot_bool rfl) z03)))))))), ?_⟩
  refine ⟨x, rfl, x, "int", T, rfl, by decide, hT, _, rfl, ?_⟩
  have e := z3P T (z4C hT)
  cases hi : z79 T "int" with
  | true =>
    rw [hi, if_pos rfl] at e
    refine z33 ⟨x, rfl, x, "bool", T, rfl, by decide, hT, _, rfl, ?_⟩
    rw [e]
    exact q
  | false =>
    rw [hi, if_neg (by decide)] at e
    refine z3m ?_
    rw [e]
    exact q
theorem z68 : FnScope ["thing", "least", "most"] ["thing", "least", "most"] (z02 z1B) := ⟨rfl, rfl, rfl, by decide +kernel, rfl, by decide +kernel, by decide +kernel⟩
theorem z69 {f : Addr} {fd : FuncData} (D : Df K mg "is_within" z1B ["thing", "least", "most"] f fd)
    (O_iswhole : Ow P w K mg base "is_whole" ["thing"] 1 z3O) (B : Blt mg) :
    Ow P w K mg base "is_within" ["thing", "least", "most"] 2 z35 := by
  refine D.ow (D.F.ok z68 (fun vs H Q E h => ?_) (fun cdv A outer s H vs Q E hr h => ?_))
  . obtain ⟨x, a, b, T, rfl, _⟩ := h
    rfl
  obtain ⟨x, a, b, T, rfl, hT, q⟩ := h
  refine ⟨_, (z05 (z0I (z2s (z0F O_iswhole hr rfl (z00 (pv 0) z03)) (z2r (z6R z4e z4e (pv 1) (pv 0) (pv 2)))))), ?_⟩
  refine ⟨_, rfl, x, T, rfl, hT, _, rfl, ?_⟩
  by_cases hi : ∃ i, x = .int i
  . obtain ⟨i, rfl⟩ := hi
    cases hT
    refine z8E rfl ?_
    walk_at "rs"
    refine z2g (fun c1 => ?_) (fun c1 => ?_)
    . walk_at "rs"
      have e : inB (.int i) a b = decide (i <= b) := by
        show (decide (a <= i) && decide (i <= b)) = _
        rw [decide_eq_true c1, Bool.true_and]
      rw [e] at q
      exact q
    . have e : inB (.int i) a b = false := by
        show (decide (a <= i) && decide (i <= b)) = _
        rw [decide_eq_false c1, Bool.false_and]
      rw [e] at q
      exact q
  . have e : inB x a b = false := by
      cases x <;> first | rfl | exact absurd ⟨_, rfl⟩ hi
    rw [e] at q
    refine z1d ?_ q
    exact z5f hT hi
theorem z9R : FnScope ["thing"] ["thing"] (z02 z1n) := ⟨rfl, rfl, rfl, by decide +kernel, rfl, by decide +kernel, by decide +kernel⟩
theorem z9S {f : Addr} {fd : FuncData} (D : Df K mg "is_side" z1n ["thing"] f fd)
    (O_iswithin : Ow P w K mg base "is_within" ["thing", "least", "most"] 2 z35) (B : Blt mg) :
    Ow P w K mg base "is_side" ["thing"] 3 zAk := by
  refine D.ow (D.F.ok z9R (fun vs H Q E h => ?_) (fun cdv A outer s H vs Q E hr h => ?_))
  . obtain ⟨x, T, rfl, _⟩ := h
    rfl
  obtain ⟨x, T, rfl, hT, q⟩ := h
  refine ⟨_, (z05 (z0I (z0F O_iswithin hr rfl (z00 (pv 0) (z00 z01 (z00 z01 z03)))))), ?_⟩
  exact ⟨_, rfl, x, _, _, T, rfl, hT, q⟩
theorem sc_paintof : FnScope ["row", "paint", "x", "cell"] ["row"] (z02 z1W) := ⟨rfl, rfl, rfl, by decide +kernel, rfl, by decide +kernel, by decide +kernel⟩
theorem z7Z {f : Addr} {fd : FuncData} (D : Df K mg "paint_of" z1W ["row"] f fd) (B : Blt mg) :
    Ow P w K mg base "paint_of" ["row"] 1 z8Q := by
  refine D.ow (D.F.ok sc_paintof (fun vs H Q E h => ?_) (fun cdv A outer s H vs Q E hr h => ?_))
  . obtain ⟨l, r, rfl, _⟩ := h
    rfl
  obtain ⟨l, r, rfl, hl, hc, hn, q⟩ := h
  refine ⟨_, (z04 (z0G (i := 1) sc_paintof.nd rfl (Or.inl rfl) z01)
    (z04 (z16 PassesOwn.never rfl (z5c rfl B.f_enumerate (z00 (pv 0) z03)) (z4c (n := 2) rfl (z0W (z0J (i := 2) sc_paintof.nd rfl (Or.inl rfl)) (z0W (z0J (i := 3) sc_paintof.nd rfl (Or.inl rfl)) z1x))) (z05 (z0b (z0Q z48 (pv 3) z2p (z0R _)) (z05 (z0G (i := 1) sc_paintof.nd rfl (Or.inl rfl) (z0H z7s (pv 1) (z0H z6P (pv 3) (z0H z1N z01 (pv 2)))))) z0M)))
    (z05 (z0I (pv 1))))), ?_⟩
  refine ⟨_, rfl, l, rfl, ⟨_, SqL.of hl⟩, ?_⟩
  refine z4D (K := K) (a := l) (xs := r.map z0S) (fun i σ H2 => ∃ v w, σ = [some (.ref l), some (.int (z06 (r.take i))), v, w] /\ Same H H2) ⟨none, none, rfl, Same.refl _⟩ (fun i σ H2 _ ⟨_, _, _, s⟩ => SqL.of (s _ _ hl)) ?_ ?_
  . rintro i x σ H2 T hi ⟨v, w, rfl, s2⟩ nT
    have hil : i < r.length := by
      have := (List.getElem?_eq_some_iff.mp hi).1
      rwa [List.length_map] at this
    rw [List.getElem?_map, List.getElem?_eq_getElem hil] at hi
    have hx : x = z0S (r[i]'hil) := (Option.some.inj hi).symm
    subst hx
    have tk : r.take (i + 1) = r.take i ++ [r[i]'hil] := by
      rw [List.take_succ, List.getElem?_eq_getElem hil]
      rfl
    have hcell := hc _ (List.getElem_mem hil)
    have hpre : Cells (r.take i) := fun d hd => hc d (List.mem_of_mem_take hd)
    have hb := z27 hpre
    have hln : (r.take i).length = i := by rw [List.length_take]; omega
    have sn := z3o (r[i]'hil) (r.take i)
    rw [<- tk, hln] at sn
    rw [hln] at hb
    generalize r[i]'hil = c at hcell sn
    have s3 : Same H2 (upd H2 T (.tup [.int i, z0S c])) := Same.new nT
    refine ⟨T, _, rfl, SqT.of upd_same, rfl, _, _, rfl, _, _, rfl, rfl, ?_⟩
    cases c with
    | none =>
      walk_at "rs"
      refine zAj (fun n => absurd rfl n) (fun _ => ?_)
      refine ⟨some (.int i), some (z0S none), ?_, s2.trans s3⟩
      have e : z06 (r.take (i + 1)) = z06 (r.take i) := by
        rw [sn]
        show _ + 0 * _ = _
        omega
      rw [e]
      rfl
    | some z =>
      obtain ⟨z0, z1⟩ := hcell z rfl
      walk_at "rs"
      refine ⟨some (.int i), some (z0S (some z)), ?_, s2.trans s3⟩
      have e : z06 (r.take (i + 1)) = Builtin.bitOr (z06 (r.take i)) (z * 2 ^ ((4 : Int) * (i : Int)).toNat) := by
        have e4 : ((4 : Int) * (i : Int)).toNat = 4 * i := by omega
        rw [e4, z5d hb.1 (by rw [zAf]; exact hb.2) z0, sn, zAf]
        rfl
      rw [e]
      rfl
  . rintro σ H2 ⟨v, w, rfl, s2⟩
    refine ⟨_, rfl, ?_⟩
    rw [List.length_map, List.take_length]
    exact q _ s2
theorem sc_maskof : FnScope ["row", "mask", "x", "cell"] ["row"] (z02 z1o) := ⟨rfl, rfl, rfl, by decide +kernel, rfl, by decide +kernel, by decide +kernel⟩
theorem z9T {f : Addr} {fd : FuncData} (D : Df K mg "mask_of" z1o ["row"] f fd) (B : Blt mg) :
    Ow P w K mg base "mask_of" ["row"] 1 zAi := by
  refine D.ow (D.F.ok sc_maskof (fun vs H Q E h => ?_) (fun cdv A outer s H vs Q E hr h => ?_))
  . obtain ⟨l, r, rfl, _⟩ := h
    rfl
  obtain ⟨l, r, rfl, hl, hc, hn, q⟩ := h
  refine ⟨_, (z04 (z0G (i := 1) sc_maskof.nd rfl (Or.inl rfl) z01)
    (z04 (z16 PassesOwn.never rfl (z5c rfl B.f_enumerate (z00 (pv 0) z03)) (z4c (n := 2) rfl (z0W (z0J (i := 2) sc_maskof.nd rfl (Or.inl rfl)) (z0W (z0J (i := 3) sc_maskof.nd rfl (Or.inl rfl)) z1x))) (z05 (z0b (z0Q z48 (pv 3) z2p (z0R _)) (z05 (z0G (i := 1) sc_maskof.nd rfl (Or.inl rfl) (z0H z7s (pv 1) (z0H z6P z01 (pv 2))))) z0M)))
    (z05 (z0I (pv 1))))), ?_⟩
  refine ⟨_, rfl, l, rfl, ⟨_, SqL.of hl⟩, ?_⟩
  refine z4D (K := K) (a := l) (xs := r.map z0S) (fun i σ H2 => ∃ v w, σ = [some (.ref l), some (.int (z0E (r.take i))), v, w] /\ Same H H2) ⟨none, none, rfl, Same.refl _⟩ (fun i σ H2 _ ⟨_, _, _, s⟩ => SqL.of (s _ _ hl)) ?_ ?_
  . rintro i x σ H2 T hi ⟨v, w, rfl, s2⟩ nT
    have hil : i < r.length := by
      have := (List.getElem?_eq_some_iff.mp hi).1
      rwa [List.length_map] at this
    rw [List.getElem?_map, List.getElem?_eq_getElem hil] at hi
    have hx : x = z0S (r[i]'hil) := (Option.some.inj hi).symm
    subst hx
    have tk : r.take (i + 1) = r.take i ++ [r[i]'hil] := by
      rw [List.take_succ, List.getElem?_eq_getElem hil]
      rfl
    have hb := z21 (r.take i)
    have hln : (r.take i).length = i := by rw [List.length_take]; omega
    have sn := z4p (r[i]'hil) (r.take i)
    rw [<- tk, hln] at sn
    rw [hln] at hb
    generalize r[i]'hil = c at sn
    have s3 : Same H2 (upd H2 T (.tup [.int i, z0S c])) := Same.new nT
    refine ⟨T, _, rfl, SqT.of upd_same, rfl, _, _, rfl, _, _, rfl, rfl, ?_⟩
    cases c with
    | none =>
      walk_at "rs"
      refine zAj (fun n => absurd rfl n) (fun _ => ?_)
      refine ⟨some (.int i), some (z0S none), ?_, s2.trans s3⟩
      have e : z0E (r.take (i + 1)) = z0E (r.take i) := by
        rw [sn, if_neg (by simp)]
        omega
      rw [e]
      rfl
    | some z =>
      walk_at "rs"
      refine ⟨some (.int i), some (z0S (some z)), ?_, s2.trans s3⟩
      have e : z0E (r.take (i + 1)) = Builtin.bitOr (z0E (r.take i)) ((1 : Int) * 2 ^ (i : Int).toNat) := by
        rw [Int.toNat_natCast, z5d hb.1 hb.2 (by decide), sn, if_pos (show (some z).isSome = true from rfl)]
      rw [e]
      rfl
  . rintro σ H2 ⟨v, w, rfl, s2⟩
    refine ⟨_, rfl, ?_⟩
    rw [List.length_map, List.take_length]
    exact q _ s2
theorem sc_filled : FnScope ["wide", "high", "cell", "row"] ["wide", "high", "cell"] (z02 z1p) := ⟨rfl, rfl, rfl, by decide +kernel, rfl, by decide +kernel, by decide +kernel⟩
theorem z7a {f T : Addr} {fd : FuncData} (D : DfD K mg "filled" z1p ["wide", "high", "cell"] f fd T)
    (O_paintof : Ow P w K mg base "paint_of" ["row"] 1 z8Q)
    (O_maskof : Ow P w K mg base "mask_of" ["row"] 1 zAi) (B : Blt mg) :
    FnOk P w K mg base CX0 2 f fd ["wide", "high", "cell"] z2T := by
  refine D.F.ok sc_filled (fun vs H Q E h => ?_) (fun cdv A outer s H vs Q E hr h => ?_)
  . obtain ⟨w, h, c, rfl, _⟩ := h
    rfl
  obtain ⟨wd, hg, c, rfl, w1, w2, h1, h2, hc, q⟩ := h
  refine ⟨_, (z04 (z0G (i := 3) sc_filled.nd rfl (Or.inl rfl) (z0H zAb (z2C (z00 (pv 2) z03)) (pv 0)))
    (z05 (z0I (z1S (z00 (pv 0) (z00 (pv 1) (z00 (z0H z8R (z1S (z00 (z0F O_paintof hr rfl (z00 (pv 3) z03)) z03)) (pv 1)) (z00 (z0H z8R (z1S (z00 (z0F O_maskof hr rfl (z00 (pv 3) z03)) z03)) (pv 1)) z03)))))))), ?_⟩
  walk_at "rs"
  intro l1 n1
  refine ⟨_, rfl, l1, _, _, rfl, rfl, upd_same, by omega, by omega, ?_, fun l2 n2 => ?_⟩
  . show 1 * wd.toNat <= sizeLine
    exact Nat.le_of_lt (z0D (by omega))
  rw [z4J]
  have s2 : Same H (upd (upd H l1 (.lst [z0S c])) l2 (.lst (List.replicate wd.toNat (z0S c)))) := (Same.new n1).trans (Same.new n2)
  have g2 : (upd (upd H l1 (.lst [z0S c])) l2 (.lst (List.replicate wd.toNat (z0S c)))) l2 = some (.lst ((List.replicate wd.toNat c).map z0S)) := by rw [upd_same, List.map_replicate]
  generalize upd (upd H l1 (.lst [z0S c])) l2 (.lst (List.replicate wd.toNat (z0S c))) = H2 at s2 g2
  refine ⟨_, rfl, _, rfl, _, rfl, l2, _, rfl, g2, z4r hc _, by rw [List.length_replicate]; omega, fun H3 s3 => ⟨szV (by simp), fun t1 m1 => ?_⟩⟩
  refine ⟨_, rfl, t1, _, _, rfl, rfl, upd_same, h1, by omega, fun p1 H4 s4 g4 => ?_⟩
  have s4' := (s3.trans (Same.new m1)).trans s4
  refine ⟨_, rfl, l2, _, rfl, s4' _ _ g2, z4r hc _, by rw [List.length_replicate]; omega, fun H5 s5 => ⟨szV (by simp), fun t2 m2 => ?_⟩⟩
  refine ⟨_, rfl, t2, _, _, rfl, rfl, upd_same, h1, by omega, fun p2 H6 s6 g6 => ?_⟩
  refine ⟨szV (by simp), fun t3 m3 => ?_⟩
  have s6' := (s5.trans (Same.new m2)).trans s6
  refine q t3 _ (((s2.trans s4').trans s6').trans (Same.new m3)) ⟨p1, p2, ?_, ?_, ?_⟩
  . rw [upd_same, List.length_replicate]
    have e1 : ((wd.toNat : Nat) : Int) = wd := by omega
    have e2 : ((hg.toNat : Nat) : Int) = hg := by omega
    rw [e1, e2]
  . rw [List.map_replicate, List.map_replicate]
    exact (Same.new m3) _ _ (s6' _ _ g4)
  . rw [List.map_replicate, List.map_replicate]
    exact (Same.new m3) _ _ g6
theorem z7b : FnScope ["_law_script", "_law_k", "_law_prime", "_law_many"] ["_law_script", "_law_k", "_law_prime", "_law_many"] (z02 z1Y) := ⟨rfl, rfl, rfl, by decide +kernel, rfl, by decide +kernel, by decide +kernel⟩
theorem z7c {f : Addr} {fd : FuncData} (D : Df K mg "_law_draw" z1Y ["_law_script", "_law_k", "_law_prime", "_law_many"] f fd) (B : Blt mg) :
    Ow P w K mg base "_law_draw" ["_law_script", "_law_k", "_law_prime", "_law_many"] 1 (z1k K) := by
  refine D.ow (D.F.ok z7b (fun vs H Q E h => ?_) (fun cdv A outer s H vs Q E hr h => ?_))
  . obtain ⟨a, ns, k, p, m, rfl, _⟩ := h
    rfl
  obtain ⟨a, ns, k, p, m, rfl, hS, k0, k1, hp, hm, q⟩ := h
  refine ⟨_, (z04 (z0b (z0Q z2y (z09 z0B rfl B.f_len boot_len (z00 (pv 0) z03)) z01 (z0R _)) (z05 (z0I z01)) z0M)
    (z05 (z0I (z0H z2t (z0H z2t (z0H z1N (z0H z0O (z0L z17 (pv 0) (z0H z2t (pv 1) (z09 z0B rfl B.f_len boot_len (z00 (pv 0) z03))) (fun _ _ => rfl)) (z0H z1N (pv 1) (pv 1))) z01) (pv 2)) (pv 3))))), ?_⟩
  refine ⟨_, rfl, a, _, rfl, .inl hS, ?_⟩
  walk_at "rs"
  unfold z1b at q
  refine z2g (fun c => ?_) (fun c => ?_)
  . rw [if_pos (by rw [List.length_map] at c; have := V.int.inj c; omega)] at q
    exact q
  . have hl : 0 < ns.length := by
      rw [List.length_map] at c
      have : (ns.length : Int) ≠ 0 := fun e => c (by rw [e])
      omega
    rw [if_neg (by omega)] at q
    refine ⟨_, rfl, _, rfl, _, rfl, a, _, rfl, .inl hS, _, _, rfl, rfl, (by rw [List.length_map]; show (0 : Int) < (ns.length : Int); omega), a, _, _, _, rfl, rfl, hS, z9v hl k, ?_⟩
    walk_at "rs"
    exact q
theorem sc_lawshade : FnScope ["_law_script", "_law_k", "_law_shade_here"] ["_law_script", "_law_k"] (z02 z1E) := ⟨rfl, rfl, rfl, by decide +kernel, rfl, by decide +kernel, by decide +kernel⟩
theorem z6A {f : Addr} {fd : FuncData} (D : Df K mg "_law_shade" z1E ["_law_script", "_law_k"] f fd)
    (O_lawdraw : Ow P w K mg base "_law_draw" ["_law_script", "_law_k", "_law_prime", "_law_many"] 1 (z1k K)) (B : Blt mg) :
    Ow P w K mg base "_law_shade" ["_law_script", "_law_k"] 2 (z8j K) := by
  refine D.ow (D.F.ok sc_lawshade (fun vs H Q E h => ?_) (fun cdv A outer s H vs Q E hr h => ?_))
  . obtain ⟨a, ns, k, rfl, _⟩ := h
    rfl
  obtain ⟨a, ns, k, rfl, hS, k0, k1, q⟩ := h
  refine ⟨_, (z04 (z0G (i := 2) sc_lawshade.nd rfl (Or.inl rfl) (z0F O_lawdraw hr rfl (z00 (pv 0) (z00 (pv 1) (z00 z01 (z00 z01 z03))))))
    (z04 (z0b (z0Q zB8 (pv 2) z01 (z0R _)) (z05 (z0I z2p)) z0M)
    (z05 (z0I (pv 2))))), ?_⟩
  walk_at "rs"
  refine ⟨a, ns, k, _, _, rfl, hS, k0, by omega, (by decide), (by decide), ?_⟩
  obtain ⟨r0, r1⟩ := z0X (ns := ns) (k := k) (p := 10037) (m := 24) (by decide)
  generalize z1b ns k 10037 24 = r at r0 r1
  walk_at "rs"
  refine z2g (fun c => ?_) (fun c => ?_)
  . exact q none (fun z e => nomatch e)
  . walk_at "rs"
    exact q (some r) (fun z e => by cases e; omega)
theorem sc_lawsign : FnScope ["_law_number", "_law_some"] ["_law_number"] (z02 z1a) := ⟨rfl, rfl, rfl, by decide +kernel, rfl, by decide +kernel, by decide +kernel⟩
theorem z7d {f : Addr} {fd : FuncData} (D : Df K mg "_law_sign" z1a ["_law_number"] f fd) (B : Blt mg) :
    Ow P w K mg base "_law_sign" ["_law_number"] 1 z8m := by
  refine D.ow (D.F.ok sc_lawsign (fun vs H Q E h => ?_) (fun cdv A outer s H vs Q E hr h => ?_))
  . obtain ⟨n, rfl, _⟩ := h
    rfl
  obtain ⟨n, rfl, q⟩ := h
  refine ⟨_, (z04 (z0G (i := 1) sc_lawsign.nd rfl (Or.inl rfl) z2q)
    (z04 (z0G (i := 1) sc_lawsign.nd rfl (Or.inl rfl) (z0H z2f (pv 1) z2q))
    (z05 (z0I (z0L zAZ (pv 1) (z0H z2t (pv 0) z01) (fun _ _ => rfl)))))), ?_⟩
  walk_at "rs"
  refine ⟨by decide +kernel, ?_⟩
  walk_at "rs"
  exact ⟨_, _, z2O n, rfl, rfl, by decide +kernel, (congrArg (fun l => atI l (n % 94)) (by decide +kernel)).trans (zCV n), q⟩
theorem sc_lawsigns : FnScope ["_law_script", "_law_k", "_law_many", "_law_high", "_law_start", "_law_signs_here", "_law_n", "_law_wide"] ["_law_script", "_law_k", "_law_many", "_law_high"] (z02 z1F) := ⟨rfl, rfl, rfl, by decide +kernel, rfl, by decide +kernel, by decide +kernel⟩
theorem z6B {f : Addr} {fd : FuncData} (D : Df K mg "_law_signs" z1F ["_law_script", "_law_k", "_law_many", "_law_high"] f fd)
    (O_lawdraw : Ow P w K mg base "_law_draw" ["_law_script", "_law_k", "_law_prime", "_law_many"] 1 (z1k K))
    (O_lawrows : Ow P w K mg base "_law_rows" ["_law_script", "_law_k", "_law_wide", "_law_high"] 3 (zAh K))
    (O_lawsign : Ow P w K mg base "_law_sign" ["_law_number"] 1 z8m) (B : Blt mg) :
    Ow P w K mg base "_law_signs" ["_law_script", "_law_k", "_law_many", "_law_high"] 4 (z8n K) := by
  refine D.ow (D.F.ok sc_lawsigns (fun vs H Q E h => ?_) (fun cdv A outer s H vs Q E hr h => ?_))
  . obtain ⟨a, ns, k, m, h, rfl, _⟩ := h
    rfl
  obtain ⟨a, ns, k, m, hg, rfl, hS, k0, k1, m1, m2, h1, h2, q⟩ := h
  refine ⟨_, (z04 (z0G (i := 4) sc_lawsigns.nd rfl (Or.inl rfl) (z0F O_lawdraw hr rfl (z00 (pv 0) (z00 (pv 1) (z00 z01 (z00 z01 z03))))))
    (z04 (z0G (i := 5) sc_lawsigns.nd rfl (Or.inl rfl) (z2C z03))
    (z04 (z16 PassesOwn.never rfl (z0U rfl B.f_range (z00 (pv 2) z03)) (z0J (i := 6) sc_lawsigns.nd rfl (Or.inl rfl)) (z04 (z0G (i := 7) sc_lawsigns.nd rfl (Or.inl rfl) (z0H z0O z01 (z0F O_lawdraw hr rfl (z00 (pv 0) (z00 (z0H z0O (z0H z0O (pv 1) z01) (pv 6)) (z00 z01 (z00 z01 z03)))))))
    (z22 (z0b (z0Q z2y (z0F O_lawdraw hr rfl (z00 (pv 0) (z00 (z0H z0O (z0H z0O (pv 1) z01) (pv 6)) (z00 z01 (z00 z01 z03))))) z01 (z0R _)) (z05 (z0G (i := 7) sc_lawsigns.nd rfl (Or.inl rfl) z01)) z0M)
    (z05 (z1L (z3K PySem.F.plainAttrs_list PySem.F.slot_list_append PySem.F.type_list_append z18 (pv 5) (z00 (z1S (z00 (z0F O_lawsign hr rfl (z00 (z0H z0O (pv 4) (z0H z1N z01 (pv 6))) z03)) (z00 (z0F O_lawrows hr rfl (z00 (pv 0) (z00 (z0H z0O (pv 1) (z0H z1N z01 (pv 6))) (z00 (pv 7) (z00 (pv 3) z03))))) z03))) z03)))))))
    (z05 (z0I (pv 5)))))), ?_⟩
  walk_at "rs"
  refine ⟨a, ns, k, 10039, 94, rfl, hS, k0, by omega, by decide, by decide, ?_⟩
  generalize z1b ns k 10039 94 = st at q
  refine ⟨szV (by simp), fun l nl => ?_⟩
  refine ⟨_, rfl, _, rfl, (z2N (by omega) (by omega)).1, (z2N (by omega) (by omega)).2, ?_⟩
  refine z0p (n := m.toNat) (fun i σ H2 => ∃ v6 v7 ts Ss, σ = [some (.ref a), some (.int k), some (.int m), some (.int hg), some (.int st), some (.ref l), v6, v7] /\ Same H H2 /\ H2 l = some (.lst (ts.map V.ref)) /\ ts.length = i /\ Ss.length = i /\ (∀ (j : Nat) t S, ts[j]? = some t -> Ss[j]? = some S -> SgAtX l hg.toNat H2 t S) /\ ∀ (j : Nat) S, Ss[j]? = some S -> S.c = z2O (st + 37 * j))
    ⟨none, none, [], [], rfl, Same.new nl, upd_same, rfl, rfl, (fun _ _ _ h => nomatch h), (fun _ _ h => nomatch h)⟩ ?_ ?_
  . rintro i σ H2 hi ⟨v6, v7, ts, Ss, rfl, s2, hl, ht, hs, hat, hc⟩
    have hS2 := s2.seq hS
    walk_at "rs"
    refine ⟨a, ns, k + 1 + (0 + (i : Int)), _, _, rfl, hS2, by omega, by omega, by decide, by decide, ?_⟩
    obtain ⟨r0, r1⟩ := z0X (ns := ns) (k := k + 1 + (0 + (i : Int))) (p := 10061) (m := 5) (by decide)
    generalize z1b ns (k + 1 + (0 + (i : Int))) 10061 5 = r at r0 r1
    walk_at "rs"
    refine ⟨fun σ H3 => H3 = H2 /\ ∃ wd : Int, σ = [some (.ref a), some (.int k), some (.int m), some (.int hg), some (.int st), some (.ref l), some (.int (0 + (i : Int))), some (.int wd)] /\ 1 <= wd /\ wd <= 64, ?_, ?_⟩
    . walk_at "rs"
      refine ⟨a, ns, k + 1 + (0 + (i : Int)), _, _, rfl, hS2, by omega, by omega, by decide, by decide, ?_⟩
      walk_at "rs"
      refine z2g (fun _ => ?_) (fun _ => ?_)
      . exact ⟨rfl, 64, rfl, by decide, by decide⟩
      . exact ⟨rfl, _, rfl, by omega, by omega⟩
    . rintro σ H3 ⟨rfl, wd, rfl, w1, w2⟩
      refine ⟨_, rfl, .inl ⟨rfl, _, SqL.of hl⟩, ?_⟩
      walk_at "rs"
      refine ⟨a, ns, k + 70 * (0 + (i : Int)), wd, hg, rfl, hS2, by omega, by omega, w1, w2, h1, h2, fun rl ps rows H4 s4 nrl nps RA R => ?_⟩
      refine ⟨szV (by simp), fun t nt => ?_⟩
      have s5 : Same H4 (upd H4 t (.tup [.str (sgn (st + 37 * (0 + (i : Int)))), .ref rl])) := Same.new nt
      have hl5 := s5 _ _ (s4 _ _ hl)
      refine ⟨l, _, _, rfl, rfl, hl5, z0D (by rw [List.length_map]; omega), ?_⟩
      have e0 : (0 : Int) + (i : Int) = (i : Nat) := by omega
      refine ⟨_, _, ts ++ [t], Ss ++ [⟨z2O (st + 37 * i), wd.toNat, rows⟩], rfl, ((s2.trans s4).trans s5).put nl, by rw [upd_same, List.map_append]; rfl, by rw [List.length_append, ht]; rfl, by rw [List.length_append, hs]; rfl, ?_, z9x (f := fun j => z2O (st + 37 * j)) hc (by rw [hs])⟩
      refine z8p (by omega) (fun t S h => ((h.mono s4).mono s5).put hl5) hat ?_
      refine SgAtX.put hl5 ⟨rl, ps, ?_, RA.mono s5, R, Ne.symm (z08 hl nrl), fun p hp => Ne.symm (z08 hl (nps p hp))⟩
      rw [upd_same, e0]
      rfl
  . rintro σ H2 ⟨v6, v7, ts, Ss, rfl, s2, hl, ht, hs, hat, hc⟩
    exact ⟨_, rfl, q l ts Ss H2 s2 nl ⟨hl, by omega, fun j t S x y => (hat j t S x y).at⟩ hs hc⟩
theorem z6C : FnScope ["_law_signs_here"] ["_law_signs_here"] (z02 z0z) := ⟨rfl, rfl, rfl, by decide +kernel, rfl, by decide +kernel, by decide +kernel⟩
theorem z6D {f : Addr} {fd : FuncData} (D : Df K mg "_law_pairs" z0z ["_law_signs_here"] f fd)
    (O_lawbits : Ow P w K mg base "_law_bits" ["_law_rows_here"] 1 z4H) (B : Blt mg) :
    Ow P w K mg base "_law_pairs" ["_law_signs_here"] 2 z8o := by
  refine D.ow (D.F.ok z6C (fun vs H Q E h => ?_) (fun cdv A outer s H vs Q E hr h => ?_))
  . obtain ⟨l, ts, Ss, hg, rfl, _⟩ := h
    rfl
  obtain ⟨l, ts, Ss, hg, rfl, SA, h60, q⟩ := h
  refine ⟨_, (z05 (z0I (z1e (locs := ["_law_sign_here", "_law_rows_here"]) (ix := []) rfl (BlkSc.look (dsc := z02 z0z) (N := ["_law_signs_here"]) rfl rfl (by decide +kernel)) (z1h (pv 0)) (fun _ _ _ _ _ _ => (z4F (n := 2) rfl (z0W (z0J (i := 0) (by decide +kernel : (["_law_sign_here", "_law_rows_here"] : List Str).Nodup) rfl (Or.inl rfl)) (z0W (z0J (i := 1) (by decide +kernel : (["_law_sign_here", "_law_rows_here"] : List Str).Nodup) rfl (Or.inl rfl)) z1x)))) (fun _ _ _ _ _ _ => z0e) (fun _ _ _ _ _ _ => (z1S (z00 (pv 0) (z00 (z0F O_lawbits hr rfl (z00 (pv 1) z03)) z03))))))), ?_⟩
  have hlen := SA.len
  walk_at "rs"
  refine ⟨⟨_, SqL.of SA.lst⟩, ?_⟩
  refine z0f (n := Ss.length) (fun i σ zs H2 => ∃ (v w : Option V) (us : List Addr), σ = [v, w] /\ zs = us.map V.ref /\ Same H H2 /\ us.length = i /\ ∀ (j : Nat) t S, us[j]? = some t -> Ss[j]? = some S -> PrAt hg H2 t S)
    ⟨none, none, [], rfl, rfl, Same.refl _, rfl, (fun _ _ _ h => nomatch h)⟩ (Nat.le_of_lt (z0D (by omega))) ?_ ?_ ?_ ?_ ?_
  . rintro i σ zs H2 ⟨v, w, us, _, rfl, _, hi, _⟩
    rw [List.length_map, hi]
  . rintro σ zs H2 ⟨v, w, us, _, _, s2, _⟩
    exact ⟨_, SqL.of (s2 _ _ SA.lst), by rw [List.length_map]; omega⟩
  . rintro i σ zs H2 hi ⟨v, w, us, _, _, s2, _⟩
    exact ⟨_, _, SqL.of (s2 _ _ SA.lst), List.getElem?_eq_getElem (by rw [List.length_map]; omega)⟩
  . rintro i σ zs H2 x H' Z hi ⟨v, w, us, rfl, rfl, s2, hu, g⟩ ⟨rfl, hx⟩ hZ
    have hx := hx _ (SqL.of (s2 _ _ SA.lst))
    obtain ⟨t, e1, A1, _⟩ := SA.get hi
    rw [List.getElem?_map, e1] at hx
    cases hx
    obtain ⟨rl, ps, t1, RA, R⟩ := A1.mono s2
    refine ⟨t, _, rfl, SqT.of t1, rfl, _, _, rfl, _, _, rfl, rfl, ?_⟩
    refine ⟨_, rfl, _, rfl, rl, ps, _, _, _, rfl, RA, R, fun p H3 s3 PC => ⟨szV (by simp), fun u nu => ?_⟩⟩
    refine hZ _ _ _ ⟨_, _, us ++ [u], rfl, by rw [List.map_append]; rfl, (s2.trans s3).trans (Same.new nu), by rw [List.length_append, hu]; rfl, z9w (fun t S h => (h.mono s3).mono (Same.new nu)) g fun S e => ?_⟩
    rw [hu, List.getElem?_eq_getElem hi] at e
    cases e
    exact ⟨p, upd_same, PC.mono (Same.new nu), R⟩
  . rintro σ zs H2 ⟨v, w, us, rfl, rfl, s2, hu, g⟩ m nm
    exact q m us _ (s2.trans (Same.new nm)) (s2.free nm) ⟨upd_same, hu, fun i t S e1 e2 => (g i t S e1 e2).mono (Same.new nm)⟩
theorem z7e : FnScope ["_law_script", "_law_k", "_law_signs_here", "_law_size"] ["_law_script", "_law_k", "_law_signs_here", "_law_size"] (z02 z1K) := ⟨rfl, rfl, rfl, by decide +kernel, rfl, by decide +kernel, by decide +kernel⟩
theorem z7f {f : Addr} {fd : FuncData} (D : Df K mg "_law_text" z1K ["_law_script", "_law_k", "_law_signs_here", "_law_size"] f fd)
    (O_lawdraw : Ow P w K mg base "_law_draw" ["_law_script", "_law_k", "_law_prime", "_law_many"] 1 (z1k K)) (B : Blt mg) :
    Ow P w K mg base "_law_text" ["_law_script", "_law_k", "_law_signs_here", "_law_size"] 2 (zAq K) := by
  refine D.ow (D.F.ok z7e (fun vs H Q E h => ?_) (fun cdv A outer s H vs Q E hr h => ?_))
  . obtain ⟨a, l, ns, k, n, ts, Ss, hg, rfl, _⟩ := h
    rfl
  obtain ⟨a, l, ns, k, n, ts, Ss, hg, rfl, hS, SA, s1, k0, k1, n0, n1, q⟩ := h
  refine ⟨_, (z05 (z0I (z3K PySem.F.plainAttrs_str PySem.F.slot_str_join PySem.F.type_str_join zBW z2q (z00 (z1e (locs := ["_law_n"]) (ix := [2, 0, 1]) rfl (BlkSc.look (dsc := z02 z1K) (N := ["_law_script", "_law_k", "_law_signs_here", "_law_size"]) rfl rfl (by decide +kernel)) (z0U rfl B.f_range (z00 (pv 3) z03)) (fun _ _ _ _ _ _ => (z0J (i := 0) (by decide +kernel : (["_law_n", "_law_signs_here", "_law_script", "_law_k"] : List Str).Nodup) rfl (Or.inl rfl))) (fun _ _ _ _ _ _ => z0e) (fun _ _ _ _ _ _ => (z0L z20 (z0L z4E (pv 1) (z0F O_lawdraw hr rfl (z00 (pv 2) (z00 (z0H z0O (pv 3) (pv 0)) (z00 z01 (z00 (z09 z4n rfl B.f_len boot_len (z00 (pv 1) z03)) z03))))) (fun _ _ => rfl)) z01 (fun _ _ => rfl)))) z03)))), ?_⟩
  have hlen := SA.len
  walk_at "rs"
  refine ⟨(z2N (by omega) (by omega)).1, (z2N (by omega) (by omega)).2, ?_⟩
  refine z0f (n := n.toNat) (fun i σ zs H2 => ∃ (v : Option V) (cs : List Nat), σ = [v, some (.ref l), some (.ref a), some (.int k)] /\ zs = (cs.map one).map V.str /\ H2 = H /\ cs.length = i /\ ∀ c ∈ cs, known Ss c = true)
    ⟨none, [], rfl, rfl, rfl, rfl, (fun _ h => nomatch h)⟩ (Nat.le_of_lt (z0D (by omega))) ?_ ?_ ?_ ?_ ?_
  . rintro i σ zs H2 ⟨v, cs, _, rfl, _, hi, _⟩
    rw [List.length_map, List.length_map, hi]
  . rintro σ zs H2 _
    show n.toNat <= n.toNat
    exact Nat.le_refl _
  . intro i σ zs H2 hi _
    show i < n.toNat
    exact hi
  . rintro i σ zs H2 x H' Z hi ⟨v, cs, rfl, rfl, rfl, hc, hk⟩ ⟨rfl, rfl⟩ hZ
    walk_at "rs"
    refine ⟨l, _, rfl, .inl (SqL.of SA.lst), ?_⟩
    refine ⟨a, ns, k + (0 + (i : Int)), 10069, _, rfl, hS, by omega, by omega, by decide, by rw [List.length_map]; omega, ?_⟩
    obtain ⟨r0, r1⟩ := z0X (ns := ns) (k := k + (0 + (i : Int))) (p := 10069) (m := ((ts.map V.ref).length : Int)) (by rw [List.length_map]; omega)
    generalize z1b ns (k + (0 + (i : Int))) 10069 ((ts.map V.ref).length : Int) = r at r0 r1
    rw [List.length_map, hlen] at r1
    obtain ⟨rn, rfl⟩ : ∃ rn : Nat, r = (rn : Int) := ⟨r.toNat, by omega⟩
    obtain ⟨t, e1, ⟨rl, ps, t1, _, _⟩, e3⟩ := SA.get (i := rn) (by omega)
    refine ⟨l, _, _, _, rfl, rfl, SqL.of SA.lst, e3, t, _, 0, _, rfl, rfl, SqT.of t1, rfl, ?_⟩
    refine hZ _ _ _ ⟨_, cs ++ [(Ss[rn]'(by omega)).c], rfl, by rw [List.map_append, List.map_append]; rfl, rfl, by rw [List.length_append, hc]; rfl, fun c hc' => ?_⟩
    rcases List.mem_append.mp hc' with h | h
    . exact hk c h
    . rw [List.mem_singleton.mp h]
      exact z8q (List.getElem_mem _)
  . rintro σ zs H2 ⟨v, cs, rfl, rfl, rfl, hc, hk⟩ m nm
    have bd : z4O (Str.ofString "") (cs.map one) <= sizeLine := by
      have h1 := z6e (sep := Str.ofString "") (m := 1) (zs := cs.map one) fun z hz => by
        obtain ⟨c, _, rfl⟩ := List.mem_map.mp hz
        exact Nat.le_refl _
      have h2 : (Str.ofString "").length = 0 := by decide +kernel
      rw [h2, List.length_map] at h1
      exact Nat.le_of_lt (Nat.lt_of_le_of_lt h1 (z0D (by omega)))
    refine ⟨Str.ofString "", m, cs.map one, rfl, rfl, SqL.of upd_same, bd, ?_⟩
    have e : Str.ofString "" = Str.empty := by decide +kernel
    rw [e, L2.join_ones]
    exact q _ _ (Same.new nm) (by show cs.toArray.size = _; rw [List.size_toArray, hc]) fun c h => hk c (by simpa using h)
theorem sc_paintroom : FnScope ["wide", "mask", "room", "x"] ["wide", "mask"] (z02 z0r) := ⟨rfl, rfl, rfl, by decide +kernel, rfl, by decide +kernel, by decide +kernel⟩
theorem z5L {f : Addr} {fd : FuncData} (D : Df K mg "paint_room" z0r ["wide", "mask"] f fd) (B : Blt mg) :
    Ow P w K mg base "paint_room" ["wide", "mask"] 1 z8T := by
  refine D.ow (D.F.ok sc_paintroom (fun vs H Q E h => ?_) (fun cdv A outer s H vs Q E hr h => ?_))
  . obtain ⟨w, m, rfl, _⟩ := h
    rfl
  obtain ⟨wd, m, rfl, w0, w1, m0, q⟩ := h
  refine ⟨_, (z04 (z0G (i := 2) sc_paintroom.nd rfl (Or.inl rfl) z01)
    (z04 (z16 PassesOwn.never rfl (z0U rfl B.f_range (z00 (pv 0) z03)) (z0J (i := 3) sc_paintroom.nd rfl (Or.inl rfl)) (z05 (z0b (z0Q z2y (z0H z6Q (z0H z7r (pv 1) (pv 3)) z01) z01 (z0R _)) (z05 (z0G (i := 2) sc_paintroom.nd rfl (Or.inl rfl) (z0H z7s (pv 2) (z0H z6P z01 (z0H z1N z01 (pv 3)))))) z0M)))
    (z05 (z0I (pv 2))))), ?_⟩
  refine ⟨_, rfl, _, rfl, (z2N (by omega) (by omega)).1, (z2N (by omega) (by omega)).2, ?_⟩
  refine z0p (n := wd.toNat) (fun x σ H2 => ∃ v, σ = [some (.int wd), some (.int m), some (.int (roomI x m)), v] /\ H2 = H) ⟨none, rfl, rfl⟩ ?_ ?_
  . rintro x σ H2 hx ⟨v, rfl, rfl⟩
    have hr := z36 x m
    have sn := z3q x m
    have e0 : (0 + (x : Int)).toNat = x := by omega
    have e4 : (4 * (0 + (x : Int))).toNat = 4 * x := by omega
    have ea : Builtin.bitAnd (m / 2 ^ (0 + (x : Int)).toNat) 1 = m / 2 ^ x % 2 := by
      rw [e0, zE3]
    walk_at "rs"
    refine ⟨by omega, ?_⟩
    walk_at "rs"
    refine z2g (fun c => ?_) (fun c => ?_)
    . have c' : m / 2 ^ x % 2 = 1 := by
        rw [<- ea]
        injection c
      walk_at "rs"
      refine ⟨some (.int (0 + (x : Int))), ?_, rfl⟩
      rw [if_pos c'] at sn
      have e : roomI (x + 1) m = Builtin.bitOr (roomI x m) (15 * 2 ^ (4 * (0 + (x : Int))).toNat) := by
        rw [e4, z5d hr.1 (by rw [zAf]; exact hr.2) (by decide), sn, zAf]
      rw [e]
      rfl
    . have c' : ¬ m / 2 ^ x % 2 = 1 := fun e => c (by
        rw [<- ea] at e
        show V.int (Builtin.bitAnd (m / 2 ^ (0 + (x : Int)).toNat) 1) = V.int 1
        rw [e])
      refine ⟨some (.int (0 + (x : Int))), ?_, rfl⟩
      rw [if_neg c'] at sn
      have e : roomI (x + 1) m = roomI x m := by
        rw [sn]
        omega
      rw [e]
      rfl
  . rintro σ H2 ⟨v, rfl, rfl⟩
    exact ⟨_, rfl, q⟩
theorem z5M : FnScope ["wide", "paint", "mask"] ["wide", "paint", "mask"] (z02 z0s) := ⟨rfl, rfl, rfl, by decide +kernel, rfl, by decide +kernel, by decide +kernel⟩
theorem z5N {f : Addr} {fd : FuncData} (D : Df K mg "is_bits_row" z0s ["wide", "paint", "mask"] f fd)
    (O_iswhole : Ow P w K mg base "is_whole" ["thing"] 1 z3O)
    (O_paintroom : Ow P w K mg base "paint_room" ["wide", "mask"] 1 z8T) (B : Blt mg) :
    Ow P w K mg base "is_bits_row" ["wide", "paint", "mask"] 2 zAw := by
  refine D.ow (D.F.ok z5M (fun vs H Q E h => ?_) (fun cdv A outer s H vs Q E hr h => ?_))
  . obtain ⟨w, P, M, rfl, _⟩ := h
    rfl
  obtain ⟨wd, P, M, rfl, w1, w2, ⟨TP, hP⟩, ⟨TM, hM⟩, q⟩ := h
  refine ⟨_, (z04 (z0b (PW.pt (z2x (z0w (z0o (z0F O_iswhole hr rfl (z00 (pv 1) z03)))) (z1t (z0w (z0o (z0F O_iswhole hr rfl (z00 (pv 2) z03))))))) (z05 (z0I z2Q)) z0M)
    (z04 (z0b (PW.pt (z2x (z0Q z47 (pv 2) z01 (z0R _)) (z1t (z0Q z5Z (z0H z7r (pv 2) (pv 0)) z01 (z0R _))))) (z05 (z0I z2Q)) z0M)
    (z05 (z0I (z2s (z1i zB9 (pv 1) z01 (z0R _)) (z2r (z1i z2y (z0H z6Q (pv 1) (z46 zAW (z0F O_paintroom hr rfl (z00 (pv 0) (z00 (pv 2) z03))))) z01 (z0R _)))))))), ?_⟩
  refine ⟨_, rfl, _, TP, rfl, hP, _, rfl, ?_⟩
  by_cases iP : ∃ i, P = V.int i
  . obtain ⟨p, rfl⟩ := iP
    cases hP
    refine z1d rfl ⟨_, rfl, _, TM, rfl, hM, _, rfl, ?_⟩
    by_cases iM : ∃ i, M = V.int i
    . obtain ⟨m, rfl⟩ := iM
      cases hM
      refine z1d rfl ?_
      walk_at "rs"
      refine z2g (fun c => ?_) (fun c => ?_)
      . refine z33 ?_
        have e : z5u wd.toNat (.int p) (.int m) = false := z94 (decide_eq_false (by omega))
        rw [e] at q
        exact q
      . have hm : 0 <= m := by omega
        walk_at "rs"
        refine ⟨by omega, ?_⟩
        walk_at "rs"
        have ok : 0 <= p -> z3c wd.toNat p m = (decide (m / 2 ^ wd.toNat = 0) && decide (Builtin.bitAnd p (Builtin.bitNot (roomI wd.toNat m)) = 0)) := fun h => z3r _ _ _ h hm
        refine zAj (fun n => ?_) (fun e => ?_)
        . have n' : ¬ m / 2 ^ wd.toNat = 0 := fun h => n (by show V.int (m / 2 ^ wd.toNat) = V.int 0; rw [h])
          have e : z5u wd.toNat (.int p) (.int m) = false := by
            show (decide (0 <= p) && (decide (0 <= m) && z3c wd.toNat p m)) = false
            by_cases h0 : 0 <= p
            . rw [ok h0, decide_eq_false n', Bool.false_and, Bool.and_false, Bool.and_false]
            . rw [decide_eq_false h0, Bool.false_and]
          rw [e] at q
          exact q
        . have e' : m / 2 ^ wd.toNat = 0 := by injection e
          walk_at "rs"
          refine z2g (fun h0 => ?_) (fun h0 => ?_)
          . refine ⟨_, rfl, _, rfl, _, rfl, wd, m, rfl, by omega, w2, hm, ?_⟩
            walk_at "rs"
            have e2 : z5u wd.toNat (.int p) (.int m) = decide (V.int (Builtin.bitAnd p (Builtin.bitNot (roomI wd.toNat m))) = V.int 0) := by
              show (decide (0 <= p) && (decide (0 <= m) && z3c wd.toNat p m)) = _
              rw [ok h0, decide_eq_true h0, decide_eq_true hm, decide_eq_true e', Bool.true_and, Bool.true_and, Bool.true_and]
              exact decide_eq_decide.mpr ⟨fun h => by rw [h], fun h => by injection h⟩
            rw [e2] at q
            exact q
          . have e2 : z5u wd.toNat (.int p) (.int m) = false := z93 (decide_eq_false h0)
            rw [e2] at q
            exact q
    . rw [z5f hM iM]
      refine z33 ?_
      have e : z5u wd.toNat (.int p) M = false := by
        cases M with
        | int m => exact absurd ⟨m, rfl⟩ iM
        | _ => rfl
      rw [e] at q
      exact q
  . rw [z5f hP iP]
    refine z33 (z33 ?_)
    have e : z5u wd.toNat P M = false := by
      cases P with
      | int m => exact absurd ⟨m, rfl⟩ iP
      | _ => rfl
    rw [e] at q
    exact q
theorem z7g : FnScope ["thing"] ["thing"] (z02 z1V) := ⟨rfl, rfl, rfl, by decide +kernel, rfl, by decide +kernel, by decide +kernel⟩
theorem z7h {f : Addr} {fd : FuncData} (D : Df K mg "has_form" z1V ["thing"] f fd)
    (O_isside : Ow P w K mg base "is_side" ["thing"] 3 zAk) (B : Blt mg) :
    Ow P w K mg base "has_form" ["thing"] 4 zAx := by
  refine D.ow (D.F.ok z7g (fun vs H Q E h => ?_) (fun cdv A outer s H vs Q E hr h => ?_))
  . obtain ⟨x, rfl, _⟩ := h
    rfl
  obtain ⟨x, rfl, h⟩ := h
  refine ⟨_, (z04 (z0b (PW.pt (z2x (z0w (z0o (z09 z0l rfl B.f_isinstance boot_isinstance (z00 (pv 0) (z00 (z1A (v := .ty "tuple") rfl B.f_tuple boot_tuple rfl) z03))))) (z1t (z0Q z5Z (z09 z0B rfl B.f_len boot_len (z00 (pv 0) z03)) z01 (z0R _))))) (z05 (z0I z2Q)) z0M)
    (z04 (z0b (PW.pt (z2x (z0w (z0o (z0F O_isside hr rfl (z00 (z0L z0K (pv 0) z01 (fun _ _ => rfl)) z03)))) (z1t (z0w (z0o (z0F O_isside hr rfl (z00 (z0L z0K (pv 0) z01 (fun _ _ => rfl)) z03))))))) (z05 (z0I z2Q)) z0M)
    (z04 (z0b (PW.pt (z2x (z0w (z0o (z09 z0l rfl B.f_isinstance boot_isinstance (z00 (z0L z0K (pv 0) z01 (fun _ _ => rfl)) (z00 (z1A (v := .ty "tuple") rfl B.f_tuple boot_tuple rfl) z03))))) (z1t (z0w (z0o (z09 z0l rfl B.f_isinstance boot_isinstance (z00 (z0L z0K (pv 0) z01 (fun _ _ => rfl)) (z00 (z1A (v := .ty "tuple") rfl B.f_tuple boot_tuple rfl) z03)))))))) (z05 (z0I z2Q)) z0M)
    (z05 (z0I (z2s (z1i z2y (z09 z0B rfl B.f_len boot_len (z00 (z0L z0K (pv 0) z01 (fun _ _ => rfl)) z03)) (z0L z0K (pv 0) z01 (fun _ _ => rfl)) (z0R _)) (z2r (z1i z2y (z09 z0B rfl B.f_len boot_len (z00 (z0L z0K (pv 0) z01 (fun _ _ => rfl)) z03)) (z0L z0K (pv 0) z01 (fun _ _ => rfl)) (z0R _))))))))), ?_⟩
  rcases h with ⟨T, hT, nT, q⟩ | ⟨p, xs, rfl, hp, nl, q⟩ | ⟨p, a, b, c, d, cv, dv, rfl, hp, ⟨Ta, hTa⟩, ⟨Tb, hTb⟩, hc, hd, q⟩
  . refine ⟨_, rfl, _, "tuple", T, rfl, by decide, hT, _, rfl, ?_⟩
    rw [z4R hT, nT]
    exact z33 (z33 q)
  . have hT : tyS H (.ref p) = some "tuple" := by simp only [tyS, hp]
    refine ⟨_, rfl, _, "tuple", "tuple", rfl, by decide, hT, _, rfl, z1d rfl ?_⟩
    refine ⟨_, rfl, p, _, rfl, .inr (SqT.of hp), ?_⟩
    walk_at "rs"
    refine zAj (fun _ => q) (fun e => absurd ?_ nl)
    have e' : ((xs.length : Nat) : Int) = 4 := by injection e
    omega
  . have hT : tyS H (.ref p) = some "tuple" := by simp only [tyS, hp]
    refine ⟨_, rfl, _, "tuple", "tuple", rfl, by decide, hT, _, rfl, z1d rfl ?_⟩
    refine ⟨_, rfl, p, _, rfl, .inr (SqT.of hp), ?_⟩
    walk_at "rs"
    have no : z3h a b cv dv = false -> Q (.bl false) H := fun e => by
      rw [e] at q
      exact q
    refine ⟨p, _, 0, _, rfl, rfl, SqT.of hp, rfl, _, Ta, rfl, hTa, _, rfl, ?_⟩
    cases ea : inB a 1 64 with
    | false => exact z33 (z33 (no (by unfold z3h; rw [ea]; rfl)))
    | true =>
      refine z3m ⟨_, rfl, p, _, 1, _, rfl, rfl, SqT.of hp, rfl, _, Tb, rfl, hTb, _, rfl, ?_⟩
      cases eb : inB b 1 64 with
      | false => exact z33 (no (by unfold z3h; rw [eb, Bool.false_and, Bool.and_false]))
      | true =>
        obtain ⟨hb, rfl, b1, b2⟩ := z5v eb
        obtain ⟨Tc, hTc, ec⟩ := hc.ty
        obtain ⟨Td, hTd, ed⟩ := hd.ty
        refine z3m ⟨_, rfl, p, _, 2, _, rfl, rfl, SqT.of hp, rfl, _, "tuple", Tc, rfl, by decide, hTc, _, rfl, ?_⟩
        rw [z4R hTc, ec]
        cases cv with
        | none => exact z33 (z33 (no (by unfold z3h; rw [Bool.and_false, Bool.and_false])))
        | some ps =>
          refine z3m ⟨_, rfl, p, _, 3, _, rfl, rfl, SqT.of hp, rfl, _, "tuple", Td, rfl, by decide, hTd, _, rfl, ?_⟩
          rw [z4R hTd, ed]
          cases dv with
          | none => exact z33 (no (by unfold z3h; rw [Bool.and_false, Bool.and_false]))
          | some ms =>
            obtain ⟨qc, rfl, gc, _⟩ := hc
            obtain ⟨qd, rfl, gd, _⟩ := hd
            have fb : z3h a (.int hb) (some ps) (some ms) = (decide ((ps.length : Int) = hb) && decide ((ms.length : Int) = hb)) := by
              show (inB a 1 64 && (inB (.int hb) 1 64 && _)) = _
              rw [ea, eb, Bool.true_and, Bool.true_and]
              rfl
            rw [fb] at q
            refine z3m ⟨_, rfl, p, _, 2, _, rfl, rfl, SqT.of hp, rfl, qc, _, rfl, .inr (SqT.of gc), _, rfl, p, _, 1, _, rfl, rfl, SqT.of hp, rfl, rfl, _, rfl, ?_⟩
            refine z2g (fun c1 => ?_) (fun c1 => ?_)
            . refine ⟨_, rfl, p, _, 3, _, rfl, rfl, SqT.of hp, rfl, qd, _, rfl, .inr (SqT.of gd), _, rfl, p, _, 1, _, rfl, rfl, SqT.of hp, rfl, rfl, ?_⟩
              have c1' : ((ps.length : Nat) : Int) = hb := by injection c1
              rw [decide_eq_true c1', Bool.true_and] at q
              rw [show decide (V.int ((ms.length : Nat) : Int) = V.int hb) = decide (((ms.length : Nat) : Int) = hb) from decide_eq_decide.mpr ⟨fun h => by injection h, fun h => by rw [h]⟩]
              exact q
            . rw [decide_eq_false (fun h => c1 (by rw [h])), Bool.false_and] at q
              exact q
theorem z5O : FnScope ["thing"] ["thing"] (z02 z0g) := ⟨rfl, rfl, rfl, by decide +kernel, rfl, by decide +kernel, by decide +kernel⟩
theorem z5P {f : Addr} {fd : FuncData} (D : Df K mg "is_picture" z0g ["thing"] f fd)
    (O_isbitsrow : Ow P w K mg base "is_bits_row" ["wide", "paint", "mask"] 2 zAw)
    (O_hasform : Ow P w K mg base "has_form" ["thing"] 4 zAx) (B : Blt mg) :
    Ow P w K mg base "is_picture" ["thing"] 5 zCb := by
  refine D.ow (D.F.ok z5O (fun vs H Q E h => ?_) (fun cdv A outer s H vs Q E hr h => ?_))
  . obtain ⟨x, k, rfl, _⟩ := h
    rfl
  obtain ⟨x, k, rfl, hk, q⟩ := h
  refine ⟨_, (z04 (z0b (z0w (z0o (z0F O_hasform hr rfl (z00 (pv 0) z03)))) (z05 (z0I z2Q)) z0M)
    (z05 (z0I (z09 (z34 rfl) rfl B.f_all boot_all (z00 (z1e (locs := ["paint", "mask"]) (ix := [0]) rfl (BlkSc.look (dsc := z02 z0g) (N := ["thing"]) rfl rfl (by decide +kernel)) (zAe rfl B.f_zip (z00 (z0L z0K (pv 0) z01 (fun _ _ => rfl)) (z00 (z0L z0K (pv 0) z01 (fun _ _ => rfl)) z03))) (fun _ _ _ _ _ _ => (z4F (n := 2) rfl (z0W (z0J (i := 0) (by decide +kernel : (["paint", "mask", "thing"] : List Str).Nodup) rfl (Or.inl rfl)) (z0W (z0J (i := 1) (by decide +kernel : (["paint", "mask", "thing"] : List Str).Nodup) rfl (Or.inl rfl)) z1x)))) (fun _ _ _ _ _ _ => z0e) (fun _ _ _ _ _ _ => (z0F O_isbitsrow hr rfl (z00 (z0L z20 (pv 2) z01 (fun _ _ => rfl)) (z00 (pv 0) (z00 (pv 1) z03)))))) z03))))), ?_⟩
  cases hk with
  | no T hT nT => exact ⟨_, rfl, x, rfl, .inl ⟨T, hT, nT, _, rfl, z33 (q _ (Same.refl _))⟩⟩
  | few p xs e hp nl => exact ⟨_, rfl, x, rfl, .inr (.inl ⟨p, xs, e, hp, nl, _, rfl, z33 (q _ (Same.refl _))⟩)⟩
  | four p a b c d cv dv e hp hTa hTb hc hd =>
    subst e
    refine ⟨_, rfl, _, rfl, .inr (.inr ⟨p, a, b, c, d, cv, dv, rfl, hp, hTa, hTb, hc, hd, _, rfl, ?_⟩)⟩
    cases ef : z3h a b cv dv with
    | false =>
      have e0 : z7M a b cv dv = false := by
        unfold z7M
        rw [ef, Bool.false_and]
      rw [e0] at q
      exact z33 (q _ (Same.refl _))
    | true =>
      have ef' := ef
      unfold z3h at ef'
      rw [Bool.and_eq_true, Bool.and_eq_true] at ef'
      obtain ⟨ea, eb, ec⟩ := ef'
      obtain ⟨wd, rfl, w1, w2⟩ := z5v ea
      obtain ⟨hg, rfl, h1, h2⟩ := z5v eb
      cases cv with
      | none => exact absurd ec (by simp)
      | some ps =>
        cases dv with
        | none => exact absurd ec (by simp)
        | some ms =>
          have ec' : (decide ((ps.length : Int) = hg) && decide ((ms.length : Int) = hg)) = true := ec
          rw [Bool.and_eq_true, decide_eq_true_eq, decide_eq_true_eq] at ec'
          obtain ⟨l1, l2⟩ := ec'
          obtain ⟨qc, rfl, gc, _, tc⟩ := hc
          obtain ⟨qd, rfl, gd, _, td⟩ := hd
          have e0 : z7M (.int wd) (.int hg) (some ps) (some ms) = (ps.zip ms).all fun z => z5u wd.toNat z.1 z.2 := by
            unfold z7M
            rw [ef, Bool.true_and]
            rfl
          rw [e0] at q
          refine z3m ⟨_, rfl, p, _, 2, _, rfl, rfl, SqT.of hp, rfl, _, rfl, p, _, 3, _, rfl, rfl, SqT.of hp, rfl, qc, qd, _, _, rfl, SqT.of gc, SqT.of gd, ?_⟩
          have hz : (ps.zip ms).length = ps.length := by
            rw [List.length_zip]
            omega
          refine z0f (n := ps.length) (fun i σ zs H2 => ∃ u v, σ = [u, v, some (.ref p)] /\ zs = (((ps.zip ms).take i).map fun z => z5u wd.toNat z.1 z.2).map V.bl /\ Same H H2 /\ i <= ps.length) ⟨none, none, rfl, rfl, Same.refl _, Nat.zero_le _⟩ (Nat.le_of_lt (z0D (by omega))) ?_ ?_ ?_ ?_ ?_
          . rintro i σ zs H2 ⟨u, v, _, rfl, _, hi⟩
            rw [List.length_map, List.length_map, List.length_take]
            omega
          . rintro σ zs H2 ⟨u, v, _, _, s2, _⟩
            exact ⟨SqT.of (s2 _ _ gc), SqT.of (s2 _ _ gd), .inl (Nat.le_refl _)⟩
          . rintro i σ zs H2 hi ⟨u, v, _, _, s2, _⟩
            exact ⟨SqT.of (s2 _ _ gc), SqT.of (s2 _ _ gd), hi, by omega⟩
          . rintro i σ zs H2 x H' Z hi ⟨u, v, rfl, rfl, s2, _⟩ ⟨T, y, z, nT, rfl, rfl, hy, hz'⟩ hZ
            have k2 : Same H2 (upd H2 T (.tup [y, z])) := Same.new nT
            have k3 := s2.trans k2
            have ty := (tc _ (List.mem_of_getElem? hy)).mono k3
            have tz := (td _ (List.mem_of_getElem? hz')).mono k3
            refine ⟨T, _, rfl, SqT.of upd_same, rfl, _, _, rfl, _, _, rfl, rfl, ?_⟩
            refine ⟨_, rfl, p, _, 0, _, rfl, rfl, SqT.of (k3 _ _ hp), rfl, _, rfl, _, rfl, wd, y, z, rfl, w1, w2, ty, tz, ?_⟩
            refine hZ _ _ _ ⟨_, _, rfl, ?_, k3, hi⟩
            have hzi : (ps.zip ms)[i]? = some (y, z) := by
              rw [List.getElem?_zip_eq_some]
              exact ⟨hy, hz'⟩
            rw [List.take_succ, hzi, List.map_append, List.map_append]
            rfl
          . rintro σ zs H2 ⟨u, v, rfl, rfl, s2, _⟩ l' nl'
            have et : (ps.zip ms).take ps.length = ps.zip ms := List.take_of_length_le (by omega)
            rw [et]
            refine ⟨l', _, rfl, SqL.of upd_same, ?_⟩
            rw [List.all_map]
            exact q _ (s2.trans (Same.new nl'))
theorem z5Q : FnScope ["rows", "y"] ["rows", "y"] (z02 z0t) := ⟨rfl, rfl, rfl, by decide +kernel, rfl, by decide +kernel, by decide +kernel⟩
theorem z5R {f : Addr} {fd : FuncData} (D : Df K mg "bits_of_row" z0t ["rows", "y"] f fd) (B : Blt mg) :
    Ow P w K mg base "bits_of_row" ["rows", "y"] 1 z51 := by
  refine D.ow (D.F.ok z5Q (fun vs H Q E h => ?_) (fun cdv A outer s H vs Q E hr h => ?_))
  . obtain ⟨t, zs, y, rfl, _⟩ := h
    rfl
  obtain ⟨t, zs, y, rfl, ht, q⟩ := h
  refine ⟨_, (z05 (z0I (z6L (z2R z4e z47 z01 (pv 1) (z09 z0B rfl B.f_len boot_len (z00 (pv 0) z03))) (z0L z0K (pv 0) (pv 1) (fun _ _ => rfl)) z01))), ?_⟩
  walk_at "rs"
  refine z2g (fun c1 => ?_) (fun c1 => ⟨_, rfl, z3m ?_⟩)
  . refine ⟨_, rfl, t, _, rfl, .inr (SqT.of ht), ?_⟩
    rw [List.length_map]
    walk_at "rs"
    refine z2g (fun c2 => ?_) (fun c2 => ?_)
    . have hy : y.toNat < zs.length := by omega
      have e : zAt zs y = zs[y.toNat]'hy := by
        unfold zAt
        rw [if_pos c1, List.getElem?_eq_getElem hy]
        rfl
      rw [e] at q
      exact ⟨_, rfl, _, rfl, t, _, _, _, rfl, rfl, SqT.of ht, zCP c1 (List.getElem?_eq_getElem hy), q⟩
    . have e : zAt zs y = 0 := by
        unfold zAt
        rw [if_pos c1, List.getElem?_eq_none (by omega)]
        rfl
      rw [e] at q
      exact q
  . have e : zAt zs y = 0 := by
      unfold zAt
      rw [if_neg c1]
    rw [e] at q
    exact q
theorem sc_cutbits : FnScope ["bits", "at", "many", "moved"] ["bits", "at", "many"] (z02 z1X) := ⟨rfl, rfl, rfl, by decide +kernel, rfl, by decide +kernel, by decide +kernel⟩
theorem z7i {f : Addr} {fd : FuncData} (D : Df K mg "cut_bits" z1X ["bits", "at", "many"] f fd) (B : Blt mg) :
    Ow P w K mg base "cut_bits" ["bits", "at", "many"] 1 z52 := by
  refine D.ow (D.F.ok sc_cutbits (fun vs H Q E h => ?_) (fun cdv A outer s H vs Q E hr h => ?_))
  . obtain ⟨b, a, m, rfl, _⟩ := h
    rfl
  obtain ⟨b, a, m, rfl, b0, b1, a0, a1, m0, m1, q⟩ := h
  refine ⟨_, (z04 (z0G (i := 3) sc_cutbits.nd rfl (Or.inl rfl) (z6L (z0Q zB9 (pv 1) z01 (z0R _)) (z0H z7r (pv 0) (pv 1)) (z0H zE7 (pv 0) (z46 z3G (pv 1)))))
    (z05 (z0I (z0H z6Q (pv 3) (z0H z6N (z0H z6P z01 (pv 2)) z01))))), ?_⟩
  unfold zAl at q
  walk_at "rs"
  refine z2g (fun c1 => ?_) (fun c1 => ?_)
  . rw [if_pos c1] at q
    walk_at "rs"
    refine ⟨c1, ?_⟩
    walk_at "rs"
    have e := z8d (m := m.toNat) (Int.ediv_nonneg b0 (Int.le_of_lt (z2S a.toNat)))
    rw [<- e] at q
    exact q
  . rw [if_neg c1] at q
    walk_at "rs"
    have e := z8d (m := m.toNat) (Int.mul_nonneg b0 (Int.le_of_lt (z2S (-a).toNat)))
    rw [<- e] at q
    exact q
theorem sc_cut : FnScope ["pic", "x", "y", "wide", "high", "paints", "masks"] ["pic", "x", "y", "wide", "high"] (z02 z4U) := ⟨rfl, rfl, rfl, by decide +kernel, rfl, by decide +kernel, by decide +kernel⟩
theorem zCl {f : Addr} {fd : FuncData} (D : Df K mg "cut" z4U ["pic", "x", "y", "wide", "high"] f fd)
    (Od2_filled : Owd P w K mg base "filled" ["wide", "high", "cell"] [.non] 2 z2T)
    (O_bitsofrow : Ow P w K mg base "bits_of_row" ["rows", "y"] 1 z51)
    (O_cutbits : Ow P w K mg base "cut_bits" ["bits", "at", "many"] 1 z52) (B : Blt mg) :
    Ow P w K mg base "cut" ["pic", "x", "y", "wide", "high"] 3 zCU := by
  refine D.ow (D.F.ok sc_cut (fun vs H Q E h => ?_) (fun cdv A outer s H vs Q E hr h => ?_))
  . obtain ⟨p, x, y, w, h, rows, w', h', rfl, _⟩ := h
    rfl
  obtain ⟨p, x, y, wd, hg, rows, w', h', rfl, PC, R, w1, w2, h1, h2, q⟩ := h
  obtain ⟨pp, pm, g1, g2, g3⟩ := id PC
  refine ⟨_, (z04 (z0b (PW.pt (z2x (z0Q z4e (pv 1) (z46 z3G (pv 3)) (z0R _)) (z1t (z0Q zB9 (pv 1) (z0L z0K (pv 0) z01 (fun _ _ => rfl)) (z0R _))))) (z05 (z0I (z4I Od2_filled hr rfl (z00 (pv 3) (z00 (pv 4) z03))))) z0M)
    (z04 (z2H (i := 5) (locs := ["j"]) (ix := [0, 2, 1, 3]) rfl sc_cut.nd rfl rfl (BlkSc.look (dsc := z02 z4U) (N := ["pic", "x", "y", "wide", "high", "paints", "masks"]) rfl rfl (by decide +kernel)) (z0U rfl B.f_range (z00 (pv 4) z03)) (fun _ _ _ _ _ _ => (z0J (i := 0) (by decide +kernel : (["j", "pic", "y", "x", "wide"] : List Str).Nodup) rfl (Or.inl rfl))) (fun _ _ _ _ _ _ => z0e) (fun _ _ _ _ _ _ => (z0F O_cutbits hr rfl (z00 (z0F O_bitsofrow hr rfl (z00 (z0L z20 (pv 1) z01 (fun _ _ => rfl)) (z00 (z0H z0O (pv 2) (pv 0)) z03))) (z00 (z0H z1N z01 (pv 3)) (z00 (z0H z1N z01 (pv 4)) z03))))) rfl)
    (z04 (z2H (i := 6) (locs := ["j"]) (ix := [0, 2, 1, 3]) rfl sc_cut.nd rfl rfl (BlkSc.look (dsc := z02 z4U) (N := ["pic", "x", "y", "wide", "high", "paints", "masks"]) rfl rfl (by decide +kernel)) (z0U rfl B.f_range (z00 (pv 4) z03)) (fun _ _ _ _ _ _ => (z0J (i := 0) (by decide +kernel : (["j", "pic", "y", "x", "wide"] : List Str).Nodup) rfl (Or.inl rfl))) (fun _ _ _ _ _ _ => z0e) (fun _ _ _ _ _ _ => (z0F O_cutbits hr rfl (z00 (z0F O_bitsofrow hr rfl (z00 (z0L z20 (pv 1) z01 (fun _ _ => rfl)) (z00 (z0H z0O (pv 2) (pv 0)) z03))) (z00 (pv 3) (z00 (pv 4) z03))))) rfl)
    (z05 (z0I (z1S (z00 (pv 3) (z00 (pv 4) (z00 (z0q z0k rfl B.f_tuple boot_tuple (z00 (pv 5) z03)) (z00 (z0q z0k rfl B.f_tuple boot_tuple (z00 (pv 6) z03)) z03)))))))))), ?_⟩
  have e1 : ((w'.toNat : Nat) : Int) = w' := by omega
  have e2 : ((h'.toNat : Nat) : Int) = h' := by omega
  have off : (x <= -w' \/ (wd : Int) <= x) -> zDY (z76 z2T [V.non] E0 (z9e (zCn 3) (z9e (zCn 4) zCF))) { nx := fun x H' => Q V.non H', rt := Q } (L2.start ["pic", "x", "y", "wide", "high", "paints", "masks"] [V.ref p, V.int x, V.int y, V.int w', V.int h']) H := fun hx => by
    refine ⟨_, rfl, _, rfl, w', h', none, rfl, w1, w2, h1, h2, (fun _ e => nomatch e), fun r H2 s2 PF => ?_⟩
    refine q r H2 s2 (PF.of ?_)
    rw [zBT R (by rw [e1]; exact hx)]
  walk_at "rs"
  refine z2g (fun c => z33 (off (.inl c))) (fun c1 => ?_)
  refine ⟨_, rfl, _, rfl, p, _, 0, _, rfl, rfl, SqT.of g1, rfl, ?_⟩
  walk_at "rs"
  refine z2g (fun c => off (.inr c)) (fun c2 => ?_)
  have hw2 := R.w2
  refine ⟨_, rfl, _, rfl, (z2N (by omega) (by omega)).1, (z2N (by omega) (by omega)).2, ?_⟩
  refine z0f (n := h'.toNat) (fun i σ zs H2 => ∃ v, σ = [v, some (.ref p), some (.int y), some (.int x), some (.int w')] /\ zs = ((List.range i).map fun (j : Nat) => z06 (z5o rows x (y + (j : Int)) w'.toNat)).map V.int /\ H2 = H)
    ⟨none, rfl, rfl, rfl⟩ (Nat.le_of_lt (z0D (by omega))) ?_ ?_ ?_ ?_ ?_
  . rintro i σ zs H2 ⟨v, _, rfl, _⟩
    rw [List.length_map, List.length_map, List.length_range]
  . rintro σ zs H2 _
    exact Nat.le_refl _
  . intro i σ zs H2 hi _
    exact hi
  . rintro i σ zs H2 z H' Z hi ⟨v, rfl, rfl, rfl⟩ ⟨rfl, rfl⟩ hZ
    have bd := z50 R (y + (0 + (i : Int)))
    refine ⟨_, rfl, p, _, 2, _, rfl, rfl, SqT.of g1, rfl, ?_⟩
    walk_at "rs"
    refine ⟨pp, _, _, rfl, g2, ?_⟩
    walk_at "rs"
    refine ⟨_, _, _, rfl, bd.1, bd.2, by omega, by omega, by omega, by omega, ?_⟩
    refine hZ _ _ _ ⟨_, rfl, ?_, rfl⟩
    rw [z3t, List.map_append, z7C R, e1]
    have e0 : y + (0 + (i : Int)) = y + (i : Int) := by omega
    rw [e0]
    rfl
  rintro σ zs H2 ⟨v, rfl, rfl, rfl⟩ l1 n1
  have s1 : Same H2 (upd H2 l1 (.lst (((List.range h'.toNat).map fun (j : Nat) => z06 (z5o rows x (y + (j : Int)) w'.toNat)).map V.int))) := Same.new n1
  have u1 : (upd H2 l1 (.lst (((List.range h'.toNat).map fun (j : Nat) => z06 (z5o rows x (y + (j : Int)) w'.toNat)).map V.int))) l1 = _ := upd_same
  generalize upd H2 l1 (.lst (((List.range h'.toNat).map fun (j : Nat) => z06 (z5o rows x (y + (j : Int)) w'.toNat)).map V.int)) = H3 at s1 u1
  refine ⟨_, rfl, _, rfl, (z2N (by omega) (by omega)).1, (z2N (by omega) (by omega)).2, ?_⟩
  refine z0f (n := h'.toNat) (fun i σ zs H4 => ∃ v, σ = [v, some (.ref p), some (.int y), some (.int x), some (.int w')] /\ zs = ((List.range i).map fun (j : Nat) => z0E (z5o rows x (y + (j : Int)) w'.toNat)).map V.int /\ H4 = H3)
    ⟨none, rfl, rfl, rfl⟩ (Nat.le_of_lt (z0D (by omega))) ?_ ?_ ?_ ?_ ?_
  . rintro i σ zs H4 ⟨v, _, rfl, _⟩
    rw [List.length_map, List.length_map, List.length_range]
  . rintro σ zs H4 _
    exact Nat.le_refl _
  . intro i σ zs H4 hi _
    exact hi
  . rintro i σ zs H4 z H' Z hi ⟨v, rfl, rfl, rfl⟩ ⟨rfl, rfl⟩ hZ
    have bd := z5p R (y + (0 + (i : Int)))
    refine ⟨_, rfl, p, _, 3, _, rfl, rfl, SqT.of (s1 _ _ g1), rfl, ?_⟩
    walk_at "rs"
    refine ⟨pm, _, _, rfl, s1 _ _ g3, ?_⟩
    walk_at "rs"
    refine ⟨_, _, _, rfl, bd.1, bd.2, by omega, by omega, by omega, by omega, ?_⟩
    refine hZ _ _ _ ⟨_, rfl, ?_, rfl⟩
    rw [z3t, List.map_append, z8c, e1]
    have e0 : y + (0 + (i : Int)) = y + (i : Int) := by omega
    rw [e0]
    rfl
  rintro σ zs H4 ⟨v, rfl, rfl, rfl⟩ l2 n2
  have n12 : l1 ≠ l2 := fun e => by rw [<- e, u1] at n2; cases n2
  refine ⟨_, rfl, _, rfl, _, rfl, l1, _, rfl, .inl ⟨SqL.of ((Same.new n2) _ _ u1), fun t1 m1 => ?_⟩⟩
  refine ⟨_, rfl, l2, _, rfl, .inl ⟨SqL.of ((Same.new m1) _ _ upd_same), fun t2 m2 => ?_⟩⟩
  walk_at "rs"
  intro t3 m3
  refine q t3 _ ((((s1.trans (Same.new n2)).trans (Same.new m1)).trans (Same.new m2)).trans (Same.new m3)) ⟨t1, t2, ?_, ?_, ?_⟩
  . rw [upd_same, z1j, e1, e2]
  . refine (Same.new m3) _ _ ((Same.new m2) _ _ (upd_same.trans ?_))
    unfold cutRows
    rw [List.map_map (g := z06)]
    rfl
  . refine (Same.new m3) _ _ (upd_same.trans ?_)
    unfold cutRows
    rw [List.map_map (g := z0E)]
    rfl
theorem z5S : FnScope ["wide", "lower", "upper", "mask"] ["wide", "lower", "upper", "mask"] (z02 z0u) := ⟨rfl, rfl, rfl, by decide +kernel, rfl, by decide +kernel, by decide +kernel⟩
theorem z5T {f : Addr} {fd : FuncData} (D : Df K mg "laid_paint" z0u ["wide", "lower", "upper", "mask"] f fd)
    (O_paintroom : Ow P w K mg base "paint_room" ["wide", "mask"] 1 z8T) (B : Blt mg) :
    Ow P w K mg base "laid_paint" ["wide", "lower", "upper", "mask"] 2 z3S := by
  refine D.ow (D.F.ok z5S (fun vs H Q E h => ?_) (fun cdv A outer s H vs Q E hr h => ?_))
  . obtain ⟨w, lo, up, m, rfl, _⟩ := h
    rfl
  obtain ⟨w, lo, up, m, rfl, w0, w1, m0, q⟩ := h
  refine ⟨_, (z05 (z0I (z0H z7s (z0H z6Q (pv 1) (z46 zAW (z0F O_paintroom hr rfl (z00 (pv 0) (z00 (pv 3) z03))))) (pv 2)))), ?_⟩
  walk_at "rs"
  refine ⟨_, _, rfl, w0, w1, m0, ?_⟩
  walk_at "rs"
  exact q
theorem sc_laid : FnScope ["under", "over", "x", "y", "upper", "paints", "masks"] ["under", "over", "x", "y"] (z02 z2e) := ⟨rfl, rfl, rfl, by decide +kernel, rfl, by decide +kernel, by decide +kernel⟩
theorem zAR {f T : Addr} {fd : FuncData} (D : Df2 K mg "laid" z2e ["under", "over", "x", "y"] f fd T (0) (0))
    (O_cut : Ow P w K mg base "cut" ["pic", "x", "y", "wide", "high"] 3 zCU)
    (O_laidpaint : Ow P w K mg base "laid_paint" ["wide", "lower", "upper", "mask"] 2 z3S) (B : Blt mg) :
    FnOk P w K mg base CX0 4 f fd ["under", "over", "x", "y"] z8i := by
  refine D.F.ok sc_laid (fun vs H Q E h => ?_) (fun cdv A outer s H vs Q E hr h => ?_)
  . obtain ⟨p, o, x, y, w, h, w2, h2, rows, rows2, rfl, _⟩ := h
    rfl
  obtain ⟨p, o, x, y, wd, hg, wo, ho, rows, rows2, rfl, PC, R, PO, RO, q⟩ := h
  obtain ⟨pp, pm, g1, g2, g3⟩ := id PC
  have hR := R.len
  have hR2 := R.h2
  have hw1 := R.w1
  have hw2 := R.w2
  have hh1 := R.h1
  rw [hR] at g1
  refine ⟨_, (z04 (z0G (i := 4) sc_laid.nd rfl (Or.inl rfl) (z0F O_cut hr rfl (z00 (pv 1) (z00 (z46 z3G (pv 2)) (z00 (z46 z3G (pv 3)) (z00 (z0L z0K (pv 0) z01 (fun _ _ => rfl)) (z00 (z0L z0K (pv 0) z01 (fun _ _ => rfl)) z03)))))))
    (z04 (z2H (i := 5) (locs := ["lower", "paint", "mask"]) (ix := [0]) rfl sc_laid.nd rfl rfl (BlkSc.look (dsc := z02 z2e) (N := ["under", "over", "x", "y", "upper", "paints", "masks"]) rfl rfl (by decide +kernel)) (zBV rfl B.f_zip (z00 (z0L z0K (pv 0) z01 (fun _ _ => rfl)) (z00 (z0L z0K (pv 4) z01 (fun _ _ => rfl)) (z00 (z0L z0K (pv 4) z01 (fun _ _ => rfl)) z03)))) (fun _ _ _ _ _ _ => (z4F (n := 3) rfl (z0W (z0J (i := 0) (by decide +kernel : (["lower", "paint", "mask", "under"] : List Str).Nodup) rfl (Or.inl rfl)) (z0W (z0J (i := 1) (by decide +kernel : (["lower", "paint", "mask", "under"] : List Str).Nodup) rfl (Or.inl rfl)) (z0W (z0J (i := 2) (by decide +kernel : (["lower", "paint", "mask", "under"] : List Str).Nodup) rfl (Or.inl rfl)) z1x))))) (fun _ _ _ _ _ _ => z0e) (fun _ _ _ _ _ _ => (z0F O_laidpaint hr rfl (z00 (z0L z20 (pv 3) z01 (fun _ _ => rfl)) (z00 (pv 0) (z00 (pv 1) (z00 (pv 2) z03)))))) rfl)
    (z04 (z2H (i := 6) (locs := ["lower", "mask"]) (ix := []) rfl sc_laid.nd rfl rfl (BlkSc.look (dsc := z02 z2e) (N := ["under", "over", "x", "y", "upper", "paints", "masks"]) rfl rfl (by decide +kernel)) (zAe rfl B.f_zip (z00 (z0L z0K (pv 0) z01 (fun _ _ => rfl)) (z00 (z0L z0K (pv 4) z01 (fun _ _ => rfl)) z03))) (fun _ _ _ _ _ _ => (z4F (n := 2) rfl (z0W (z0J (i := 0) (by decide +kernel : (["lower", "mask"] : List Str).Nodup) rfl (Or.inl rfl)) (z0W (z0J (i := 1) (by decide +kernel : (["lower", "mask"] : List Str).Nodup) rfl (Or.inl rfl)) z1x)))) (fun _ _ _ _ _ _ => z0e) (fun _ _ _ _ _ _ => (z0H z7s (pv 0) (pv 1))) rfl)
    (z05 (z0I (z1S (z00 (z0L z0K (pv 0) z01 (fun _ _ => rfl)) (z00 (z0L z0K (pv 0) z01 (fun _ _ => rfl)) (z00 (z0q z0k rfl B.f_tuple boot_tuple (z00 (pv 5) z03)) (z00 (z0q z0k rfl B.f_tuple boot_tuple (z00 (pv 6) z03)) z03)))))))))), ?_⟩
  walk_at "rs"
  refine ⟨p, _, 0, _, rfl, rfl, SqT.of g1, rfl, _, rfl, p, _, 1, _, rfl, rfl, SqT.of g1, rfl, ?_⟩
  refine ⟨o, -x, -y, wo, ho, rows2, (wd : Int), (hg : Int), rfl, PO, RO, by omega, by omega, by omega, by omega, fun u H1 s1 PU => ?_⟩
  have ew : ((wd : Int)).toNat = wd := by omega
  have eh : ((hg : Int)).toNat = hg := by omega
  rw [ew, eh] at PU
  have RC := z9t RO (-x) (-y) (w' := wd) (h' := hg) hw1 hw2 hh1 hR2
  generalize cutRows rows2 (-x) (-y) wd hg = crows at PU RC q
  obtain ⟨up, um, k1, k2, k3⟩ := PU
  have hC := RC.len
  have hL := z3U (us := rows) (cs := crows) (by omega)
  have get : ∀ j, j < hg -> ∃ r c, rows[j]? = some r /\ crows[j]? = some c /\ (z0Y rows crows)[j]? = some (layR r c) /\ r.length = wd /\ c.length = wd /\ Cells r /\ Cells c := fun j hj => by
    have a1 : j < rows.length := by omega
    have a2 : j < crows.length := by omega
    exact ⟨_, _, List.getElem?_eq_getElem a1, List.getElem?_eq_getElem a2, z3T (List.getElem?_eq_getElem a1) (List.getElem?_eq_getElem a2), (R.row0 a1).1, (RC.row0 a2).1, (R.row0 a1).2, (RC.row0 a2).2⟩
  have g1' := s1 _ _ g1
  have g2' := s1 _ _ g2
  have g3' := s1 _ _ g3
  refine ⟨_, rfl, p, _, 2, _, rfl, rfl, SqT.of g1', rfl, _, rfl, u, _, 2, _, rfl, rfl, SqT.of k1, rfl, _, rfl, u, _, 3, _, rfl, rfl, SqT.of k1, rfl, pp, up, um, _, _, _, rfl, SqT.of g2', SqT.of k2, SqT.of k3, ?_⟩
  refine z0f (n := hg) (fun i σ zs H2 => ∃ v0 v1 v2, σ = [v0, v1, v2, some (.ref p)] /\ zs = (((z0Y rows crows).take i).map z06).map V.int /\ Same H1 H2 /\ i <= hg) ⟨none, none, none, rfl, rfl, Same.refl _, Nat.zero_le _⟩ (Nat.le_of_lt (z0D (by omega))) ?_ ?_ ?_ ?_ ?_
  . rintro i σ zs H2 ⟨_, _, _, _, rfl, _, hi⟩
    rw [List.length_map, List.length_map, List.length_take]
    omega
  . rintro σ zs H2 ⟨_, _, _, _, _, s2, _⟩
    exact ⟨SqT.of (s2 _ _ g2'), by rw [List.length_map, List.length_map]; omega⟩
  . rintro i σ zs H2 hi ⟨_, _, _, _, _, s2, _⟩
    exact ⟨SqT.of (s2 _ _ g2'), SqT.of (s2 _ _ k2), SqT.of (s2 _ _ k3), by rw [List.length_map, List.length_map]; omega, by rw [List.length_map, List.length_map]; omega, by rw [List.length_map, List.length_map]; omega⟩
  . rintro i σ zs H2 z H' Z hi ⟨v0, v1, v2, rfl, rfl, s2, _⟩ ⟨T, za, zb, zc, nT, rfl, rfl, ha, hb, hc⟩ hZ
    obtain ⟨r, c, er, ec, el, lr, lc, cr, cc⟩ := get i hi
    rw [List.getElem?_map, List.getElem?_map, er] at ha
    rw [List.getElem?_map, List.getElem?_map, ec] at hb
    rw [List.getElem?_map, List.getElem?_map, ec] at hc
    cases ha
    cases hb
    cases hc
    refine ⟨T, _, rfl, SqT.of upd_same, rfl, _, _, rfl, _, _, rfl, _, _, rfl, rfl, ?_⟩
    have s3 := s2.trans (Same.new (o := .tup [.int (z06 r), .int (z06 c), .int (z0E c)]) nT)
    refine ⟨_, rfl, p, _, 0, _, rfl, rfl, SqT.of (s3 _ _ g1'), rfl, _, rfl, _, rfl, _, rfl, _, _, _, _, rfl, by omega, by omega, (z21 c).1, ?_⟩
    have e := z4w r c (by omega) cr cc
    rw [lr] at e
    rw [ew, e]
    refine hZ _ _ _ ⟨_, _, _, rfl, ?_, s3, hi⟩
    rw [List.take_succ, el, List.map_append, List.map_append]
    rfl
  rintro σ zs H2 ⟨_, _, _, rfl, rfl, s2, _⟩ l1 n1
  have tk : (z0Y rows crows).take hg = z0Y rows crows := List.take_of_length_le (by omega)
  rw [tk]
  have s3 := s2.trans (Same.new (o := .lst (((z0Y rows crows).map z06).map V.int)) n1)
  have u1 : (upd H2 l1 (.lst (((z0Y rows crows).map z06).map V.int))) l1 = _ := upd_same
  generalize upd H2 l1 (.lst (((z0Y rows crows).map z06).map V.int)) = H3 at s3 u1
  refine ⟨_, rfl, p, _, 3, _, rfl, rfl, SqT.of (s3 _ _ g1'), rfl, _, rfl, u, _, 3, _, rfl, rfl, SqT.of (s3 _ _ k1), rfl, pm, um, _, _, rfl, SqT.of (s3 _ _ g3'), SqT.of (s3 _ _ k3), ?_⟩
  refine z0f (n := hg) (fun i σ zs H4 => ∃ v0 v1, σ = [v0, v1] /\ zs = (((z0Y rows crows).take i).map z0E).map V.int /\ Same H3 H4 /\ i <= hg) ⟨none, none, rfl, rfl, Same.refl _, Nat.zero_le _⟩ (Nat.le_of_lt (z0D (by omega))) ?_ ?_ ?_ ?_ ?_
  . rintro i σ zs H4 ⟨_, _, _, rfl, _, hi⟩
    rw [List.length_map, List.length_map, List.length_take]
    omega
  . rintro σ zs H4 ⟨_, _, _, _, s4, _⟩
    exact ⟨SqT.of (s4 _ _ (s3 _ _ g3')), SqT.of (s4 _ _ (s3 _ _ k3)), .inl (by rw [List.length_map, List.length_map]; omega)⟩
  . rintro i σ zs H4 hi ⟨_, _, _, _, s4, _⟩
    exact ⟨SqT.of (s4 _ _ (s3 _ _ g3')), SqT.of (s4 _ _ (s3 _ _ k3)), by rw [List.length_map, List.length_map]; omega, by rw [List.length_map, List.length_map]; omega⟩
  . rintro i σ zs H4 z H' Z hi ⟨v0, v1, rfl, rfl, s4, _⟩ ⟨T, za, zb, nT, rfl, rfl, ha, hb⟩ hZ
    obtain ⟨r, c, er, ec, el, lr, lc, cr, cc⟩ := get i hi
    rw [List.getElem?_map, List.getElem?_map, er] at ha
    rw [List.getElem?_map, List.getElem?_map, ec] at hb
    cases ha
    cases hb
    refine ⟨T, _, rfl, SqT.of upd_same, rfl, _, _, rfl, _, _, rfl, rfl, ?_⟩
    have s5 := s4.trans (Same.new (o := .tup [.int (z0E r), .int (z0E c)]) nT)
    walk_at "rs"
    refine hZ _ _ _ ⟨_, _, rfl, ?_, s5, hi⟩
    rw [List.take_succ, el, List.map_append, List.map_append]
    show _ = _ ++ [V.int (z0E (layR r c))]
    rw [<- z6Z r c (by omega)]
  rintro σ zs H4 ⟨_, _, rfl, rfl, s4, _⟩ l2 n2
  rw [tk]
  have t4 := s3.trans s4
  have t5 := t4.trans (Same.new (o := .lst (((z0Y rows crows).map z0E).map V.int)) n2)
  have u1' := (Same.new (o := .lst (((z0Y rows crows).map z0E).map V.int)) n2) _ _ (s4 _ _ u1)
  have u2 : (upd H4 l2 (.lst (((z0Y rows crows).map z0E).map V.int))) l2 = _ := upd_same
  generalize upd H4 l2 (.lst (((z0Y rows crows).map z0E).map V.int)) = H5 at t5 u1' u2
  refine ⟨_, rfl, p, _, 0, _, rfl, rfl, SqT.of (t5 _ _ g1'), rfl, _, rfl, p, _, 1, _, rfl, rfl, SqT.of (t5 _ _ g1'), rfl, _, rfl, l1, _, rfl, .inl ⟨SqL.of u1', fun t1 m1 => ?_⟩⟩
  refine ⟨_, rfl, l2, _, rfl, .inl ⟨SqL.of ((Same.new m1) _ _ u2), fun t2 m2 => ?_⟩⟩
  refine ⟨szV (by simp), fun t3 m3 => ?_⟩
  refine q t3 _ ((((s1.trans t5).trans (Same.new m1)).trans (Same.new m2)).trans (Same.new m3)) ⟨t1, t2, ?_, ?_, ?_⟩
  . rw [upd_same, hL, hR]
  . exact (Same.new m3) _ _ ((Same.new m2) _ _ upd_same)
  . exact (Same.new m3) _ _ upd_same
theorem z9U : FnScope ["thing"] ["thing"] (z02 z1q) := ⟨rfl, rfl, rfl, by decide +kernel, rfl, by decide +kernel, by decide +kernel⟩
theorem z9V {f : Addr} {fd : FuncData} (D : Df K mg "is_sign" z1q ["thing"] f fd) (B : Blt mg) :
    Ow P w K mg base "is_sign" ["thing"] 1 z9C := by
  refine D.ow (D.F.ok z9U (fun vs H Q E h => ?_) (fun cdv A outer s H vs Q E hr h => ?_))
  . obtain ⟨v, T, rfl, _⟩ := h
    rfl
  obtain ⟨v, T, rfl, hT, hl, q⟩ := h
  refine ⟨_, (z04 (z0b (PW.pt (z2x (z0w (z0o (z09 z0l rfl B.f_isinstance boot_isinstance (z00 (pv 0) (z00 (z1A (v := .ty "str") rfl B.f_str boot_str rfl) z03))))) (z1t (z0Q z5Z (z09 z1y rfl B.f_len boot_len (z00 (pv 0) z03)) z01 (z0R _))))) (z05 (z0I z2Q)) z0M)
    (z05 (z0I (z2s (z6R z4e z4e z01 (z09 z6S rfl B.f_ord boot_ord (z00 (pv 0) z03)) z01) (z2r (z1i z5Z (z09 z6S rfl B.f_ord boot_ord (z00 (pv 0) z03)) z01 (z0R _))))))), ?_⟩
  refine ⟨_, rfl, v, "str", T, rfl, by decide, hT, ?_⟩
  cases hs : z79 T "str" with
  | false =>
    have e : sgV v = false := by
      cases v with
      | str z =>
        cases hT
        exact absurd hs (by decide)
      | _ => rfl
    rw [e] at q
    exact ⟨_, rfl, z8E rfl (z33 q)⟩
  | true =>
    have hv : ∃ z, v = .str z := by
      cases v with
      | str z => exact ⟨z, rfl⟩
      | non => cases hT; exact absurd hs (by decide)
      | bl b => cases hT; exact absurd hs (by decide)
      | int i => cases hT; exact absurd hs (by decide)
      | ref a =>
        have hT' : (match H a with | some (.lst _) => some "list" | some (.frz _ (.lst _)) => some "list" | some (.tup _) => some "tuple" | some (.dK _) => some "dict" | some (.dT _) => some "dict" | _ => none) = some T := hT
        split at hT' <;> first | (cases hT'; exact absurd hs (by decide)) | cases hT'
      | _ => exact nomatch hT
    obtain ⟨z, rfl⟩ := hv
    have hz := hl z rfl
    have sz : z.length <= sizeLine := Nat.le_of_lt (z0D hz)
    refine ⟨_, rfl, z1d rfl ?_⟩
    walk_at "rs"
    refine ⟨sz, ?_⟩
    walk_at "rs"
    refine zAj (fun n1 => ?_) (fun n1 => ?_)
    . have e : sgV (.str z) = false := by
        show sgB z = false
        unfold sgB
        rw [decide_eq_false (fun e => n1 (by rw [e]; rfl)), Bool.false_and]
      rw [e] at q
      exact q
    . have e1 : z.length = 1 := by
        injection n1 with n1
        omega
      have e : sgV (.str z) = ((decide (32 <= z.cps.getD 0 0) && decide (z.cps.getD 0 0 <= 126)) && decide (z.cps.getD 0 0 ≠ 37)) := by
        show sgB z = _
        unfold sgB
        rw [decide_eq_true e1, Bool.true_and]
      rw [e] at q
      walk_at "rs"
      refine ⟨e1, ?_⟩
      walk_at "rs"
      refine z2g (fun a1 => ?_) (fun a1 => ?_)
      . rw [decide_eq_true (show 32 <= z.cps.getD 0 0 by omega), Bool.true_and] at q
        walk_at "rs"
        refine z2g (fun a2 => ?_) (fun a2 => ?_)
        . rw [decide_eq_true (show z.cps.getD 0 0 <= 126 by omega), Bool.true_and] at q
          walk_at "rs"
          refine ⟨e1, ?_⟩
          walk_at "rs"
          have e : (!decide (V.int ((z.cps.getD 0 0 : Nat) : Int) = V.int 37)) = decide (z.cps.getD 0 0 ≠ 37) := by
            by_cases e : z.cps.getD 0 0 = 37
            . rw [e]
              rfl
            . rw [decide_eq_true e, decide_eq_false fun z => e (by injection z with z; omega)]
              rfl
          show Q (V.bl (!decide (V.int ((z.cps.getD 0 0 : Nat) : Int) = V.int 37))) H
          rw [e]
          exact q
        . rw [decide_eq_false (show ¬ z.cps.getD 0 0 <= 126 by omega), Bool.false_and] at q
          exact q
      . rw [decide_eq_false (show ¬ 32 <= z.cps.getD 0 0 by omega), Bool.false_and, Bool.false_and] at q
        exact ⟨_, rfl, z3m q⟩
theorem z9W : FnScope ["thing"] ["thing"] (z02 z1r) := ⟨rfl, rfl, rfl, by decide +kernel, rfl, by decide +kernel, by decide +kernel⟩
theorem z9X {f : Addr} {fd : FuncData} (D : Df K mg "is_pair" z1r ["thing"] f fd)
    (O_ispicture : Ow P w K mg base "is_picture" ["thing"] 5 zCb)
    (O_issign : Ow P w K mg base "is_sign" ["thing"] 1 z9C) (B : Blt mg) :
    Ow P w K mg base "is_pair" ["thing"] 6 z9D := by
  refine D.ow (D.F.ok z9W (fun vs H Q E h => ?_) (fun cdv A outer s H vs Q E hr h => ?_))
  . obtain ⟨v, k, rfl, _⟩ := h
    rfl
  obtain ⟨v, k, rfl, hk, q⟩ := h
  refine ⟨_, (z04 (z0b (PW.pt (z2x (z0w (z0o (z09 z0l rfl B.f_isinstance boot_isinstance (z00 (pv 0) (z00 (z1A (v := .ty "tuple") rfl B.f_tuple boot_tuple rfl) z03))))) (z1t (z0Q z5Z (z09 z0B rfl B.f_len boot_len (z00 (pv 0) z03)) z01 (z0R _))))) (z05 (z0I z2Q)) z0M)
    (z05 (z0I (z2s (z0F O_issign hr rfl (z00 (z0L z0K (pv 0) z01 (fun _ _ => rfl)) z03)) (z2r (z0F O_ispicture hr rfl (z00 (z0L z0K (pv 0) z01 (fun _ _ => rfl)) z03))))))), ?_⟩
  cases hk with
  | no T hT nT =>
    have e : z79 T "tuple" = false := by
      unfold z79
      rw [nT, Bool.false_or, show (("tuple" : String) == "int") = false by decide, Bool.and_false]
    exact ⟨_, rfl, v, "tuple", T, rfl, by decide, hT, by rw [e]; exact ⟨_, rfl, z8E rfl (z33 (q _ (Same.refl _)))⟩⟩
  | few t xs e ht nl =>
    subst e
    refine ⟨_, rfl, _, "tuple", "tuple", rfl, by decide, by simp only [tyS, ht], _, rfl, z1d rfl ?_⟩
    refine ⟨_, rfl, t, _, rfl, .inr (SqT.of ht), rfl, _, rfl, ?_⟩
    refine zAj (fun n1 => q _ (Same.refl _)) (fun n1 => absurd ?_ nl)
    injection n1 with n1
    omega
  | two t a b T k e ht hT hz hP =>
    subst e
    refine ⟨_, rfl, _, "tuple", "tuple", rfl, by decide, by simp only [tyS, ht], _, rfl, z1d rfl ?_⟩
    refine ⟨_, rfl, t, _, rfl, .inr (SqT.of ht), rfl, _, rfl, z1d rfl ?_⟩
    refine ⟨_, rfl, t, _, 0, _, rfl, rfl, SqT.of ht, rfl, a, T, rfl, hT, hz, _, rfl, ?_⟩
    cases es : sgV a with
    | false =>
      rw [es, Bool.false_and] at q
      exact z3m (q _ (Same.refl _))
    | true =>
      rw [es, Bool.true_and] at q
      refine z33 ⟨_, rfl, t, _, 1, _, rfl, rfl, SqT.of ht, rfl, b, k, rfl, hP, fun H1 s1 => q _ s1⟩
theorem sc_picsbysigns : FnScope ["pairs", "pics"] ["pairs"] (z02 z0T) := ⟨rfl, rfl, rfl, by decide +kernel, rfl, by decide +kernel, by decide +kernel⟩
theorem z3j {f : Addr} {fd : FuncData} (D : Df K mg "pics_by_signs" z0T ["pairs"] f fd)
    {c_GlowError c_NoFont c_NoSign : Addr} (Z : Cl K mg c_GlowError c_NoFont c_NoSign)
    (O_iswithin : Ow P w K mg base "is_within" ["thing", "least", "most"] 2 z35)
    (O_ispair : Ow P w K mg base "is_pair" ["thing"] 6 z9D)
    (E_NoFont : Oo K mg "NoFont" c_NoFont) (B : Blt mg) :
    Ow2 P w K mg base "pics_by_signs" ["pairs"] 7 z6s := by
  refine D.ow2 (D.F.ok2 sc_picsbysigns (fun vs H Q E h => ?_) (fun cdv A outer s H vs Q E hr h => ?_))
  . obtain ⟨l, us, Ss, hg, rfl, _⟩ := h
    rfl
  obtain ⟨l, us, Ss, hg, rfl, PA, FO, q⟩ := h
  refine ⟨_, (z04 (z0b (PW.pt (z2x (z0w (z0o (z09 z0l rfl B.f_isinstance boot_isinstance (z00 (pv 0) (z00 (z1A (v := .ty "list") rfl B.f_list boot_list rfl) z03))))) (z1t (z0w (z0o (z0F O_iswithin hr rfl (z00 (z09 z0B rfl B.f_len boot_len (z00 (pv 0) z03)) (z00 z01 (z00 z01 z03))))))))) (z05 (z25 z2j rfl E_NoFont rfl (z00 z2q z03))) z0M)
    (z04 (z0b (z0w (z0o (z09 (z34 rfl) rfl B.f_all boot_all (z00 (z1e (locs := ["pair"]) (ix := []) rfl (BlkSc.look (dsc := z02 z0T) (N := ["pairs", "pics"]) rfl rfl (by decide +kernel)) (z1h (pv 0)) (fun _ _ _ _ _ _ => (z0J (i := 0) (by decide +kernel : (["pair"] : List Str).Nodup) rfl (Or.inl rfl))) (fun _ _ _ _ _ _ => z0e) (fun _ _ _ _ _ _ => (z0F O_ispair hr rfl (z00 (pv 0) z03)))) z03)))) (z05 (z25 z2j rfl E_NoFont rfl (z00 z2q z03))) z0M)
    (z04 (z0G (i := 1) sc_picsbysigns.nd rfl (Or.inl rfl) (z0q (z3y rfl) rfl B.f_dict boot_dict (z00 (pv 0) z03)))
    (z04 (z0b (z0Q z5Z (z09 z8D rfl B.f_len boot_len (z00 (pv 1) z03)) (z09 z0B rfl B.f_len boot_len (z00 (pv 0) z03)) (z0R _)) (z05 (z25 z2j rfl E_NoFont rfl (z00 z2q z03))) z0M)
    (z04 (z0b (z0w (z0o (z09 (z34 rfl) rfl B.f_all boot_all (z00 (zBq (z1e (locs := ["pic"]) (ix := [0]) rfl (BlkSc.look (dsc := z02 z0T) (N := ["pairs", "pics"]) rfl rfl (by decide +kernel)) (zBr (pv 1)) (fun _ _ _ _ _ _ => (z0J (i := 0) (by decide +kernel : (["pic", "pairs"] : List Str).Nodup) rfl (Or.inl rfl))) (fun _ _ _ _ _ _ => z0e) (fun _ _ _ _ _ _ => (z1i z2y (z0L z20 (pv 0) z01 (fun _ _ => rfl)) (z0L z20 (z0L z20 (z0L z4E (pv 1) z01 (fun _ _ => rfl)) z01 (fun _ _ => rfl)) z01 (fun _ _ => rfl)) (z0R _))))) z03)))) (z05 (z25 z2j rfl E_NoFont rfl (z00 z2q z03))) z0M)
    (z05 (z0I (pv 1)))))))), ?_⟩
  have hul := PA.len
  have n1 := FO.n1
  have n2 := FO.n2
  obtain ⟨ps, hpl, hps⟩ := PA.pics
  have h0 : 0 < us.length := by omega
  refine ⟨_, rfl, _, "list", "list", rfl, by decide, by simp only [tyS, PA.lst], _, rfl, z1d rfl ?_⟩
  refine ⟨_, rfl, l, _, rfl, .inl (SqL.of PA.lst), ?_⟩
  rw [List.length_map, hul]
  refine ⟨_, _, _, "int", rfl, rfl, _, rfl, ?_⟩
  have ein : inB (.int (Ss.length : Nat)) 1 60 = true := by
    show (decide ((1 : Int) <= (Ss.length : Nat)) && decide (((Ss.length : Nat) : Int) <= 60)) = true
    rw [decide_eq_true (by omega), decide_eq_true (by omega)]
    rfl
  rw [ein]
  refine z1d rfl ?_
  walk_at "rs"
  refine ⟨⟨_, SqL.of PA.lst⟩, ?_⟩
  refine z0f (n := Ss.length) (fun i σ zs H2 => ∃ v, σ = [v] /\ zs = (List.replicate i true).map V.bl /\ Same H H2) ⟨none, rfl, rfl, Same.refl _⟩ (Nat.le_of_lt (z0D (by omega))) ?_ ?_ ?_ ?_ ?_
  . rintro i σ zs H2 ⟨v, _, rfl, _⟩
    rw [List.length_map, List.length_replicate]
  . rintro σ zs H2 ⟨v, _, _, s2⟩
    exact ⟨_, SqL.of (s2 _ _ PA.lst), by rw [List.length_map, hul]; exact Nat.le_refl _⟩
  . rintro i σ zs H2 hi ⟨v, _, _, s2⟩
    exact ⟨_, .ref (us[i]'(by omega)), SqL.of (s2 _ _ PA.lst), by rw [List.getElem?_map, List.getElem?_eq_getElem (by omega)]; rfl⟩
  . rintro i σ zs H2 x H' Z hi ⟨v, rfl, rfl, s2⟩ ⟨rfl, hx⟩ hZ
    have e := hx _ (SqL.of (s2 _ _ PA.lst))
    rw [List.getElem?_map, List.getElem?_eq_getElem (by omega)] at e
    cases e
    have PR := PA.at' i (us[i]'(by omega)) (Ss[i]'hi) (List.getElem?_eq_getElem _) (List.getElem?_eq_getElem hi)
    refine ⟨_, rfl, _, true, rfl, (PR.mono s2).isPair (FO.sg _ (List.getElem_mem hi)), fun H3 s3 => ?_⟩
    refine hZ _ _ _ ⟨_, rfl, ?_, s2.trans s3⟩
    rw [List.replicate_succ', List.map_append]
    rfl
  rintro σ zs H2 ⟨v, rfl, rfl, s2⟩ lb nlb
  refine ⟨lb, List.replicate Ss.length true, rfl, SqL.of upd_same, _, rfl, z1d (by simp) ?_⟩
  have s3 : Same H (upd H2 lb (.lst ((List.replicate Ss.length true).map V.bl))) := s2.trans (Same.new nlb)
  generalize upd H2 lb (.lst ((List.replicate Ss.length true).map V.bl)) = H3 at s3 ⊢
  have PA3 := PA.mono s3
  have kl := z4S (Ss := Ss) hpl
  have kp := z99 FO hpl
  refine ⟨_, rfl, l, us, kvF Ss ps, rfl, SqL.of PA3.lst, by rw [kl, hul], ?_, fun i t k v e1 e2 => ?_, fun d nd => ?_⟩
  . rw [kp, kl]
    exact Nat.le_of_lt (z0D (by omega))
  . have hi : i < Ss.length := by
      rw [<- hul]
      exact (List.getElem?_eq_some_iff.mp e1).1
    rw [z6q hpl hi] at e2
    cases e2
    exact s3 _ _ (hps i t _ _ e1 (List.getElem?_eq_getElem hi) (List.getElem?_eq_getElem (by omega))).1
  rw [kp]
  have s4 : Same H3 (upd H3 d (.dK (kvF Ss ps))) := Same.new nd
  have g4 : (upd H3 d (.dK (kvF Ss ps))) d = some (.dK (kvF Ss ps)) := upd_same
  generalize upd H3 d (.dK (kvF Ss ps)) = H4 at s4 g4
  have PA4 := PA3.mono s4
  refine ⟨_, rfl, d, _, rfl, g4, _, rfl, l, _, rfl, .inl (SqL.of PA4.lst), ?_⟩
  rw [List.length_map, hul, kl]
  walk_at "rs"
  refine zAj (fun n => absurd rfl n) (fun _ => ?_)
  have t4 := s3.trans s4
  have nd0 : H d = none := s3.free nd
  obtain ⟨t0, e0, PR0, a0⟩ := PA4.get (i := 0) (by omega)
  obtain ⟨p0, f0, PC0, R0⟩ := PR0
  obtain ⟨pp0, pm0, k01, _, _⟩ := id PC0
  have R0l := R0.len
  walk_at "rs"
  refine ⟨d, kvF Ss ps, g4, _, rfl, d, _, rfl, g4, fun ob => ?_⟩
  have o5 : ∀ b o, b ≠ d -> H4 b = some o -> (upd H4 d (.frz ob (.dK (kvF Ss ps)))) b = some o := fun b o nb e => (z07 nb).trans e
  have tp5 : ∀ {b : Addr} {xs : List V}, H4 b = some (.tup xs) -> (upd H4 d (.frz ob (.dK (kvF Ss ps)))) b = some (.tup xs) := fun {b xs} e => o5 b _ (z2P e g4 fun z => nomatch z) e
  have ls5 : (upd H4 d (.frz ob (.dK (kvF Ss ps)))) l = some (.lst (us.map V.ref)) := o5 l _ (z2P PA4.lst g4 fun z => nomatch z) PA4.lst
  have fz5 : (upd H4 d (.frz ob (.dK (kvF Ss ps)))) d = some (.frz ob (.dK (kvF Ss ps))) := upd_same
  have sm5 : Same H (upd H4 d (.frz ob (.dK (kvF Ss ps)))) := t4.put nd0
  generalize upd H4 d (.frz ob (.dK (kvF Ss ps))) = H5 at o5 tp5 ls5 fz5 sm5
  refine z0f (n := Ss.length) (fun i σ zs H6 => ∃ v, σ = [v, some (.ref l)] /\ zs = (List.replicate i true).map V.bl /\ H6 = H5) ⟨none, rfl, rfl, rfl⟩ (Nat.le_of_lt (z0D (by omega))) ?_ ?_ ?_ ?_ ?_
  . rintro i σ zs H6 ⟨v, _, rfl, _⟩
    rw [List.length_map, List.length_replicate]
  . rintro σ zs H6 ⟨v, _, _, rfl⟩
    exact ⟨fz5, by rw [kl]; exact Nat.le_refl _⟩
  . rintro i σ zs H6 hi ⟨v, _, _, rfl⟩
    exact ⟨fz5, by rw [kl]; exact hi⟩
  . rintro i σ zs H6 x H' Z hi ⟨v, rfl, rfl, rfl⟩ ⟨rfl, k, hx⟩ hZ
    rw [z6q hpl hi] at hx
    cases hx
    obtain ⟨_, PCi, Ri⟩ := hps i (us[i]'(by omega)) (Ss[i]'hi) (ps[i]'(by omega)) (List.getElem?_eq_getElem _) (List.getElem?_eq_getElem hi) (List.getElem?_eq_getElem _)
    obtain ⟨ppi, pmi, ki, _, _⟩ := PCi
    have Ril := Ri.len
    refine ⟨_, rfl, ps[i]'(by omega), _, 1, _, rfl, rfl, SqT.of (tp5 (t4 _ _ ki)), rfl, ?_⟩
    refine ⟨_, rfl, l, _, 0, _, rfl, rfl, SqL.of ls5, a0, t0, _, 1, _, rfl, rfl, SqT.of (tp5 f0), rfl, p0, _, 1, _, rfl, rfl, SqT.of (tp5 k01), rfl, ?_⟩
    walk_at "rs"
    refine hZ _ _ _ ⟨_, rfl, ?_, rfl⟩
    rw [List.replicate_succ', List.map_append, Ril, R0l, decide_eq_true rfl]
    rfl
  . rintro σ zs H6 ⟨v, rfl, rfl, rfl⟩ lc nlc
    have ncd : lc ≠ d := fun e => by rw [e, fz5] at nlc; cases nlc
    refine ⟨ob, (z07 (Ne.symm ncd)).trans fz5, ?_⟩
    refine ⟨lc, List.replicate Ss.length true, rfl, SqL.of ((z07 ncd).trans upd_same), _, rfl, z1d (by simp) ?_⟩
    have nlc0 : H lc = none := sm5.free nlc
    refine ⟨_, rfl, ?_⟩
    have s7 : Same H (upd (upd H6 lc (.lst ((List.replicate Ss.length true).map V.bl))) d (.dK (kvF Ss ps))) := (sm5.put nlc0).put nd0
    refine q d _ s7 nd0 ⟨ps, hpl, upd_same, fun i S p e1 e2 => ?_⟩
    have hi : i < us.length := by
      rw [hul]
      exact (List.getElem?_eq_some_iff.mp e1).1
    exact (hps i _ S p (List.getElem?_eq_getElem hi) e1 e2).2.1.mono s7
theorem z6E : FnScope ["self", "pairs", "gap"] ["self", "pairs", "gap"] (z02 z1Q) := ⟨rfl, rfl, rfl, by decide +kernel, rfl, by decide +kernel, by decide +kernel⟩
theorem z6F {f : Addr} {fd : FuncData} {T : Addr}
    {c_Font : Addr} (Zo : Co K mg c_Font)
    {c_GlowError c_NoFont c_NoSign : Addr} (Z : Cl K mg c_GlowError c_NoFont c_NoSign)
    (O_iswithin : Ow P w K mg base "is_within" ["thing", "least", "most"] 2 z35)
    (O_picsbysigns : Ow2 P w K mg base "pics_by_signs" ["pairs"] 7 z6s)
    (E_NoFont : Oo K mg "NoFont" c_NoFont) (D : FunD K "__init__" "Font.__init__" z1Q f fd T) (B : Blt mg) :
    FnOk P w K mg base (CX2 P w) 8 f fd ["self", "pairs", "gap"] (z5x c_Font) := by
  refine D.ok2 z6E (fun vs H Q E h => ?_) (fun cdv A outer s H vs Q E hr h => ?_)
  . obtain ⟨x, dx, l, us, Ss, hg, gap, rfl, _⟩ := h
    rfl
  obtain ⟨x, dx, l, us, Ss, hg, gap, rfl, hx, PA, FO, g0, g1, q⟩ := h
  refine ⟨_, (z04 (z0b (z0w (z0o (z0F O_iswithin hr rfl (z00 (pv 2) (z00 z01 (z00 z01 z03)))))) (z05 (z25 z2j rfl E_NoFont rfl (z00 z2q z03))) z0M)
    (z04 (z7y (pv 0) (z6m O_picsbysigns hr z91 rfl (z00 (pv 1) z03)) rfl)
    (z04 (z7y (pv 0) (z0L z0K (z0L z0K (z0L z17 (pv 1) z01 (fun _ _ => rfl)) z01 (fun _ _ => rfl)) z01 (fun _ _ => rfl)) rfl)
    (z05 (z7y (pv 0) (pv 2) rfl))))), ?_⟩
  have ein : inB (.int gap) 0 8 = true := by
    show (decide ((0 : Int) <= gap) && decide (gap <= 8)) = true
    rw [decide_eq_true g0, decide_eq_true g1]
    rfl
  refine ⟨_, rfl, _, _, _, "int", rfl, rfl, _, rfl, ?_⟩
  rw [ein]
  refine z1d rfl ?_
  obtain ⟨p0, f0, PC0, R0⟩ := PA.at' 0 _ _ (List.getElem?_eq_getElem (show 0 < us.length by have := PA.len; have := FO.n1; omega)) (List.getElem?_eq_getElem (show 0 < Ss.length by have := FO.n1; omega))
  obtain ⟨t0, e0, _, a0⟩ := PA.get (i := 0) (by have := FO.n1; omega)
  rw [List.getElem?_eq_getElem (show 0 < us.length by have := PA.len; have := FO.n1; omega)] at e0
  cases e0
  obtain ⟨pp0, pm0, k01, _, _⟩ := id PC0
  have R0l := R0.len
  refine ⟨_, rfl, l, us, Ss, hg, rfl, PA, FO, fun d H1 s1 nd PK => ?_⟩
  refine ⟨_, rfl, x, c_Font, dx, [], rfl, s1 _ _ hx, Zo.k_Font, Zo.n_Font_pics, by decide, ?_⟩
  have o2 : ∀ b o, b ≠ x -> H1 b = some o -> (upd H1 x (.ins c_Font dx (z3a "pics" (.ref d) []))) b = some o := fun b o nb e => (z07 nb).trans e
  have x2 : (upd H1 x (.ins c_Font dx (z3a "pics" (.ref d) []))) x = some (.ins c_Font dx [("pics", .ref d)]) := upd_same
  generalize upd H1 x (.ins c_Font dx (z3a "pics" (.ref d) [])) = H2 at o2 x2
  have nt : ∀ {b : Addr} {xs : List V}, H b = some (.tup xs) -> H2 b = some (.tup xs) := fun {b xs} e => o2 b _ (z2P e hx fun z => nomatch z) (s1 _ _ e)
  have nl : H2 l = some (.lst (us.map V.ref)) := o2 l _ (z2P PA.lst hx fun z => nomatch z) (s1 _ _ PA.lst)
  refine ⟨_, rfl, l, _, 0, _, rfl, rfl, SqL.of nl, a0, _, _, 1, _, rfl, rfl, SqT.of (nt f0), rfl, p0, _, 1, _, rfl, rfl, SqT.of (nt k01), rfl, ?_⟩
  refine ⟨_, rfl, x, c_Font, dx, _, rfl, x2, Zo.k_Font, Zo.n_Font_high, (by show 1 < 1000; decide), ?_⟩
  refine ⟨_, rfl, _, rfl, x, c_Font, dx, _, rfl, upd_same, Zo.k_Font, Zo.n_Font_gap, (by show 2 < 1000; decide), ?_⟩
  rw [z5Y, R0l]
  refine q _ (fun b o nb e => (z07 nb).trans (o2 b o nb (s1 _ _ e))) ⟨dx, d, upd_same, ?_⟩
  obtain ⟨ps, a, b, c⟩ := PK
  have ot : ∀ {b' : Addr} {o : HO}, H1 b' = some o -> b' ≠ x -> (upd H2 x (.ins c_Font dx (z3a "gap" (.int gap) (z3a "high" (.int hg) [("pics", .ref d)])))) b' = some o := fun {b' o} e nb => (z07 nb).trans (o2 b' o nb e)
  have nx := s1 _ _ hx
  refine ⟨ps, a, ot b (z2P b nx fun z => nomatch z), fun i S p g1 g2 => ?_⟩
  obtain ⟨pp, pm, k1, k2, k3⟩ := c i S p g1 g2
  exact ⟨pp, pm, ot k1 (z2P k1 nx fun z => nomatch z), ot k2 (z2P k2 nx fun z => nomatch z), ot k3 (z2P k3 nx fun z => nomatch z)⟩
theorem sc_Fontpicsof : FnScope ["self", "text", "at", "sign"] ["self", "text"] (z02 z0i) := ⟨rfl, rfl, rfl, by decide +kernel, rfl, by decide +kernel, by decide +kernel⟩
theorem z4V {f : Addr} {fd : FuncData}
    {c_Font : Addr} (Zo : Co K mg c_Font)
    {c_GlowError c_NoFont c_NoSign : Addr} (Z : Cl K mg c_GlowError c_NoFont c_NoSign)
    (E_NoSign : Oe P w K mg base "NoSign" c_NoSign ["self", "sign", "at"] 1 (zCr c_NoSign "sign" "at")) (D : Fun K "pics_of" "Font.pics_of" z0i f fd) (B : Blt mg) :
    FnOk P w K mg base (CX2 P w) 3 f fd ["self", "text"] (z3B c_Font c_NoSign) := by
  refine D.ok2 sc_Fontpicsof (fun vs H Q E h => ?_) (fun cdv A outer s H vs Q E hr h => ?_)
  . obtain ⟨x, z, Ss, hg, gap, rfl, _⟩ := h
    rfl
  obtain ⟨x, z, Ss, hg, gap, rfl, FAt, FO, hz, hI, q1, q2⟩ := h
  refine ⟨_, (z04 (z16 PassesOwn.leaving rfl (zAC rfl B.f_enumerate (z00 (pv 1) z03)) (z4c (n := 2) rfl (z0W (z0J (i := 2) sc_Fontpicsof.nd rfl (Or.inl rfl)) (z0W (z0J (i := 3) sc_Fontpicsof.nd rfl (Or.inl rfl)) z1x))) (z05 (z0b (zC9 (z8A (z78 hr) (pv 3) (z4g (pv 0) rfl))) (z05 (z92 z2j rfl E_NoSign hr rfl (z00 (pv 3) (z00 (pv 2) z03)))) z0M)))
    (z05 (z0I (z1e (locs := ["sign"]) (ix := [0]) rfl (BlkSc.look (dsc := z02 z0i) (N := ["self", "text", "at", "sign"]) rfl rfl (by decide +kernel)) (zCd (pv 1)) (fun _ _ _ _ _ _ => (z0J (i := 0) (by decide +kernel : (["sign", "self"] : List Str).Nodup) rfl (Or.inl rfl))) (fun _ _ _ _ _ _ => z0e) (fun _ _ _ _ _ _ => (zAE (z78 hr) (zBs (pv 1) rfl) (pv 0) (fun _ _ => rfl))))))), ?_⟩
  obtain ⟨dx, d, fx, ps, hpl, hd, hps⟩ := id FAt
  have hd : H d = some (.dK (kvF Ss ps)) := hd
  have hzs : z.cps.size = z.cps.toList.length := by simp
  have hzl : z.cps.size <= 1000 := hz
  have lp : ([("pics", V.ref d), ("high", V.int hg), ("gap", V.int gap)] : List (Str × V)).lookup ("pics" : Str) = some (V.ref d) := rfl
  have raise0 : ∀ H2, Same H H2 -> ∀ (c i : Nat), c ∈ sgnL -> i <= 1000 -> firstBad Ss z.cps.toList 0 = some (c, i) -> ∀ y, H2 y = none -> zCr c_NoSign "sign" "at" [.ref y, .str (one c), .int (i : Nat)] (upd H2 y (.ext (ErrO y c_NoSign none))) (fun v H3 => v = .non /\ ∃ d, H3 y = some (.ext (ErrO y c_NoSign d)) /\ E (.ref c_NoSign) d (del H3 y)) E0 := fun H2 s2 c i hc hi hb y ny =>
    ⟨y, one c, .int (i : Nat), rfl, upd_same, zBu c hc, (by
      show (i : Int).natAbs.log2 < 1920
      rw [Int.natAbs_natCast]
      have := Nat.log2_le_self i
      omega), fun d nd hd => by
      obtain ⟨g1, g2, g3⟩ := z7J (fs := [("at", .int (i : Nat)), ("sign", .str (one c))]) ny nd hd
      exact ⟨rfl, some d, g1, q2 c i d _ hb (s2.trans g2) g3⟩⟩
  refine ⟨_, rfl, z, rfl, ?_⟩
  refine z97 (z := z) (fun i σ H2 => ∃ v w, σ = [some (.ref x), some (.str z), v, w] /\ Same H H2 /\ ∀ c ∈ z.cps.toList.take i, known Ss c = true) ⟨none, none, rfl, Same.refl _, fun c hc => nomatch hc⟩ ?_ ?_
  . rintro i c σ H2 T hc ⟨v, w, rfl, s2, hk⟩ nT
    have hc' : z.cps.toList[i]? = some c := by rw [Array.getElem?_toList]; exact hc
    have hil : i < z.cps.size := (Array.getElem?_eq_some_iff.mp hc).1
    have s3 := s2.trans (Same.new (o := .tup [.int i, .str ⟨#[c]⟩]) nT)
    refine ⟨T, _, rfl, SqT.of upd_same, rfl, _, _, rfl, _, _, rfl, rfl, ?_⟩
    refine ⟨_, rfl, _, rfl, x, c_Font, dx, _, _, rfl, s3 _ _ fx, Zo.k_Font, Zo.n_Font_pics, lp, d, _, rfl, DGet.k (k := Sum.inr (one c)) (s3 _ _ hd), ?_⟩
    rw [z5z c hpl]
    cases ek : known Ss c with
    | false =>
      refine ⟨_, rfl, z33 ?_⟩
      have hb := z2K (i := 0) hk hc' ek
      rw [Nat.zero_add] at hb
      exact ⟨_, rfl, _, rfl, (by show 2 <= 1000; decide), raise0 _ s3 c i (hI c (List.mem_of_getElem? hc')) (by omega) hb⟩
    | true =>
      refine ⟨_, rfl, z3m ⟨_, _, rfl, s3, fun d' hd' => ?_⟩⟩
      rw [List.take_succ, hc'] at hd'
      rcases List.mem_append.mp hd' with y | y
      . exact hk d' y
      . rw [show d' = c by simpa using y]
        exact ek
  . rintro σ H2 ⟨v, w, rfl, s2, hk⟩
    rw [hzs, List.take_length] at hk
    have hb : firstBad Ss z.cps.toList 0 = none := z1O hk
    have fx2 := s2 _ _ fx
    have hd2 := s2 _ _ hd
    refine ⟨_, rfl, z, rfl, ?_⟩
    refine z0f (n := z.cps.size) (fun i σ zs H3 => ∃ v, σ = [v, some (.ref x)] /\ H3 = H2 /\ ∃ qs : List Addr, qs.length = i /\ zs = qs.map V.ref /\ ∀ (j : Nat) p c, qs[j]? = some p -> z.cps.toList[j]? = some c -> ∃ S ∈ Ss, S.c = c /\ PicAt H p S.w S.rows) ⟨none, rfl, rfl, [], rfl, rfl, fun j p c e => by simp at e⟩ (Nat.le_of_lt (z0D hzl)) ?_ ?_ ?_ ?_ ?_
    . rintro i σ zs H3 ⟨_, _, _, qs, e, rfl, _⟩
      rw [List.length_map, e]
    . intro σ zs H3 _
      exact Nat.le_refl _
    . intro i σ zs H3 hi _
      exact hi
    . rintro i σ zs H3 y H' Z hi ⟨v, rfl, rfl, qs, hq, rfl, hqs⟩ ⟨rfl, c, hc, rfl⟩ hZ
      have hc' : z.cps.toList[i]? = some c := by rw [Array.getElem?_toList]; exact hc
      obtain ⟨j, S, p, e1, e2, e3, e4⟩ := z9A hpl (hk c (List.mem_of_getElem? hc'))
      refine ⟨_, rfl, x, c_Font, dx, _, _, rfl, fx2, Zo.k_Font, Zo.n_Font_pics, lp, _, rfl, d, .ref p, rfl, ?_, ?_⟩
      . have g := DGet.k (k := Sum.inr (one c)) hd2
        rw [e4] at g
        exact g
      . refine hZ _ _ _ ⟨_, rfl, rfl, qs ++ [p], by rw [List.length_append, hq]; rfl, by rw [List.map_append]; rfl, fun m p' c' g1 g2 => ?_⟩
        by_cases hm : m < qs.length
        . rw [List.getElem?_append_left hm] at g1
          exact hqs m p' c' g1 g2
        . rw [List.getElem?_append_right (by omega)] at g1
          cases hk' : m - qs.length with
          | zero =>
            rw [hk'] at g1
            cases g1
            have em : m = i := by omega
            rw [em, hc'] at g2
            cases g2
            exact ⟨S, List.mem_of_getElem? e1, e3, hps j S p e1 e2⟩
          | succ n =>
            rw [hk'] at g1
            cases g1
    . rintro σ zs H3 ⟨v, rfl, rfl, qs, hq, rfl, hqs⟩ l nl
      refine q1 hb l _ (s2.trans (Same.new nl)) (s2.free nl) ⟨qs, by rw [hq, hzs], upd_same, fun j p c e1 e2 => ?_⟩
      obtain ⟨S, a, b, e⟩ := hqs j p c e1 e2
      exact ⟨S, a, b, e.mono (s2.trans (Same.new nl))⟩
theorem sc_Fontband : FnScope ["self", "text", "x", "wide", "told", "at", "pic"] ["self", "text", "x", "wide"] (z02 z1R) := ⟨rfl, rfl, rfl, by decide +kernel, rfl, by decide +kernel, by decide +kernel⟩
theorem z6G {f : Addr} {fd : FuncData}
    {c_Font : Addr} (Zo : Co K mg c_Font)
    {c_GlowError c_NoFont c_NoSign : Addr} (Z : Cl K mg c_GlowError c_NoFont c_NoSign)
    (Od2_filled : Owd P w K mg base "filled" ["wide", "high", "cell"] [.non] 2 z2T)
    (Od3_laid : Owd P w K mg base "laid" ["under", "over", "x", "y"] [.int 0] 4 z8i)
    (O_Fontpicsof : Om P w K mg base (CX2 P w) c_Font "pics_of" ["self", "text"] [] 3 (z3B c_Font c_NoSign)) (D : Fun K "band" "Font.band" z1R f fd) (B : Blt mg) :
    FnOk P w K mg base (CX2 P w) 5 f fd ["self", "text", "x", "wide"] (z9I c_Font c_NoSign) := by
  refine D.ok2 sc_Fontband (fun vs H Q E h => ?_) (fun cdv A outer s H vs Q E hr h => ?_)
  . obtain ⟨f, z, x, w, Ss, hg, gap, rfl, _⟩ := h
    rfl
  obtain ⟨fo, z, x, wd, Ss, hg, gap, rfl, FAt, FO, h1, h2, hz, hI, w1, w2, q1, q2⟩ := h
  refine ⟨_, (z04 (z0G (i := 4) sc_Fontband.nd rfl (Or.inl rfl) (z4I Od2_filled hr rfl (z00 (pv 3) (z00 (z4g (pv 0) rfl) z03))))
    (z04 (z0G (i := 5) sc_Fontband.nd rfl (Or.inl rfl) (z46 z3G (pv 2)))
    (z04 (z16 PassesOwn.leaving rfl (z1h (zBo O_Fontpicsof hr z91 (pv 0) (z00 (pv 1) z03))) (z0J (i := 6) sc_Fontband.nd rfl (Or.inl rfl)) (z04 (z0b (z2R z47 z47 (z46 z3G (z0L z0K (pv 6) z01 (fun _ _ => rfl))) (pv 5) (pv 3)) (z05 (z0G (i := 4) sc_Fontband.nd rfl (Or.inl rfl) (z4I Od3_laid hr rfl (z00 (pv 4) (z00 (pv 6) (z00 (pv 5) z03)))))) z0M)
    (z05 (z0G (i := 5) sc_Fontband.nd rfl (Or.inl rfl) (z0H z0O (z0H z0O (pv 5) (z0L z0K (pv 6) z01 (fun _ _ => rfl))) (z4g (pv 0) rfl))))))
    (z05 (z0I (pv 4)))))), ?_⟩
  obtain ⟨dx, d, fx, _⟩ := id FAt
  obtain ⟨_, fs', fx', l1, l2, l3, l4⟩ := FAt.ins
  rw [fx] at fx'
  cases fx'
  have lh : ([("pics", V.ref d), ("high", V.int hg), ("gap", V.int gap)] : List (Str × V)).lookup ("high" : Str) = some (V.int hg) := rfl
  have lg : ([("pics", V.ref d), ("high", V.int hg), ("gap", V.int gap)] : List (Str × V)).lookup ("gap" : Str) = some (V.int gap) := rfl
  have ezl : z.length = z.cps.toList.length := (Array.length_toList).symm
  walk_at "rs"
  refine ⟨fo, c_Font, dx, _, _, rfl, fx, Zo.k_Font, Zo.n_Font_high, lh, ?_⟩
  refine ⟨wd, (hg : Int), none, rfl, w1, w2, by omega, by omega, (fun _ e => nomatch e), fun p0 H1 s1 PC1 => ?_⟩
  rw [Int.toNat_natCast, <- z9F Ss hg gap z.cps.toList x wd.toNat] at PC1
  walk_at "rs"
  refine ⟨fo, dx, _, rfl, s1 _ _ fx, l4, _, rfl, fo, z, Ss, hg, gap, rfl, FAt.mono s1, FO, hz, hI, fun hb l H2 s2 nl PO => ?_, fun c i d' H2 hb s2 hd => q2 c i d' H2 hb (s1.trans s2) hd⟩
  obtain ⟨qs, hql, gl, hqs⟩ := PO
  have hk : ∀ c ∈ z.cps.toList, known Ss c = true := fun c hc => by
    cases e : known Ss c with
    | true => rfl
    | false =>
      obtain ⟨c', j, e'⟩ := z1l (i := 0) ⟨c, hc, e⟩
      rw [hb] at e'
      cases e'
  refine ⟨l, rfl, ⟨_, SqL.of gl⟩, ?_⟩
  refine z32 (K := K) (a := l) (xs := qs.map V.ref) (fun i σ H3 => Same H2 H3 /\ i <= qs.length /\ ∃ p v6, σ = [some (.ref fo), some (.str z), some (.int x), some (.int wd), some (.ref p), some (.int (z3D Ss gap z.cps.toList i - x)), v6] /\ PicAt H3 p wd.toNat (z2L Ss hg gap z.cps.toList x wd.toNat i)) ⟨Same.refl _, Nat.zero_le _, p0, none, by rw [z5C, Int.zero_sub]; rfl, PC1.mono s2⟩ (fun i σ H3 _ ⟨s3, _⟩ => SqL.of (s3 _ _ gl)) ?_ ?_
  . rintro i v σ H3 hi ⟨s3, _, p, v6, rfl, PC3⟩
    have hil : i < qs.length := by
      have := (List.getElem?_eq_some_iff.mp hi).1
      rwa [List.length_map] at this
    rw [List.getElem?_map, List.getElem?_eq_getElem hil] at hi
    cases hi
    have hc : z.cps.toList[i]? = some (z.cps.toList[i]'(by omega)) := List.getElem?_eq_getElem (by omega)
    generalize z.cps.toList[i]'(by omega) = c at hc
    obtain ⟨S, hS, ec, PS⟩ := hqs i (qs[i]'hil) c (List.getElem?_eq_getElem hil) hc
    have eS := z9E FO hS
    rw [ec] at eS
    have R := FO.rect S hS
    have PS3 := PS.mono s3
    obtain ⟨pp, pm, k1, _, _⟩ := id PS3
    have es := z5D (Ss := Ss) (gap := gap) hc
    rw [eS] at es
    have fx3 := s3 _ _ (s2 _ _ (s1 _ _ fx))
    have eo : z3D Ss gap z.cps.toList i - x + (S.w : Int) + gap = z3D Ss gap z.cps.toList (i + 1) - x := by rw [es]; omega
    have skip : (z3D Ss gap z.cps.toList i - x <= -(S.w : Int) \/ wd <= z3D Ss gap z.cps.toList i - x) -> z2L Ss hg gap z.cps.toList x wd.toNat (i + 1) = z2L Ss hg gap z.cps.toList x wd.toNat i := fun h => z9G hc (by rw [eS]; omega)
    have ew : ((wd.toNat : Nat) : Int) = wd := by omega
    walk_at "rs"
    refine ⟨qs[i]'hil, _, 0, _, rfl, rfl, SqT.of k1, rfl, ?_⟩
    walk_at "rs"
    refine z2g (fun c1 => ?_) (fun c1 => ?_)
    . walk_at "rs"
      refine z2g (fun c2 => ?_) (fun c2 => ?_)
      . walk_at "rs"
        refine ⟨p, qs[i]'hil, _, 0, _, _, _, _, _, _, rfl, PC3, z2d FO h1 h2 gap hk x (by omega) (by omega) i, PS3, R, fun p' H4 s4 PC4 => ?_⟩
        have eb := zAJ FO h1 h2 gap hk x (w := wd.toNat) (by omega) (by omega) hc
        rw [eS] at eb
        rw [eb] at PC4
        walk_at "rs"
        refine ⟨qs[i]'hil, _, 0, _, rfl, rfl, SqT.of (s4 _ _ k1), rfl, ?_⟩
        walk_at "rs"
        refine ⟨fo, c_Font, dx, _, _, rfl, s4 _ _ fx3, Zo.k_Font, Zo.n_Font_gap, lg, ?_⟩
        walk_at "rs"
        refine ⟨s3.trans s4, hil, p', some (.ref (qs[i]'hil)), ?_, PC4⟩
        rw [<- eo]
        rfl
      . walk_at "rs"
        refine ⟨qs[i]'hil, _, 0, _, rfl, rfl, SqT.of k1, rfl, ?_⟩
        walk_at "rs"
        refine ⟨fo, c_Font, dx, _, _, rfl, fx3, Zo.k_Font, Zo.n_Font_gap, lg, ?_⟩
        walk_at "rs"
        refine ⟨s3, hil, p, some (.ref (qs[i]'hil)), ?_, by rw [skip (by omega)]; exact PC3⟩
        rw [<- eo]
        rfl
    . refine ⟨_, rfl, z3m ?_⟩
      walk_at "rs"
      refine ⟨qs[i]'hil, _, 0, _, rfl, rfl, SqT.of k1, rfl, ?_⟩
      walk_at "rs"
      refine ⟨fo, c_Font, dx, _, _, rfl, fx3, Zo.k_Font, Zo.n_Font_gap, lg, ?_⟩
      walk_at "rs"
      refine ⟨s3, hil, p, some (.ref (qs[i]'hil)), ?_, by rw [skip (by omega)]; exact PC3⟩
      rw [<- eo]
      rfl
  . rintro σ H3 ⟨s3, _, p, v6, rfl, PC3⟩
    rw [List.length_map, hql, <- ezl] at PC3
    walk_at "rs"
    exact q1 hb p H3 ((s1.trans s2).trans s3) PC3
theorem sc_lawcolumns : FnScope ["_law_text_here", "_law_table", "_law_high", "_law_gap", "_law_columns_here", "_law_n", "_law_k", "_law_rows_here", "_law_x"] ["_law_text_here", "_law_table", "_law_high", "_law_gap"] (z02 z0Z) := ⟨rfl, rfl, rfl, by decide +kernel, rfl, by decide +kernel, by decide +kernel⟩
theorem z4W {f : Addr} {fd : FuncData} (D : Df K mg "_law_columns" z0Z ["_law_text_here", "_law_table", "_law_high", "_law_gap"] f fd) (B : Blt mg) :
    Ow P w K mg base "_law_columns" ["_law_text_here", "_law_table", "_law_high", "_law_gap"] 1 z5G := by
  refine D.ow (D.F.ok sc_lawcolumns (fun vs H Q E h => ?_) (fun cdv A outer s H vs Q E hr h => ?_))
  . obtain ⟨z, d, hg, gap, Ss, rfl, _⟩ := h
    rfl
  obtain ⟨z, d, hg, gap, Ss, rfl, TA, FO, h1, h2, g0, g1, hz, hT, q⟩ := h
  refine ⟨_, (z04 (z0G (i := 4) sc_lawcolumns.nd rfl (Or.inl rfl) (z2C z03))
    (z04 (z16 PassesOwn.never rfl (z0U rfl B.f_range (z00 (z09 z1y rfl B.f_len boot_len (z00 (pv 0) z03)) z03)) (z0J (i := 5) sc_lawcolumns.nd rfl (Or.inl rfl)) (z22 (z0b (z0Q zB8 (pv 5) z01 (z0R _)) (z05 (z16 PassesOwn.never rfl (z0U rfl B.f_range (z00 (pv 3) z03)) (z0J (i := 6) sc_lawcolumns.nd rfl (Or.inl rfl)) (z05 (z1L (z3K PySem.F.plainAttrs_list PySem.F.slot_list_append PySem.F.type_list_append z18 (pv 4) (z00 (z0H zAb (z2C (z00 z2p z03)) (pv 2)) z03)))))) z0M)
    (z04 (z0G (i := 7) sc_lawcolumns.nd rfl (Or.inl rfl) (z89 (z78 hr) (pv 1) (z0L zAZ (pv 0) (pv 5) (fun _ _ => rfl)) (fun _ _ => rfl)))
    (z05 (z16 PassesOwn.never rfl (z0U rfl B.f_range (z00 (z09 z0B rfl B.f_len boot_len (z00 (z0L z17 (pv 7) z01 (fun _ _ => rfl)) z03)) z03)) (z0J (i := 8) sc_lawcolumns.nd rfl (Or.inr rfl)) (z05 (z1L (z3K PySem.F.plainAttrs_list PySem.F.slot_list_append PySem.F.type_list_append z18 (pv 4) (z00 (z1e (locs := ["_law_row"]) (ix := [8]) rfl (BlkSc.look (dsc := z02 z0Z) (N := ["_law_text_here", "_law_table", "_law_high", "_law_gap", "_law_columns_here", "_law_n", "_law_k", "_law_rows_here", "_law_x"]) rfl rfl (by decide +kernel)) (z1h (pv 7)) (fun _ _ _ _ _ _ => (z0J (i := 0) (by decide +kernel : (["_law_row", "_law_x"] : List Str).Nodup) rfl (Or.inl rfl))) (fun _ _ _ _ _ _ => z0e) (fun _ _ _ _ _ _ => (z0L z4E (pv 0) (pv 1) (fun _ _ => rfl)))) z03)))))))))
    (z05 (z0I (pv 4))))), ?_⟩
  have ezl : z.length = z.cps.toList.length := (Array.length_toList).symm
  have sz : z.length <= sizeLine := Nat.le_of_lt (z0D (by omega))
  walk_at "rs"
  intro l nl
  refine ⟨_, rfl, z, rfl, sz, ?_⟩
  refine ⟨_, rfl, (z2N (by omega) (by omega)).1, (z2N (by omega) (by omega)).2, ?_⟩
  have en : ((z.length : Int)).toNat = z.length := by omega
  have hk : ∀ c ∈ z.cps.toList, known Ss c = true := hT
  have CO := fun k hk' => z60 FO g0 g1 hk k hk'
  have sl : ∀ n : Nat, n <= 90000 -> n < sizeLine := fun n h => Nat.lt_of_le_of_lt h (by decide)
  refine z0p (n := ((z.length : Int)).toNat) (fun n σ H2 => ∃ ps v5 v6 v7 v8, σ = [some (.str z), some (.ref d), some (.int (hg : Nat)), some (.int gap), some (.ref l), v5, v6, v7, v8] /\ RowsB H H2 l ps (z1I Ss hg gap z.cps.toList n)) ⟨[], none, none, none, none, rfl, z5e (Same.refl _) nl⟩ ?_ ?_
  . rintro n σ H2 hn ⟨ps, v5, v6, v7, v8, rfl, RB⟩
    rw [en] at hn
    have hnl : n < z.cps.toList.length := by omega
    have hc : z.cps.toList[n]? = some (z.cps.toList[n]'hnl) := List.getElem?_eq_getElem hnl
    generalize z.cps.toList[n]'hnl = c at hc
    have hkc := hk c (List.mem_of_getElem? hc)
    obtain ⟨c1, c2⟩ := CO n (by omega)
    have e0 : (0 : Int) + (n : Int) = ((n : Nat) : Int) := by omega
    have at1 : atI z.cps.toList (0 + (n : Int)) = some c := by rw [e0]; exact z0d hc
    refine ⟨fun σ' H' => ∃ ps v6 v7 v8, σ' = [some (.str z), some (.ref d), some (.int (hg : Nat)), some (.int gap), some (.ref l), some (.int (0 + (n : Int))), v6, v7, v8] /\ RowsB H H' l ps (z1I Ss hg gap z.cps.toList n ++ if 0 < n then z5V hg gap else []), ?_, ?_⟩
    . walk_at "rs"
      refine z2g (fun c3 => ?_) (fun c3 => ?_)
      . rw [if_pos (show 0 < n by omega)]
        refine ⟨_, rfl, _, rfl, (z2N (by omega) (by omega)).1, (z2N (by omega) (by omega)).2, ?_⟩
        refine z0p (n := gap.toNat) (fun k σ H3 => ∃ ps v6 v7 v8, σ = [some (.str z), some (.ref d), some (.int (hg : Nat)), some (.int gap), some (.ref l), some (.int (0 + (n : Int))), v6, v7, v8] /\ RowsB H H3 l ps (z1I Ss hg gap z.cps.toList n ++ List.replicate k (List.replicate hg none))) ⟨ps, v6, v7, v8, rfl, by rw [List.replicate_zero, List.append_nil]; exact RB⟩ ?_ ?_
        . rintro k σ H3 hk3 ⟨ps, v6, v7, v8, rfl, RB3⟩
          have szp : (ps.map V.ref).length < sizeLine := by
            have := RB3.rat.len
            rw [List.length_append, List.length_replicate] at this
            rw [List.length_map]
            exact sl _ (by omega)
          refine ⟨_, rfl, .inl ⟨rfl, _, SqL.of RB3.rat.lst⟩, szV (by simp), fun a1 n1 => ?_⟩
          obtain ⟨f1, f2, f3⟩ := RB3.fresh n1
          have RB4 := RB3.put (o := .lst [.non]) f1 f2 f3
          have g4 : (upd H3 a1 (.lst [.non])) a1 = some (.lst [.non]) := upd_same
          generalize upd H3 a1 (.lst [.non]) = H4 at RB4 g4
          refine ⟨_, rfl, a1, _, _, rfl, rfl, g4, by omega, by omega, ?_, fun p np => ?_⟩
          . show 1 * _ <= sizeLine
            exact Nat.le_of_lt (z0D (by omega))
          rw [z4J, Int.toNat_natCast]
          obtain ⟨f1, f2, f3⟩ := RB4.fresh np
          have RB5 := RB4.put (o := .lst (List.replicate hg .non)) f1 f2 f3
          have g5 : (upd H4 p (.lst (List.replicate hg .non))) p = some (.lst ((List.replicate hg none).map z0S)) := by
            rw [upd_same, List.map_replicate]
            rfl
          generalize upd H4 p (.lst (List.replicate hg .non)) = H5 at RB5 g5
          refine ⟨l, _, _, rfl, rfl, RB5.rat.lst, szp, ?_⟩
          refine ⟨ps ++ [p], _, _, _, rfl, ?_⟩
          have := RB5.push f1 f2 g5
          rw [List.append_assoc] at this
          rw [List.replicate_succ']
          exact this
        . rintro σ H3 ⟨ps, v6, v7, v8, rfl, RB3⟩
          exact ⟨ps, v6, v7, v8, rfl, RB3⟩
      . rw [if_neg (show ¬ 0 < n by omega), List.append_nil]
        exact ⟨ps, _, _, _, rfl, RB⟩
    rintro σ3 H3 ⟨ps, v6, v7, v8, rfl, RB3⟩
    rw [z2m hc]
    have hA : (z1I Ss hg gap z.cps.toList n ++ if 0 < n then z5V hg gap else []).length <= 72 * n + 8 := by
      rw [List.length_append]
      have l1 : (if 0 < n then z5V hg gap else []).length <= 8 := by
        split
        . unfold z5V
          rw [List.length_replicate]
          omega
        . exact Nat.zero_le _
      omega
    generalize (z1I Ss hg gap z.cps.toList n ++ if 0 < n then z5V hg gap else []) = A at RB3 hA
    obtain ⟨pr, prs, gd, RA, R⟩ := TA.get FO hkc
    have hR := R.len
    have hRw := R.w2
    have hpl := RA.len
    obtain ⟨p0, e0', gp0⟩ := RA.at R.ne
    have at0 : atI (prs.map V.ref) 0 = some (.ref p0) := z0d (j := 0) (by rw [List.getElem?_map, e0']; rfl)
    have hw0 := (R.row0 R.ne).1
    have RA3 := RA.mono RB3.same
    refine ⟨_, rfl, _, rfl, _, rfl, z, _, c, rfl, rfl, sz, at1, d, .ref pr, rfl, gd _ RB3.same, ?_⟩
    refine ⟨_, rfl, pr, _, 0, _, rfl, rfl, SqL.of RA3.lst, at0, p0, _, rfl, .inl (SqL.of (RB3.same _ _ gp0)), ?_⟩
    rw [List.length_map, hw0]
    refine ⟨_, rfl, (z2N (by omega) (by omega)).1, (z2N (by omega) (by omega)).2, ?_⟩
    refine z0p (n := (((sgF Ss c).w : Nat) : Int).toNat) (fun x σ H4 => ∃ ps v8, σ = [some (.str z), some (.ref d), some (.int (hg : Nat)), some (.int gap), some (.ref l), some (.int (0 + (n : Int))), v6, some (.ref pr), v8] /\ RowsB H H4 l ps (A ++ (List.range x).map fun (x : Nat) => (sgF Ss c).rows.map fun r => (r[x]?).join)) ⟨ps, v8, rfl, by rw [List.range_zero, List.map_nil, List.append_nil]; exact RB3⟩ ?_ ?_
    . rintro x σ H4 hx ⟨ps, v8, rfl, RB4⟩
      rw [Int.toNat_natCast] at hx
      have RA4 := RA.mono RB4.same
      have szp : (ps.map V.ref).length < sizeLine := by
        have := RB4.rat.len
        rw [List.length_append, List.length_map, List.length_range] at this
        rw [List.length_map]
        exact sl _ (by omega)
      have ex : (0 : Int) + (x : Int) = ((x : Nat) : Int) := by omega
      refine ⟨_, rfl, .inl ⟨rfl, _, SqL.of RB4.rat.lst⟩, _, rfl, pr, rfl, ⟨_, SqL.of RA4.lst⟩, ?_⟩
      refine z0f (n := (sgF Ss c).rows.length) (fun i σ zs H5 => ∃ v, σ = [v, some (.int (0 + (x : Int)))] /\ zs = (((sgF Ss c).rows.take i).map fun r => (r[x]?).join).map z0S /\ H5 = H4 /\ i <= (sgF Ss c).rows.length) ⟨none, rfl, rfl, rfl, Nat.zero_le _⟩ (Nat.le_of_lt (z0D (by omega))) ?_ ?_ ?_ ?_ ?_
      . rintro i σ zs H5 ⟨v, _, rfl, _, hi⟩
        rw [List.length_map, List.length_map, List.length_take]
        omega
      . rintro σ zs H5 ⟨v, _, _, rfl, _⟩
        exact ⟨_, SqL.of RA4.lst, by rw [List.length_map, hpl]; exact Nat.le_refl _⟩
      . rintro i σ zs H5 hi ⟨v, _, _, rfl, _⟩
        exact ⟨_, .ref (prs[i]'(by omega)), SqL.of RA4.lst, by rw [List.getElem?_map, List.getElem?_eq_getElem (by omega)]; rfl⟩
      . rintro i σ zs H5 y H' Z hi ⟨v, rfl, rfl, rfl, _⟩ ⟨rfl, hy⟩ hZ
        have e := hy _ (SqL.of RA4.lst)
        rw [List.getElem?_map, List.getElem?_eq_getElem (by omega)] at e
        cases e
        have gr := RA4.row i (prs[i]'(by omega)) ((sgF Ss c).rows[i]'hi) (List.getElem?_eq_getElem _) (List.getElem?_eq_getElem hi)
        have hrl := (R.row0 hi).1
        have hxl : x < ((sgF Ss c).rows[i]'hi).length := by omega
        have ac : atI (((sgF Ss c).rows[i]'hi).map z0S) (0 + (x : Int)) = some (z0S (((sgF Ss c).rows[i]'hi)[x]'hxl)) := by rw [ex]; exact z0d (by rw [List.getElem?_map, List.getElem?_eq_getElem hxl]; rfl)
        refine ⟨_, rfl, _, rfl, _, _, _, _, rfl, rfl, SqL.of gr, ac, ?_⟩
        refine hZ _ _ _ ⟨_, rfl, ?_, rfl, hi⟩
        rw [List.take_succ, List.getElem?_eq_getElem hi, List.map_append, List.map_append]
        show _ = _ ++ [z0S ((((sgF Ss c).rows[i]'hi)[x]?).join)]
        rw [List.getElem?_eq_getElem hxl]
        rfl
      rintro σ zs H5 ⟨v, rfl, rfl, rfl, _⟩ p np
      rw [List.take_length]
      obtain ⟨f1, f2, f3⟩ := RB4.fresh np
      have RB5 := RB4.put (o := .lst (((sgF Ss c).rows.map fun r => (r[x]?).join).map z0S)) f1 f2 f3
      have g5 : (upd H5 p (.lst (((sgF Ss c).rows.map fun r => (r[x]?).join).map z0S))) p = _ := upd_same
      generalize upd H5 p (.lst (((sgF Ss c).rows.map fun r => (r[x]?).join).map z0S)) = H6 at RB5 g5
      refine ⟨l, _, _, rfl, rfl, RB5.rat.lst, szp, ?_⟩
      refine ⟨ps ++ [p], _, rfl, ?_⟩
      have := RB5.push f1 f2 g5
      rw [List.append_assoc] at this
      rw [List.range_succ, List.map_append]
      exact this
    . rintro σ H4 ⟨ps, v8, rfl, RB4⟩
      rw [Int.toNat_natCast] at RB4
      exact ⟨ps, _, _, _, _, rfl, RB4⟩
  . rintro σ H2 ⟨ps, v5, v6, v7, v8, rfl, RB⟩
    rw [en] at RB
    walk_at "rs"
    exact q l ps H2 RB.same nl RB.rat
theorem z4X : FnScope ["self"] ["self"] (z02 z0x) := ⟨rfl, rfl, rfl, by decide +kernel, rfl, by decide +kernel, by decide +kernel⟩
theorem z4Y {f : Addr} {fd : FuncData}
    {c_Font : Addr} (Zo : Co K mg c_Font) (D : Fun K "height" "Font.height" z0x f fd) (B : Blt mg) :
    FnOk P w K mg base CX0 1 f fd ["self"] (z3C c_Font) := by
  refine D.ok z4X (fun vs H Q E h => ?_) (fun cdv A outer s H vs Q E hr h => ?_)
  . obtain ⟨x, Ss, hg, gap, rfl, _⟩ := h
    rfl
  obtain ⟨fo, Ss, hg, gap, rfl, FAt, q⟩ := h
  refine ⟨_, (z05 (z0I (z4g (pv 0) rfl))), ?_⟩
  obtain ⟨dx, d, fx, _⟩ := id FAt
  have lh : ([("pics", V.ref d), ("high", V.int hg), ("gap", V.int gap)] : List (Str × V)).lookup ("high" : Str) = some (V.int hg) := rfl
  walk_at "rs"
  exact ⟨fo, c_Font, dx, _, _, rfl, fx, Zo.k_Font, Zo.n_Font_high, lh, q⟩
theorem sc_checklines : FnScope ["font", "lines", "line"] ["font", "lines"] (z02 z0h) := ⟨rfl, rfl, rfl, by decide +kernel, rfl, by decide +kernel, by decide +kernel⟩
theorem z4Z {f : Addr} {fd : FuncData} (D : Df K mg "check_lines" z0h ["font", "lines"] f fd)
    {c_Font : Addr} (Zo : Co K mg c_Font)
    {c_GlowError c_NoFont c_NoSign : Addr} (Z : Cl K mg c_GlowError c_NoFont c_NoSign)
    (O_Fontpicsof : Om P w K mg base (CX2 P w) c_Font "pics_of" ["self", "text"] [] 3 (z3B c_Font c_NoSign)) (B : Blt mg) :
    Ow2 P w K mg base "check_lines" ["font", "lines"] 4 (z9L c_Font c_NoSign) := by
  refine D.ow2 (D.F.ok2 sc_checklines (fun vs H Q E h => ?_) (fun cdv A outer s H vs Q E hr h => ?_))
  . obtain ⟨f, l, zs, Ss, hg, gap, rfl, _⟩ := h
    rfl
  obtain ⟨fo, l, zs, Ss, hg, gap, rfl, FAt, FO, hl, hz, q1, q2⟩ := h
  refine ⟨_, (z05 (z16 PassesOwn.leaving rfl (z1h (pv 1)) (z0J (i := 2) sc_checklines.nd rfl (Or.inl rfl)) (z05 (z1L (zBo O_Fontpicsof hr z91 (pv 0) (z00 (pv 2) z03)))))), ?_⟩
  obtain ⟨dx, fs', fx, k1, k2, k3, k4⟩ := FAt.ins
  walk_at "rs"
  refine ⟨⟨_, SqL.of hl⟩, ?_⟩
  refine z32 (K := K) (a := l) (xs := zs.map V.str) (fun i σ H2 => Same H H2 /\ (∀ y ∈ zs.take i, firstBad Ss y.cps.toList 0 = none) /\ ∃ v2, σ = [some (.ref fo), some (.ref l), v2]) ⟨Same.refl _, (fun _ h => by simp at h), none, rfl⟩ (fun i σ H2 _ h => SqL.of (h.1 _ _ hl)) ?_ ?_
  . rintro i v σ H2 hi ⟨s2, hb, v2, rfl⟩
    have hil : i < zs.length := by
      have := (List.getElem?_eq_some_iff.mp hi).1
      rwa [List.length_map] at this
    rw [List.getElem?_map, List.getElem?_eq_getElem hil] at hi
    cases hi
    have hzi := hz _ (List.getElem_mem hil)
    walk_at "rs"
    refine ⟨fo, dx, _, rfl, s2 _ _ fx, k4, _, rfl, fo, zs[i], Ss, hg, gap, rfl, FAt.mono s2, FO, hzi.1, hzi.2, fun hn l' H3 s3 nl PO => ?_, fun c j d H3 hn s3 hd => ?_⟩
    . refine ⟨s2.trans s3, fun y hy => ?_, _, rfl⟩
      rw [List.take_succ, List.getElem?_eq_getElem hil] at hy
      rcases List.mem_append.mp hy with hy | hy
      . exact hb y hy
      . have e : y = zs[i] := by simpa using hy
        rw [e]
        exact hn
    . exact q2 c j d H3 (z2w hb (List.getElem?_eq_getElem hil) hn) (s2.trans s3) hd
  . rintro σ H2 ⟨s2, hb, v2, rfl⟩
    rw [List.length_map, List.take_length] at hb
    exact q1 (List.findSome?_eq_none_iff.mpr hb) H2 s2
theorem zAS : FnScope ["font", "lead", "at"] ["font", "lead", "at"] (z02 z2M) := ⟨rfl, rfl, rfl, by decide +kernel, rfl, by decide +kernel, by decide +kernel⟩
theorem zAT {f : Addr} {fd : FuncData} (D : Df K mg "top_of" z2M ["font", "lead", "at"] f fd)
    {c_Font : Addr} (Zo : Co K mg c_Font)
    (O_Fontheight : Om P w K mg base CX0 c_Font "height" ["self"] [] 1 (z3C c_Font)) (B : Blt mg) :
    Ow P w K mg base "top_of" ["font", "lead", "at"] 2 (z9M c_Font) := by
  refine D.ow (D.F.ok zAS (fun vs H Q E h => ?_) (fun cdv A outer s H vs Q E hr h => ?_))
  . obtain ⟨f, lead, at', Ss, hg, gap, rfl, _⟩ := h
    rfl
  obtain ⟨fo, lead, at', Ss, hg, gap, rfl, FAt, h2, l0, l1, a0, a1, q⟩ := h
  refine ⟨_, (z05 (z0I (z0H z1N (pv 2) (z0H z0O (zAv O_Fontheight hr z9m (pv 0)) (pv 1))))), ?_⟩
  obtain ⟨dx, fs', fx, k1, k2, k3, k4⟩ := FAt.ins
  walk_at "rs"
  refine ⟨fo, dx, _, rfl, fx, k2, fo, Ss, hg, gap, rfl, FAt, ?_⟩
  walk_at "rs"
  exact q
theorem sc_view : FnScope ["font", "lines", "lead", "x", "y", "wide", "high", "told", "at", "line", "top"] ["font", "lines", "lead", "x", "y", "wide", "high"] (z02 z3Y) := ⟨rfl, rfl, rfl, by decide +kernel, rfl, by decide +kernel, by decide +kernel⟩
theorem zC2 {f : Addr} {fd : FuncData} (D : Df K mg "view" z3Y ["font", "lines", "lead", "x", "y", "wide", "high"] f fd)
    {c_Font : Addr} (Zo : Co K mg c_Font)
    {c_GlowError c_NoFont c_NoSign : Addr} (Z : Cl K mg c_GlowError c_NoFont c_NoSign)
    (Od2_filled : Owd P w K mg base "filled" ["wide", "high", "cell"] [.non] 2 z2T)
    (O_laid : Ow P w K mg base "laid" ["under", "over", "x", "y"] 4 z8i)
    (O_checklines : Ow2 P w K mg base "check_lines" ["font", "lines"] 4 (z9L c_Font c_NoSign))
    (O_topof : Ow P w K mg base "top_of" ["font", "lead", "at"] 2 (z9M c_Font))
    (O_Fontheight : Om P w K mg base CX0 c_Font "height" ["self"] [] 1 (z3C c_Font))
    (O_Fontband : Om P w K mg base (CX2 P w) c_Font "band" ["self", "text", "x", "wide"] [] 5 (z9I c_Font c_NoSign)) (B : Blt mg) :
    Ow2 P w K mg base "view" ["font", "lines", "lead", "x", "y", "wide", "high"] 6 (z9N c_Font c_NoSign) := by
  refine D.ow2 (D.F.ok2 sc_view (fun vs H Q E h => ?_) (fun cdv A outer s H vs Q E hr h => ?_))
  . obtain ⟨f, l, zs, Ss, hg, gap, lead, x, y, w, h, rfl, _⟩ := h
    rfl
  obtain ⟨fo, l, zs, Ss, hg, gap, lead, x, y, wd, hh, rfl, FAt, FO, g1, g2, hl, hn, hz, l0, l1, w1, w2, h1, h2, q1, q2⟩ := h
  refine ⟨_, (z04 (z1L (z6m O_checklines hr z91 rfl (z00 (pv 0) (z00 (pv 1) z03))))
    (z04 (z0G (i := 7) sc_view.nd rfl (Or.inl rfl) (z4I Od2_filled hr rfl (z00 (pv 5) (z00 (pv 6) z03))))
    (z04 (z16 PassesOwn.leaving rfl (z5c rfl B.f_enumerate (z00 (pv 1) z03)) (z4c (n := 2) rfl (z0W (z0J (i := 8) sc_view.nd rfl (Or.inl rfl)) (z0W (z0J (i := 9) sc_view.nd rfl (Or.inl rfl)) z1x))) (z04 (z0G (i := 10) sc_view.nd rfl (Or.inl rfl) (z0H z6N (z0F O_topof hr rfl (z00 (pv 0) (z00 (pv 2) (z00 (pv 8) z03)))) (pv 4)))
    (z05 (z0b (z2R z47 z47 (z46 z3G (zAv O_Fontheight hr z9m (pv 0))) (pv 10) (pv 6)) (z05 (z0G (i := 7) sc_view.nd rfl (Or.inl rfl) (z0F O_laid hr rfl (z00 (pv 7) (z00 (zBo O_Fontband hr z91 (pv 0) (z00 (pv 9) (z00 (pv 3) (z00 (pv 5) z03)))) (z00 z01 (z00 (pv 10) z03))))))) z0M))))
    (z05 (z0I (pv 7)))))), ?_⟩
  obtain ⟨dx, fs', fx, k1, k2, k3, k4⟩ := FAt.ins
  walk_at "rs"
  refine ⟨fo, l, zs, Ss, hg, gap, rfl, FAt, FO, hl, hz, fun hb H1 s1 => ?_, q2⟩
  have hk := fun z hz' => z4T (z2F hb z hz')
  walk_at "rs"
  refine ⟨wd, hh, none, rfl, w1, w2, h1, h2, (fun _ e => nomatch e), fun p0 H2 s2 PC => ?_⟩
  rw [<- z9K Ss hg gap lead zs x y wd.toNat hh.toNat] at PC
  have t2 := s1.trans s2
  walk_at "rs"
  refine ⟨⟨_, SqL.of (t2 _ _ hl)⟩, ?_⟩
  refine z4D (K := K) (a := l) (xs := zs.map V.str) (fun i σ H3 => Same H H3 /\ i <= zs.length /\ ∃ p v8 v9 v10, σ = [some (.ref fo), some (.ref l), some (.int lead), some (.int x), some (.int y), some (.int wd), some (.int hh), some (.ref p), v8, v9, v10] /\ PicAt H3 p wd.toNat (z2n Ss hg gap lead zs x y wd.toNat hh.toNat i)) ⟨t2, Nat.zero_le _, p0, none, none, none, rfl, PC⟩ (fun i σ H3 _ h => SqL.of (h.1 _ _ hl)) ?_ ?_
  . rintro i v σ H3 T hi ⟨s3, _, p, v8, v9, v10, rfl, PC3⟩ nT
    have hil : i < zs.length := by
      have := (List.getElem?_eq_some_iff.mp hi).1
      rwa [List.length_map] at this
    rw [List.getElem?_map, List.getElem?_eq_getElem hil] at hi
    cases hi
    have hzi : zs[i]? = some zs[i] := List.getElem?_eq_getElem hil
    have hz1 := hz _ (List.getElem_mem hil)
    have sT : Same H3 (upd H3 T (.tup [.int i, .str zs[i]])) := Same.new nT
    have gT : (upd H3 T (.tup [.int i, .str zs[i]])) T = some (.tup [.int i, .str zs[i]]) := upd_same
    generalize upd H3 T (.tup [.int i, .str zs[i]]) = H4 at sT gT
    have t4 := s3.trans sT
    have PC4 := PC3.mono sT
    have ew : ((wd.toNat : Nat) : Int) = wd := by omega
    have eh : ((hh.toNat : Nat) : Int) = hh := by omega
    refine ⟨T, _, rfl, SqT.of gT, rfl, _, _, rfl, _, _, rfl, rfl, ?_⟩
    walk_at "rs"
    refine ⟨fo, lead, (i : Int), Ss, hg, gap, rfl, FAt.mono t4, g2, l0, l1, by omega, by omega, ?_⟩
    walk_at "rs"
    refine ⟨fo, dx, _, rfl, t4 _ _ fx, k2, fo, Ss, hg, gap, rfl, FAt.mono t4, ?_⟩
    walk_at "rs"
    refine z2g (fun c1 => ?_) (fun c1 => ?_)
    . walk_at "rs"
      refine z2g (fun c2 => ?_) (fun c2 => ?_)
      . walk_at "rs"
        refine ⟨fo, dx, _, rfl, t4 _ _ fx, k3, ?_⟩
        walk_at "rs"
        refine ⟨fo, zs[i], x, wd, Ss, hg, gap, rfl, FAt.mono t4, FO, g1, g2, hz1.1, hz1.2, w1, w2, fun hn pb H5 s5 PB => ?_, fun c j d H5 hn => ?_⟩
        . walk_at "rs"
          refine ⟨p, pb, 0, _, _, _, _, _, _, _, rfl, PC4.mono s5, z5H FO gap lead hk x y (by omega) (by omega) (by omega) (by omega) i, PB, z2d FO g1 g2 gap (hk _ (List.getElem_mem hil)) x (by omega) (by omega) _, fun p' H6 s6 PC6 => ?_⟩
          refine ⟨(t4.trans s5).trans s6, hil, p', _, _, _, rfl, ?_⟩
          have e := zAL FO g1 g2 gap lead hk x y (w := wd.toNat) (h := hh.toNat) (by omega) (by omega) (by omega) (by omega) hzi
          rw [<- e]
          exact PC6
        . rw [z2F hb _ (List.getElem_mem hil)] at hn
          cases hn
      . refine ⟨t4, hil, p, _, _, _, rfl, ?_⟩
        rw [z5I hzi (by omega)]
        exact PC4
    . refine ⟨_, rfl, z3m ?_⟩
      refine ⟨t4, hil, p, _, _, _, rfl, ?_⟩
      rw [z5I hzi (by omega)]
      exact PC4
  . rintro σ H3 ⟨s3, _, p, v8, v9, v10, rfl, PC3⟩
    rw [List.length_map] at PC3
    walk_at "rs"
    exact q1 hb p H3 s3 PC3
theorem sc_lawlines : FnScope ["_law_script", "_law_signs_here", "_law_sizes", "_law_many", "_law_lines_here", "_law_n"] ["_law_script", "_law_signs_here"] (z02 z0m) := ⟨rfl, rfl, rfl, by decide +kernel, rfl, by decide +kernel, by decide +kernel⟩
theorem z6H {f : Addr} {fd : FuncData} (D : Df K mg "_law_lines" z0m ["_law_script", "_law_signs_here"] f fd)
    (O_lawdraw : Ow P w K mg base "_law_draw" ["_law_script", "_law_k", "_law_prime", "_law_many"] 1 (z1k K))
    (O_lawtext : Ow P w K mg base "_law_text" ["_law_script", "_law_k", "_law_signs_here", "_law_size"] 2 (zAq K)) (B : Blt mg) :
    Ow P w K mg base "_law_lines" ["_law_script", "_law_signs_here"] 3 (z6u K) := by
  refine D.ow (D.F.ok sc_lawlines (fun vs H Q E h => ?_) (fun cdv A outer s H vs Q E hr h => ?_))
  . obtain ⟨a, l, ns, ts, Ss, hg, rfl, _⟩ := h
    rfl
  obtain ⟨a, l, ns, ts, Ss, hg, rfl, hS, SA, s1, s2, q⟩ := h
  refine ⟨_, (z22 (z0b (z0Q z2y (z0F O_lawdraw hr rfl (z00 (pv 0) (z00 z01 (z00 z01 (z00 z01 z03))))) z01 (z0R _)) (z05 (z2H (i := 2) (locs := ["_law_n"]) (ix := [0]) rfl sc_lawlines.nd rfl rfl (BlkSc.look (dsc := z02 z0m) (N := ["_law_script", "_law_signs_here", "_law_sizes", "_law_many", "_law_lines_here", "_law_n"]) rfl rfl (by decide +kernel)) (z0U rfl B.f_range (z00 z01 z03)) (fun _ _ _ _ _ _ => (z0J (i := 0) (by decide +kernel : (["_law_n", "_law_script"] : List Str).Nodup) rfl (Or.inl rfl))) (fun _ _ _ _ _ _ => z0e) (fun _ _ _ _ _ _ => (z0F O_lawdraw hr rfl (z00 (pv 1) (z00 (z0H z0O z01 (pv 0)) (z00 z01 (z00 z01 z03)))))) rfl)) (z04 (z0G (i := 3) sc_lawlines.nd rfl (Or.inl rfl) (z0F O_lawdraw hr rfl (z00 (pv 0) (z00 z01 (z00 z01 (z00 z01 z03))))))
    (z05 (z2H (i := 2) (locs := ["_law_n"]) (ix := [0]) rfl sc_lawlines.nd rfl rfl (BlkSc.look (dsc := z02 z0m) (N := ["_law_script", "_law_signs_here", "_law_sizes", "_law_many", "_law_lines_here", "_law_n"]) rfl rfl (by decide +kernel)) (z0U rfl B.f_range (z00 (pv 3) z03)) (fun _ _ _ _ _ _ => (z0J (i := 0) (by decide +kernel : (["_law_n", "_law_script"] : List Str).Nodup) rfl (Or.inl rfl))) (fun _ _ _ _ _ _ => z0e) (fun _ _ _ _ _ _ => (z0F O_lawdraw hr rfl (z00 (pv 1) (z00 (z0H z0O z01 (pv 0)) (z00 z01 (z00 z01 z03)))))) rfl))))
    (z04 (z0G (i := 4) sc_lawlines.nd rfl (Or.inl rfl) (z2C z03))
    (z04 (z16 PassesOwn.never rfl (z0U rfl B.f_range (z00 (z09 z0B rfl B.f_len boot_len (z00 (pv 2) z03)) z03)) (z0J (i := 5) sc_lawlines.nd rfl (Or.inl rfl)) (z05 (z1L (z3K PySem.F.plainAttrs_list PySem.F.slot_list_append PySem.F.type_list_append z18 (pv 4) (z00 (z0F O_lawtext hr rfl (z00 (pv 0) (z00 (z0H z0O z01 (z0H z1N z01 (pv 5))) (z00 (pv 1) (z00 (z0L z17 (pv 2) (pv 5) (fun _ _ => rfl)) z03))))) z03)))))
    (z05 (z0I (pv 4)))))), ?_⟩
  refine ⟨fun σ' H' => Same H H' /\ ∃ m ks v3, H m = none /\ H' m = some (.lst ((ks : List Int).map V.int)) /\ ks.length <= 60 /\ (∀ k ∈ ks, 0 <= k /\ k <= 9) /\ σ' = [some (.ref a), some (.ref l), some (.ref m), v3, none, none], ?_, ?_⟩
  . walk_at "rs"
    refine ⟨a, ns, 3, 10079, 8, rfl, hS, by decide, by decide, by decide, by decide, ?_⟩
    walk_at "rs"
    refine zCq (fun _ => ?_) (fun _ => ?_)
    . walk_at "rs"
      refine ⟨(z2N (by omega) (by omega)).1, (z2N (by omega) (by omega)).2, ?_⟩
      refine z0f (n := 60) (fun i σ ys H2 => ∃ v ks, σ = [v, some (.ref a)] /\ ys = (ks : List Int).map V.int /\ H2 = H /\ ks.length = i /\ ∀ k ∈ ks, 0 <= k /\ k <= 9) ⟨none, [], rfl, rfl, rfl, rfl, (fun _ h => nomatch h)⟩ (Nat.le_of_lt (z0D (by omega))) ?_ ?_ ?_ ?_ ?_
      . rintro i σ ys H2 ⟨v, ks, _, rfl, _, hi, _⟩
        rw [List.length_map, hi]
      . rintro σ ys H2 _
        exact Nat.le_refl _
      . intro i σ ys H2 hi _
        exact hi
      . rintro i σ ys H2 x H' Z hi ⟨v, ks, rfl, rfl, rfl, hc, hk⟩ ⟨rfl, rfl⟩ hZ
        walk_at "rs"
        refine ⟨a, ns, 40 + (0 + (i : Int)), 10091, 3, rfl, hS, by omega, by omega, by decide, by decide, ?_⟩
        have b := z0X (ns := ns) (k := 40 + (0 + (i : Int))) (p := 10091) (m := 3) (by decide)
        refine hZ _ _ _ ⟨_, ks ++ [_], rfl, by rw [List.map_append]; rfl, rfl, by rw [List.length_append, hc]; rfl, fun k h => ?_⟩
        rcases List.mem_append.mp h with h | h
        . exact hk k h
        . rw [List.mem_singleton.mp h]
          omega
      . rintro σ ys H2 ⟨v, ks, rfl, rfl, rfl, hc, hk⟩ m nm
        exact ⟨Same.new nm, m, ks, _, nm, upd_same, by omega, hk, rfl⟩
    . walk_at "rs"
      refine ⟨a, ns, 5, 10093, 7, rfl, hS, by decide, by decide, by decide, by decide, ?_⟩
      have b2 := z0X (ns := ns) (k := 5) (p := 10093) (m := 7) (by decide)
      generalize z1b ns 5 10093 7 = z2 at b2
      walk_at "rs"
      refine ⟨(z2N (by omega) (by omega)).1, (z2N (by omega) (by omega)).2, ?_⟩
      refine z0f (n := z2.toNat) (fun i σ ys H2 => ∃ v ks, σ = [v, some (.ref a)] /\ ys = (ks : List Int).map V.int /\ H2 = H /\ ks.length = i /\ ∀ k ∈ ks, 0 <= k /\ k <= 9) ⟨none, [], rfl, rfl, rfl, rfl, (fun _ h => nomatch h)⟩ (Nat.le_of_lt (z0D (by omega))) ?_ ?_ ?_ ?_ ?_
      . rintro i σ ys H2 ⟨v, ks, _, rfl, _, hi, _⟩
        rw [List.length_map, hi]
      . rintro σ ys H2 _
        exact Nat.le_refl _
      . intro i σ ys H2 hi _
        exact hi
      . rintro i σ ys H2 x H' Z hi ⟨v, ks, rfl, rfl, rfl, hc, hk⟩ ⟨rfl, rfl⟩ hZ
        walk_at "rs"
        refine ⟨a, ns, 40 + (0 + (i : Int)), 10099, 10, rfl, hS, by omega, by omega, by decide, by decide, ?_⟩
        have b := z0X (ns := ns) (k := 40 + (0 + (i : Int))) (p := 10099) (m := 10) (by decide)
        refine hZ _ _ _ ⟨_, ks ++ [_], rfl, by rw [List.map_append]; rfl, rfl, by rw [List.length_append, hc]; rfl, fun k h => ?_⟩
        rcases List.mem_append.mp h with h | h
        . exact hk k h
        . rw [List.mem_singleton.mp h]
          omega
      . rintro σ ys H2 ⟨v, ks, rfl, rfl, rfl, hc, hk⟩ m nm
        exact ⟨Same.new nm, m, ks, _, nm, upd_same, by omega, hk, rfl⟩
  rintro σ2 H2 ⟨s2, m, ks, v3, nm, gm, hk1, hk2, rfl⟩
  walk_at "rs"
  intro l' nl'
  have nl0 : H l' = none := s2.free nl'
  have hne : m ≠ l' := fun e => by
    rw [e, nl'] at gm
    cases gm
  have s3 : Same H (upd H2 l' (.lst [])) := s2.put nl0
  have gm3 : (upd H2 l' (.lst [])) m = some (.lst (ks.map V.int)) := (z07 hne).trans gm
  have gl3 : (upd H2 l' (.lst [])) l' = some (.lst (([] : List Str).map V.str)) := upd_same
  generalize upd H2 l' (.lst []) = H3 at s3 gm3 gl3
  walk_at "rs"
  refine ⟨m, _, rfl, .inl (SqL.of gm3), ?_⟩
  rw [List.length_map]
  refine ⟨_, rfl, (z2N (by omega) (by omega)).1, (z2N (by omega) (by omega)).2, ?_⟩
  refine z0p (n := ((ks.length : Int)).toNat) (fun i σ H4 => ∃ zs v5, σ = [some (.ref a), some (.ref l), some (.ref m), v3, some (.ref l'), v5] /\ Same H H4 /\ H4 m = some (.lst (ks.map V.int)) /\ H4 l' = some (.lst ((zs : List Str).map V.str)) /\ zs.length = i /\ ∀ z ∈ zs, z.length <= 10 /\ TextOf Ss z) ⟨[], none, rfl, s3, gm3, gl3, rfl, (fun _ h => nomatch h)⟩ ?_ ?_
  . rintro i σ H4 hi ⟨zs, v5, rfl, s4, gm4, gl4, hzl, hz⟩
    rw [Int.toNat_natCast] at hi
    have ei : (0 : Int) + (i : Int) = ((i : Nat) : Int) := by omega
    have hki := hk2 _ (List.getElem_mem hi)
    have ak : atI (ks.map V.int) (0 + (i : Int)) = some (.int ks[i]) := by rw [ei]; exact z0d (by rw [List.getElem?_map, List.getElem?_eq_getElem hi]; rfl)
    walk_at "rs"
    refine ⟨.inl ⟨rfl, _, SqL.of gl4⟩, ?_⟩
    walk_at "rs"
    refine ⟨m, _, _, _, rfl, rfl, SqL.of gm4, ak, ?_⟩
    refine ⟨a, l, ns, 200 + 11 * (0 + (i : Int)), ks[i], ts, Ss, hg, rfl, s4.seq hS, SA.mono s4, s1, by omega, by omega, hki.1, by omega, fun z H5 s5 hzl' hT => ?_⟩
    refine ⟨l', _, _, rfl, rfl, s5 _ _ gl4, by rw [List.length_map]; exact z0D (by omega), ?_⟩
    refine ⟨zs ++ [z], _, rfl, (s4.trans s5).put nl0, (z07 hne).trans (s5 _ _ gm4), ?_, by rw [List.length_append, hzl]; rfl, fun y hy => ?_⟩
    . rw [upd_same, List.map_append]
      rfl
    . rcases List.mem_append.mp hy with hy | hy
      . exact hz y hy
      . rw [List.mem_singleton.mp hy]
        exact ⟨by omega, hT⟩
  . rintro σ H4 ⟨zs, v5, rfl, s4, gm4, gl4, hzl, hz⟩
    rw [Int.toNat_natCast] at hzl
    walk_at "rs"
    exact q l' zs H4 s4 nl0 gl4 (by omega) hz
theorem z6I : FnScope ["_law_script", "_law_k", "_law_size"] ["_law_script", "_law_k", "_law_size"] (z02 z1G) := ⟨rfl, rfl, rfl, by decide +kernel, rfl, by decide +kernel, by decide +kernel⟩
theorem z6J {f : Addr} {fd : FuncData} (D : Df K mg "_law_begin" z1G ["_law_script", "_law_k", "_law_size"] f fd)
    (O_lawdraw : Ow P w K mg base "_law_draw" ["_law_script", "_law_k", "_law_prime", "_law_many"] 1 (z1k K))
    (O_lawgreat : Ow P w K mg base "_law_great" ["_law_script", "_law_k", "_law_many"] 1 (zAg K)) (B : Blt mg) :
    Ow P w K mg base "_law_begin" ["_law_script", "_law_k", "_law_size"] 2 (z6v K) := by
  refine D.ow (D.F.ok z6I (fun vs H Q E h => ?_) (fun cdv A outer s H vs Q E hr h => ?_))
  . obtain ⟨a, ns, k, n, rfl, _⟩ := h
    rfl
  obtain ⟨a, ns, k, n, rfl, hS, k0, k1, n0, n1, q⟩ := h
  refine ⟨_, (z04 (z0b (z0Q zB8 (z0F O_lawdraw hr rfl (z00 (pv 0) (z00 (pv 1) (z00 z01 (z00 z01 z03))))) z01 (z0R _)) (z05 (z0I (z0H z6N (z0F O_lawdraw hr rfl (z00 (pv 0) (z00 (pv 1) (z00 z01 (z00 (z0H z0O (pv 2) z01) z03))))) z01))) z0M)
    (z05 (z0I (z0H z6N (z0F O_lawgreat hr rfl (z00 (pv 0) (z00 (pv 1) (z00 (z0H z0O (z0H z1N z01 (z0H z6O z01 z01)) z01) z03)))) (z0H z6O z01 z01))))), ?_⟩
  walk_at "rs"
  refine ⟨a, ns, k, 10103, 4, rfl, hS, k0, by omega, by decide, by decide, ?_⟩
  walk_at "rs"
  refine z2g (fun _ => ?_) (fun _ => ?_)
  . walk_at "rs"
    refine ⟨a, ns, k, 10111, _, rfl, hS, k0, by omega, by decide, by omega, ?_⟩
    have b := z0X (ns := ns) (k := k) (p := 10111) (m := n + 13) (by omega)
    walk_at "rs"
    exact q _ (by omega) (by omega)
  . walk_at "rs"
    refine ⟨a, ns, k, _, rfl, hS, k0, by omega, by decide, fun r r0 r1 => ?_⟩
    have r1 : r < 2 * 1000000000 + 1 := r1
    walk_at "rs"
    refine q _ ?_ ?_
    . show -10000000000 <= r - 1000000000
      omega
    . show r - 1000000000 <= 10000000000
      omega
theorem sc_lawsides : FnScope ["_law_script", "_law_wide", "_law_high"] ["_law_script"] (z02 z1H) := ⟨rfl, rfl, rfl, by decide +kernel, rfl, by decide +kernel, by decide +kernel⟩
theorem z6K {f : Addr} {fd : FuncData} (D : Df K mg "_law_sides" z1H ["_law_script"] f fd)
    (O_lawdraw : Ow P w K mg base "_law_draw" ["_law_script", "_law_k", "_law_prime", "_law_many"] 1 (z1k K)) (B : Blt mg) :
    Ow P w K mg base "_law_sides" ["_law_script"] 2 (z6w K) := by
  refine D.ow (D.F.ok sc_lawsides (fun vs H Q E h => ?_) (fun cdv A outer s H vs Q E hr h => ?_))
  . obtain ⟨a, ns, rfl, _⟩ := h
    rfl
  obtain ⟨a, ns, rfl, hS, q⟩ := h
  refine ⟨_, (z04 (z0G (i := 1) sc_lawsides.nd rfl (Or.inl rfl) (z0H z0O z01 (z0F O_lawdraw hr rfl (z00 (pv 0) (z00 z01 (z00 z01 (z00 z01 z03)))))))
    (z04 (z0G (i := 2) sc_lawsides.nd rfl (Or.inl rfl) (z0H z0O z01 (z0F O_lawdraw hr rfl (z00 (pv 0) (z00 z01 (z00 z01 (z00 z01 z03)))))))
    (z22 (z0b (z0Q z2y (z0F O_lawdraw hr rfl (z00 (pv 0) (z00 z01 (z00 z01 (z00 z01 z03))))) z01 (z0R _)) (z05 (z0G (i := 1) sc_lawsides.nd rfl (Or.inl rfl) z01)) z0M)
    (z22 (z0b (z0Q z2y (z0F O_lawdraw hr rfl (z00 (pv 0) (z00 z01 (z00 z01 (z00 z01 z03))))) z01 (z0R _)) (z05 (z0G (i := 2) sc_lawsides.nd rfl (Or.inl rfl) z01)) z0M)
    (z05 (z0I (z1S (z00 (pv 1) (z00 (pv 2) z03))))))))), ?_⟩
  walk_at "rs"
  refine ⟨a, ns, 7, 10133, 8, rfl, hS, by decide, by decide, by decide, by decide, ?_⟩
  have b1 := z0X (ns := ns) (k := 7) (p := 10133) (m := 8) (by decide)
  generalize z1b ns 7 10133 8 = z1 at b1
  walk_at "rs"
  refine ⟨a, ns, 9, 10139, 8, rfl, hS, by decide, by decide, by decide, by decide, ?_⟩
  have b2 := z0X (ns := ns) (k := 9) (p := 10139) (m := 8) (by decide)
  generalize z1b ns 9 10139 8 = z2 at b2
  walk_at "rs"
  refine ⟨fun σ' H' => H' = H /\ ∃ w : Int, 1 <= w /\ w <= 64 /\ σ' = [some (.ref a), some (.int w), some (.int (1 + z2))], ?_, ?_⟩
  . walk_at "rs"
    refine ⟨a, ns, 11, 10141, 8, rfl, hS, by decide, by decide, by decide, by decide, ?_⟩
    walk_at "rs"
    refine zCq (fun _ => ?_) (fun _ => ?_)
    . exact ⟨rfl, 64, by decide, by decide, rfl⟩
    . exact ⟨rfl, 1 + z1, by omega, by omega, rfl⟩
  rintro σ2 H2 ⟨rfl, w, w1, w2, rfl⟩
  refine ⟨fun σ' H' => H' = H2 /\ ∃ h : Int, 1 <= h /\ h <= 64 /\ σ' = [some (.ref a), some (.int w), some (.int h)], ?_, ?_⟩
  . walk_at "rs"
    refine ⟨a, ns, 11, 10141, 8, rfl, hS, by decide, by decide, by decide, by decide, ?_⟩
    walk_at "rs"
    refine zCq (fun _ => ?_) (fun _ => ?_)
    . exact ⟨rfl, 64, by decide, by decide, rfl⟩
    . exact ⟨rfl, 1 + z2, by omega, by omega, rfl⟩
  rintro σ3 H3 ⟨rfl, h, h1, h2, rfl⟩
  walk_at "rs"
  intro t nt
  exact q w h t _ w1 w2 h1 h2 (Same.new nt) upd_same
theorem sc_lawdue : FnScope ["_law_lines_here", "_law_sizes", "_law_spot", "_law_sides_here", "_law_rows_here", "_law_j", "_law_at", "_law_y", "_law_row", "_law_x", "_law_cell"] ["_law_lines_here", "_law_sizes", "_law_spot", "_law_sides_here"] (z02 z1s) := ⟨rfl, rfl, rfl, by decide +kernel, rfl, by decide +kernel, by decide +kernel⟩
theorem z9Y {f : Addr} {fd : FuncData} (D : Df K mg "_law_due" z1s ["_law_lines_here", "_law_sizes", "_law_spot", "_law_sides_here"] f fd)
    (O_lawbits : Ow P w K mg base "_law_bits" ["_law_rows_here"] 1 z4H) (B : Blt mg) :
    Ow P w K mg base "_law_due" ["_law_lines_here", "_law_sizes", "_law_spot", "_law_sides_here"] 2 zB2 := by
  refine D.ow (D.F.ok sc_lawdue (fun vs H Q E h => ?_) (fun cdv A outer s H vs Q E hr h => ?_))
  . obtain ⟨l, s, p, d, cl, hg, lead, x, y, w, h, rfl, _⟩ := h
    rfl
  obtain ⟨l, sz, sp, sd, cl, hg, lead, x, y, wd, hh, rfl, CA, hcl, gs, gp, gd, g1, g2, l0, l1, w1, w2, h1, h2, x1, x2, y1, y2, q⟩ := h
  refine ⟨_, (z04 (z0G (i := 4) sc_lawdue.nd rfl (Or.inl rfl) (z2C z03))
    (z04 (z16 PassesOwn.never rfl (z0U rfl B.f_range (z00 (z0L z0K (pv 3) z01 (fun _ _ => rfl)) z03)) (z0J (i := 5) sc_lawdue.nd rfl (Or.inl rfl)) (z04 (z0G (i := 6) sc_lawdue.nd rfl (Or.inl rfl) (z0H zB7 (z0H z0O (z0L z0K (pv 2) z01 (fun _ _ => rfl)) (pv 5)) (z0H z0O (z0L z0K (pv 1) z01 (fun _ _ => rfl)) (z0L z0K (pv 1) z01 (fun _ _ => rfl)))))
    (z04 (z0G (i := 7) sc_lawdue.nd rfl (Or.inl rfl) (z0H z2t (z0H z0O (z0L z0K (pv 2) z01 (fun _ _ => rfl)) (pv 5)) (z0H z0O (z0L z0K (pv 1) z01 (fun _ _ => rfl)) (z0L z0K (pv 1) z01 (fun _ _ => rfl)))))
    (z04 (z0G (i := 8) sc_lawdue.nd rfl (Or.inl rfl) (z2C z03))
    (z04 (z16 PassesOwn.never rfl (z7p rfl B.f_range (z00 (z0L z0K (pv 2) z01 (fun _ _ => rfl)) (z00 (z0H z0O (z0L z0K (pv 2) z01 (fun _ _ => rfl)) (z0L z0K (pv 3) z01 (fun _ _ => rfl))) z03))) (z0J (i := 9) sc_lawdue.nd rfl (Or.inl rfl)) (z04 (z0G (i := 10) sc_lawdue.nd rfl (Or.inl rfl) z2p)
    (z04 (z0b (PW.pt (zAU (z2R z4e z47 z01 (pv 6) (z09 z0B rfl B.f_len boot_len (z00 (pv 0) z03))) (zAU (z0Q z47 (pv 7) (z0L z0K (pv 1) z01 (fun _ _ => rfl)) (z0R _)) (zB6 (z2R z4e z47 z01 (pv 9) (z09 z0B rfl B.f_len boot_len (z00 (z0L z17 (pv 0) (pv 6) (fun _ _ => rfl)) z03))))))) (z05 (z0G (i := 10) sc_lawdue.nd rfl (Or.inl rfl) (z0L z17 (z0L z17 (z0L z17 (pv 0) (pv 6) (fun _ _ => rfl)) (pv 9) (fun _ _ => rfl)) (pv 7) (fun _ _ => rfl)))) z0M)
    (z05 (z1L (z3K PySem.F.plainAttrs_list PySem.F.slot_list_append PySem.F.type_list_append z18 (pv 8) (z00 (pv 10) z03)))))))
    (z05 (z1L (z3K PySem.F.plainAttrs_list PySem.F.slot_list_append PySem.F.type_list_append z18 (pv 4) (z00 (pv 8) z03)))))))))
    (z05 (z0I (z0F O_lawbits hr rfl (z00 (pv 4) z03)))))), ?_⟩
  obtain ⟨qs, hql, gl, hqs⟩ := CA.lst
  have hp : (0 : Int) < hg + lead := by omega
  have ew : ((wd.toNat : Nat) : Int) = wd := by omega
  walk_at "rs"
  intro l' nl
  walk_at "rs"
  refine ⟨sd, _, 1, _, rfl, rfl, SqT.of ((Same.new nl) _ _ gd), rfl, ?_⟩
  refine ⟨_, rfl, (z2N (by omega) (by omega)).1, (z2N (by omega) (by omega)).2, ?_⟩
  refine z0p (n := hh.toNat) (fun j σ H2 => ∃ ps v5 v6 v7 v8 v9 v10, σ = [some (.ref l), some (.ref sz), some (.ref sp), some (.ref sd), some (.ref l'), v5, v6, v7, v8, v9, v10] /\ RowsB H H2 l' ps (z1M wd.toNat j fun i j => z1m hg lead cl (x + (i : Int)) (y + (j : Int)))) ⟨[], none, none, none, none, none, none, rfl, z5e (Same.refl _) nl⟩ ?_ ?_
  . rintro j σ H2 hj ⟨ps, v5, v6, v7, v8, v9, v10, rfl, RB⟩
    have gp2 := RB.same _ _ gp
    have gs2 := RB.same _ _ gs
    have gd2 := RB.same _ _ gd
    walk_at "rs"
    refine ⟨sp, _, 1, _, rfl, rfl, SqT.of gp2, rfl, ?_⟩
    walk_at "rs"
    refine ⟨sz, _, 0, _, rfl, rfl, SqT.of gs2, rfl, ?_⟩
    walk_at "rs"
    refine ⟨sz, _, 1, _, rfl, rfl, SqT.of gs2, rfl, ?_⟩
    walk_at "rs"
    refine ⟨sp, _, 1, _, rfl, rfl, SqT.of gp2, rfl, ?_⟩
    walk_at "rs"
    refine ⟨sz, _, 0, _, rfl, rfl, SqT.of gs2, rfl, ?_⟩
    walk_at "rs"
    refine ⟨sz, _, 1, _, rfl, rfl, SqT.of gs2, rfl, ?_⟩
    walk_at "rs"
    intro p np
    obtain ⟨np0, npl, npp⟩ := RB.fresh np
    have RB1 := RB.put (o := .lst []) np0 npl npp
    have g1' : (upd H2 p (.lst [])) p = some (.lst []) := upd_same
    generalize upd H2 p (.lst []) = H3 at RB1 g1'
    walk_at "rs"
    refine ⟨sp, _, 0, _, rfl, rfl, SqT.of (RB1.same _ _ gp), rfl, ?_⟩
    walk_at "rs"
    refine ⟨sp, _, 0, _, rfl, rfl, SqT.of (RB1.same _ _ gp), rfl, ?_⟩
    walk_at "rs"
    refine ⟨sd, _, 0, _, rfl, rfl, SqT.of (RB1.same _ _ gd), rfl, ?_⟩
    walk_at "rs"
    have b62 : (100000000000 : Int) < 2 ^ 62 := by decide
    refine ⟨x, x + wd, rfl, ⟨by omega, by omega, by omega, by omega⟩, ?_⟩
    have eW : (x + wd - x).toNat = wd.toNat := by omega
    rw [eW]
    have e0 : y + (0 + (j : Int)) = y + (j : Int) := by omega
    refine z0p (lo := x) (n := wd.toNat) (fun i σ H4 => ∃ v9 v10, σ = [some (.ref l), some (.ref sz), some (.ref sp), some (.ref sd), some (.ref l'), some (.int (0 + (j : Int))), some (.int ((y + (0 + (j : Int))) / ((hg : Int) + lead))), some (.int ((y + (0 + (j : Int))) % ((hg : Int) + lead))), some (.ref p), v9, v10] /\ RowsB H H4 l' ps (z1M wd.toNat j fun i j => z1m hg lead cl (x + (i : Int)) (y + (j : Int))) /\ H4 p = some (.lst (((List.range i).map fun (i : Nat) => z1m hg lead cl (x + (i : Int)) (y + (j : Int))).map z0S))) ⟨v9, v10, rfl, RB1, g1'⟩ ?_ ?_
    . rintro i σ H4 hi ⟨v9, v10, rfl, RB4, g4⟩
      rw [e0]
      have sz4 : (((List.range i).map fun (i : Nat) => z1m hg lead cl (x + (i : Int)) (y + (j : Int))).map z0S).length < sizeLine := by
        rw [List.length_map, List.length_map, List.length_range]
        exact z0D (by omega)
      have fin : ∀ c, c = z1m hg lead cl (x + (i : Int)) (y + (j : Int)) -> ((List.range i).map fun (i : Nat) => z1m hg lead cl (x + (i : Int)) (y + (j : Int))).map z0S ++ [z0S c] = ((List.range (i + 1)).map fun (i : Nat) => z1m hg lead cl (x + (i : Int)) (y + (j : Int))).map z0S := fun c hc => by
        rw [hc, List.range_succ, List.map_append, List.map_append]
        rfl
      have m0 := Int.emod_nonneg (y + (j : Int)) (show (hg : Int) + lead ≠ 0 by omega)
      have edc : z1m hg lead cl (x + (i : Int)) (y + (j : Int)) = if 0 <= (y + (j : Int)) / (hg + lead) /\ (y + (j : Int)) / (hg + lead) < cl.length /\ (y + (j : Int)) % (hg + lead) < hg then z1f (cl.getD ((y + (j : Int)) / (hg + lead)).toNat []) (x + (i : Int)) ((y + (j : Int)) % (hg + lead)).toNat else none := rfl
      generalize (y + (j : Int)) / ((hg : Int) + lead) = at' at edc ⊢
      generalize (y + (j : Int)) % ((hg : Int) + lead) = yy at edc m0 ⊢
      have gl4 := RB4.same _ _ gl
      have gs4 := RB4.same _ _ gs
      walk_at "rs"
      refine z2g (fun c1 => ?_) (fun c1 => ?_)
      . refine ⟨_, rfl, l, _, rfl, .inl (SqL.of gl4), ?_⟩
        rw [List.length_map, hql]
        walk_at "rs"
        refine z2g (fun c2 => ?_) (fun c2 => ?_)
        . walk_at "rs"
          refine ⟨sz, _, 0, _, rfl, rfl, SqT.of gs4, rfl, ?_⟩
          walk_at "rs"
          refine z2g (fun c3 => ?_) (fun c3 => ?_)
          . have hn : at'.toNat < cl.length := by omega
            have hnq : at'.toNat < qs.length := by omega
            obtain ⟨psq, RQ⟩ := hqs at'.toNat _ _ (List.getElem?_eq_getElem hnq) (List.getElem?_eq_getElem hn)
            obtain ⟨CO, hcl2⟩ := CA.ok _ (List.getElem_mem hn)
            have RQ4 := RQ.mono RB4.same
            have ea : at' = ((at'.toNat : Nat) : Int) := by omega
            have aq : atI (qs.map V.ref) at' = some (.ref qs[at'.toNat]) := by
              have h := z0d (xs := qs.map V.ref) (j := at'.toNat) (v := .ref qs[at'.toNat]) (by rw [List.getElem?_map, List.getElem?_eq_getElem hnq]; rfl)
              rw [<- ea] at h
              exact h
            have edc2 : z1m hg lead cl (x + (i : Int)) (y + (j : Int)) = z1f cl[at'.toNat] (x + (i : Int)) yy.toNat := by
              rw [edc, if_pos ⟨c1, c2, c3⟩, List.getD_eq_getElem?_getD, List.getElem?_eq_getElem hn]
              rfl
            clear edc
            generalize cl[at'.toNat] = cc at RQ4 CO hcl2 edc2
            generalize qs[at'.toNat] = qq at RQ4 aq
            have hpl := RQ4.len
            walk_at "rs"
            refine z2g (fun c4 => ?_) (fun c4 => ?_)
            . walk_at "rs"
              refine ⟨l, _, _, _, rfl, rfl, SqL.of gl4, aq, qq, _, rfl, .inl (SqL.of RQ4.lst), ?_⟩
              rw [List.length_map, hpl]
              walk_at "rs"
              refine z2g (fun c5 => ?_) (fun c5 => ?_)
              . have hx : (x + (i : Int)).toNat < cc.length := by omega
                obtain ⟨pr, epr, gpr⟩ := RQ4.at hx
                have hcl3 := (CO _ (List.getElem_mem hx)).1
                have e1 : x + (i : Int) = (((x + (i : Int)).toNat : Nat) : Int) := by omega
                have e2 : yy = ((yy.toNat : Nat) : Int) := by omega
                have ar : atI (psq.map V.ref) (x + (i : Int)) = some (.ref pr) := by
                  rw [e1]
                  exact z0d (by rw [List.getElem?_map, epr]; rfl)
                have hyl : yy.toNat < (cc[(x + (i : Int)).toNat]'hx).length := by omega
                have ac : atI ((cc[(x + (i : Int)).toNat]'hx).map z0S) yy = some (z0S ((cc[(x + (i : Int)).toNat]'hx)[yy.toNat]'hyl)) := by
                  have h := z0d (xs := (cc[(x + (i : Int)).toNat]'hx).map z0S) (j := yy.toNat) (v := z0S ((cc[(x + (i : Int)).toNat]'hx)[yy.toNat]'hyl)) (by rw [List.getElem?_map, List.getElem?_eq_getElem hyl]; rfl)
                  rw [<- e2] at h
                  exact h
                have el : (cc[(x + (i : Int)).toNat]'hx)[yy.toNat]'hyl = z1m hg lead cl (x + (i : Int)) (y + (j : Int)) := by
                  rw [edc2]
                  unfold z1f
                  rw [if_pos c4, List.getElem?_eq_getElem hx]
                  show _ = ((cc[(x + (i : Int)).toNat]'hx)[yy.toNat]?).join
                  rw [List.getElem?_eq_getElem hyl]
                  rfl
                walk_at "rs"
                refine ⟨l, _, _, _, rfl, rfl, SqL.of gl4, aq, ?_⟩
                walk_at "rs"
                refine ⟨qq, _, _, _, rfl, rfl, SqL.of RQ4.lst, ar, ?_⟩
                walk_at "rs"
                refine ⟨pr, _, _, _, rfl, rfl, SqL.of gpr, ac, ?_⟩
                refine ⟨_, rfl, .inl ⟨rfl, _, SqL.of g4⟩, _, rfl, p, _, _, rfl, rfl, g4, sz4, ?_⟩
                exact ⟨_, _, rfl, RB4.put np0 npl npp, by rw [upd_same]; exact congrArg (fun z => some (HO.lst z)) (fin _ el)⟩
              . refine ⟨_, rfl, .inl ⟨rfl, _, SqL.of g4⟩, _, rfl, p, _, _, rfl, rfl, g4, sz4, ?_⟩
                exact ⟨_, _, rfl, RB4.put np0 npl npp, by rw [upd_same]; exact congrArg (fun z => some (HO.lst z)) (fin none (show z1m hg lead cl (x + (i : Int)) (y + (j : Int)) = none from by rw [edc2]; exact z29 (by omega)).symm)⟩
            . refine ⟨_, rfl, ?_⟩
              refine z3m ?_
              refine ⟨_, rfl, .inl ⟨rfl, _, SqL.of g4⟩, _, rfl, p, _, _, rfl, rfl, g4, sz4, ?_⟩
              exact ⟨_, _, rfl, RB4.put np0 npl npp, by rw [upd_same]; exact congrArg (fun z => some (HO.lst z)) (fin none (show z1m hg lead cl (x + (i : Int)) (y + (j : Int)) = none from by rw [edc2]; exact z5E (by omega)).symm)⟩
          . refine z3m ?_
            refine ⟨_, rfl, .inl ⟨rfl, _, SqL.of g4⟩, _, rfl, p, _, _, rfl, rfl, g4, sz4, ?_⟩
            exact ⟨_, _, rfl, RB4.put np0 npl npp, by rw [upd_same]; exact congrArg (fun z => some (HO.lst z)) (fin none (show z1m hg lead cl (x + (i : Int)) (y + (j : Int)) = none from by rw [edc, if_neg (by omega)]).symm)⟩
        . refine z3m ?_
          refine ⟨_, rfl, .inl ⟨rfl, _, SqL.of g4⟩, _, rfl, p, _, _, rfl, rfl, g4, sz4, ?_⟩
          exact ⟨_, _, rfl, RB4.put np0 npl npp, by rw [upd_same]; exact congrArg (fun z => some (HO.lst z)) (fin none (show z1m hg lead cl (x + (i : Int)) (y + (j : Int)) = none from by rw [edc, if_neg (by omega)]).symm)⟩
      . refine ⟨_, rfl, z3m ?_⟩
        refine z3m ?_
        refine ⟨_, rfl, .inl ⟨rfl, _, SqL.of g4⟩, _, rfl, p, _, _, rfl, rfl, g4, sz4, ?_⟩
        exact ⟨_, _, rfl, RB4.put np0 npl npp, by rw [upd_same]; exact congrArg (fun z => some (HO.lst z)) (fin none (show z1m hg lead cl (x + (i : Int)) (y + (j : Int)) = none from by rw [edc, if_neg (by omega)]).symm)⟩
    . rintro σ H4 ⟨v9, v10, rfl, RB4, g4⟩
      have szp : (ps.map V.ref).length < sizeLine := by
        rw [List.length_map]
        have := RB4.rat.len
        rw [z6a] at this
        exact z0D (by omega)
      refine ⟨_, rfl, .inl ⟨rfl, _, SqL.of RB4.rat.lst⟩, _, rfl, l', _, _, rfl, rfl, RB4.rat.lst, szp, ?_⟩
      refine ⟨ps ++ [p], _, _, _, _, _, _, rfl, ?_⟩
      rw [z8b]
      exact RB4.push np0 npl g4
  . rintro σ H2 ⟨ps, v5, v6, v7, v8, v9, v10, rfl, RB⟩
    have RD : Rect wd.toNat hh.toNat (zCh hg lead cl x y wd.toNat hh.toNat) := z23 (by omega) (by omega) (by omega) (by omega) fun _ _ => z42 (fun c hc => (CA.ok c hc).1) _ _ _
    refine ⟨_, rfl, l', ps, _, _, _, rfl, RB.rat, RD, fun d H3 s3 PD => ?_⟩
    exact q d H3 (RB.same.trans s3) PD
theorem sc_lawrefused : FnScope ["_law_font", "_law_lines_here", "_law_lead", "_law_spot", "_law_sides_here", "_law_due_here", "_law_told", "e"] ["_law_font", "_law_lines_here", "_law_lead", "_law_spot", "_law_sides_here", "_law_due_here"] (z02 z0j) := ⟨rfl, rfl, rfl, by decide +kernel, rfl, by decide +kernel, by decide +kernel⟩
theorem z4a {f : Addr} {fd : FuncData} (D : Df K mg "_law_refused" z0j ["_law_font", "_law_lines_here", "_law_lead", "_law_spot", "_law_sides_here", "_law_due_here"] f fd)
    {c_Font : Addr} (Zo : Co K mg c_Font)
    {c_GlowError c_NoFont c_NoSign : Addr} (Z : Cl K mg c_GlowError c_NoFont c_NoSign)
    (O_view : Ow2 P w K mg base "view" ["font", "lines", "lead", "x", "y", "wide", "high"] 6 (z9N c_Font c_NoSign)) (B : Blt mg) :
    Ow P w K mg base "_law_refused" ["_law_font", "_law_lines_here", "_law_lead", "_law_spot", "_law_sides_here", "_law_due_here"] 7 (z43 c_Font) := by
  refine D.ow (D.F.ok sc_lawrefused (fun vs H Q E h => ?_) (fun cdv A outer s H vs Q E hr h => ?_))
  . obtain ⟨f, l, p, d, t, zs, Ss, hg, gap, lead, x, y, w, h, c, i, rfl, _⟩ := h
    rfl
  obtain ⟨fo, l, p, d, t, zs, Ss, hg, gap, lead, x, y, wd, hh, c, i, rfl, FAt, FO, g1, g2, hl, hn, hz, l0, l1, gp, gd, w1, w2, h1, h2, hb, ht, q⟩ := h
  refine ⟨_, (z04 (z0G (i := 6) sc_lawrefused.nd rfl (Or.inl rfl) z2p)
    (z04 (zBm (i := 7) (zA9 O_view hr rfl (z00 (pv 0) (z00 (pv 1) (z00 (pv 2) (z00 (z0L z0K (pv 3) z01 (fun _ _ => rfl)) (z00 (z0L z0K (pv 3) z01 (fun _ _ => rfl)) (z00 (z0L z0K (pv 4) z01 (fun _ _ => rfl)) (z00 (z0L z0K (pv 4) z01 (fun _ _ => rfl)) z03)))))))) rfl rfl rfl ⟨Z.m_GlowError, Z.x_GlowError⟩ sc_lawrefused.nd rfl rfl (fun _ => (z05 (z0b (z0o (z09 z7L rfl B.f_isinstance boot_isinstance (z00 (pv 7) (z00 (zB5 (v := .ref _) rfl Z.m_NoSign rfl) z03)))) (z05 (z0G (i := 6) sc_lawrefused.nd rfl (Or.inl rfl) (z1S (z00 (z6n (pv 7) rfl) (z00 (z6n (pv 7) rfl) z03))))) z0M))))
    (z05 (z0I (z2s (z1i z48 (pv 6) z2p (z0R _)) (z2r (z1i (zBv (z78 hr)) (pv 6) (pv 5) (z0R _)))))))), ?_⟩
  have kt := Z.kt 1 (by decide)
  have k1 := kt.one 1 (Nat.lt_of_sub_eq_succ rfl)
  walk_at "rs"
  refine ⟨fun Cv d H2 => ∃ d', Cv = .ref c_NoSign /\ d = some d' /\ Same H H2 /\ H2 d' = some (.ext (z3W d' [("at", .int (i : Nat)), ("sign", .str (one c))])), ?_, ?_⟩
  . walk_at "rs"
    refine ⟨p, _, 0, _, rfl, rfl, SqT.of gp, rfl, ?_⟩
    walk_at "rs"
    refine ⟨p, _, 1, _, rfl, rfl, SqT.of gp, rfl, ?_⟩
    walk_at "rs"
    refine ⟨d, _, 0, _, rfl, rfl, SqT.of gd, rfl, ?_⟩
    walk_at "rs"
    refine ⟨d, _, 1, _, rfl, rfl, SqT.of gd, rfl, ?_⟩
    refine ⟨fo, l, zs, Ss, hg, gap, lead, x, y, wd, hh, rfl, FAt, FO, g1, g2, hl, hn, hz, l0, l1, w1, w2, h1, h2, fun hn => ?_, fun c' i' d H2 hb' s2 hd => ?_⟩
    . rw [hb] at hn
      cases hn
    . rw [hb] at hb'
      cases hb'
      exact ⟨d, rfl, rfl, s2, hd⟩
  . rintro Cv d H2 ⟨d', rfl, rfl, s2, hd⟩
    refine ⟨c_NoSign, rfl, Z.x_NoSign, Z.ab _ (by simp), fun a na => ?_⟩
    obtain ⟨s3, hE⟩ := z7K (C := c_NoSign) na hd
    generalize upd H2 a (.ext (z7G a c_NoSign (some d'))) = H3 at s3 hE
    refine ⟨_, rfl, a, _, _, _, _, _, rfl, hE, Z.x_NoSign, rfl, k1, _, rfl, z8E rfl ?_⟩
    refine ⟨_, rfl, a, c_NoSign, _, _, rfl, hE, Z.x_NoSign, Z.f_NoSign_sign, rfl, _, rfl, a, c_NoSign, _, _, rfl, hE, Z.x_NoSign, Z.f_NoSign_at, rfl, szV (by simp), fun t' nt => ?_⟩
    have s4 : Same H (upd H3 t' (.tup [.str (one c), .int (i : Nat)])) := (s2.trans s3).trans (Same.new nt)
    have g4 : (upd H3 t' (.tup [.str (one c), .int (i : Nat)])) t' = some (.tup [.str (one c), .int (i : Nat)]) := upd_same
    have ht4 := s4 _ _ ht
    generalize upd H3 t' (.tup [.str (one c), .int (i : Nat)]) = H4 at s4 g4 ht4
    refine ⟨_, rfl, rfl, _, rfl, z8E rfl ?_⟩
    refine ⟨_, rfl, _, rfl, t', t, _, _, _, _, rfl, rfl, SqT.of g4, SqT.of ht4, ?_⟩
    have e : ((one c == one c) && (((i : Nat) : Int) == ((i : Nat) : Int))) = true := by simp
    show Q (V.bl ((one c == one c) && (((i : Nat) : Int) == ((i : Nat) : Int)))) H4
    rw [e]
    exact q H4 s4
theorem sc_lawnosign : FnScope ["_law_script", "_law_font", "_law_signs_here", "_law_lines_here", "_law_lead", "_law_spot", "_law_sides_here", "_law_sign_here", "_law_bad", "_law_k", "_law_n", "_law_at", "_law_line", "_law_due_here"] ["_law_script", "_law_font", "_law_signs_here", "_law_lines_here", "_law_lead", "_law_spot", "_law_sides_here"] (z02 z0v) := ⟨rfl, rfl, rfl, by decide +kernel, rfl, by decide +kernel, by decide +kernel⟩
theorem z5U {f : Addr} {fd : FuncData} (D : Df K mg "_law_no_sign" z0v ["_law_script", "_law_font", "_law_signs_here", "_law_lines_here", "_law_lead", "_law_spot", "_law_sides_here"] f fd)
    {c_Font : Addr} (Zo : Co K mg c_Font)
    {c_GlowError c_NoFont c_NoSign : Addr} (Z : Cl K mg c_GlowError c_NoFont c_NoSign)
    (O_lawdraw : Ow P w K mg base "_law_draw" ["_law_script", "_law_k", "_law_prime", "_law_many"] 1 (z1k K))
    (O_lawsign : Ow P w K mg base "_law_sign" ["_law_number"] 1 z8m)
    (O_lawrefused : Ow P w K mg base "_law_refused" ["_law_font", "_law_lines_here", "_law_lead", "_law_spot", "_law_sides_here", "_law_due_here"] 7 (z43 c_Font)) (B : Blt mg) :
    Ow P w K mg base "_law_no_sign" ["_law_script", "_law_font", "_law_signs_here", "_law_lines_here", "_law_lead", "_law_spot", "_law_sides_here"] 8 (z5K K c_Font) := by
  refine D.ow (D.F.ok sc_lawnosign (fun vs H Q E h => ?_) (fun cdv A outer s H vs Q E hr h => ?_))
  . obtain ⟨a, f, m, l, p, d, ns, ts, zs, Ss, hg, gap, lead, x, y, w, h, rfl, _⟩ := h
    rfl
  obtain ⟨a, fo, m, l, p, d, ns, ts, zs, Ss, hg, gap, lead, x, y, wd, hh, rfl, hS, SA, FAt, FO, g1, g2, hSl, hl, hn, hz, l0, l1, gp, gd, w1, w2, h1, h2, hc, q⟩ := h
  refine ⟨_, (z04 (z0b (z0Q z2y (z09 z0B rfl B.f_len boot_len (z00 (pv 3) z03)) z01 (z0R _)) (z05 (z0I z2Q)) z0M)
    (z04 (z0G (i := 7) sc_lawnosign.nd rfl (Or.inl rfl) (z0F O_lawsign hr rfl (z00 (z0H z0O (z0F O_lawdraw hr rfl (z00 (pv 0) (z00 z01 (z00 z01 (z00 z01 z03))))) (z0H z1N z01 (z09 z0B rfl B.f_len boot_len (z00 (pv 2) z03)))) z03)))
    (z04 (z0G (i := 8) sc_lawnosign.nd rfl (Or.inl rfl) (z0q z2u rfl B.f_list boot_list (z00 (pv 3) z03)))
    (z04 (z16 PassesOwn.never rfl (z0U rfl B.f_range (z00 (z0H z0O z01 (z0F O_lawdraw hr rfl (z00 (pv 0) (z00 z01 (z00 z01 (z00 z01 z03)))))) z03)) (z0J (i := 9) sc_lawnosign.nd rfl (Or.inl rfl)) (z04 (z0G (i := 10) sc_lawnosign.nd rfl (Or.inl rfl) (z0F O_lawdraw hr rfl (z00 (pv 0) (z00 (z0H z0O z01 (pv 9)) (z00 z01 (z00 (z09 z0B rfl B.f_len boot_len (z00 (pv 3) z03)) z03))))))
    (z04 (z0G (i := 11) sc_lawnosign.nd rfl (Or.inl rfl) (z0F O_lawdraw hr rfl (z00 (pv 0) (z00 (z0H z0O z01 (pv 9)) (z00 z01 (z00 (z0H z0O (z09 z1y rfl B.f_len boot_len (z00 (z0L z17 (pv 8) (pv 10) (fun _ _ => rfl)) z03)) z01) z03))))))
    (z05 (zCC (z0H z2f (z0H z2f (z6U zAp (z0L z17 (pv 8) (pv 10) (fun _ _ => rfl)) z83 (z84 (pv 11))) (pv 7)) (z6U zAp (z0L z17 (pv 8) (pv 10) (fun _ _ => rfl)) (z84 (pv 11)) z83)) (zCB (pv 8) (pv 10) set_list))))))
    (z04 (z16 PassesOwn.never rfl (z1h (pv 8)) (z0J (i := 12) sc_lawnosign.nd rfl (Or.inl rfl)) (z05 (z0b (z0Q zCi (pv 7) (pv 12) rfl) (z04 (z0G (i := 13) sc_lawnosign.nd rfl (Or.inl rfl) (z1S (z00 (pv 7) (z00 (z3K PySem.F.plainAttrs_str PySem.F.slot_str_index PySem.F.type_str_index zAQ (pv 12) (z00 (pv 7) z03)) z03))))
    (z05 (z0I (z0F O_lawrefused hr rfl (z00 (pv 1) (z00 (pv 8) (z00 (pv 4) (z00 (pv 5) (z00 (pv 6) (z00 (pv 13) z03)))))))))) z0M)))
    (z05 (z0I z2Q))))))), ?_⟩
  have hul := SA.len
  walk_at "rs"
  refine ⟨l, _, rfl, .inl (SqL.of hl), ?_⟩
  rw [List.length_map]
  walk_at "rs"
  refine zCq (fun c0 => ?_) (fun c0 => ?_)
  . walk_at "rs"
    exact q H (Same.refl _)
  walk_at "rs"
  refine ⟨a, ns, 0, 10039, 94, rfl, hS, by decide, by decide, by decide, by decide, ?_⟩
  walk_at "rs"
  refine ⟨m, _, rfl, .inl (SqL.of SA.lst), ?_⟩
  rw [List.length_map, hul]
  walk_at "rs"
  have hz0 : 0 < zs.length := Nat.pos_of_ne_zero fun e => c0 (decide_eq_true (by rw [e]; rfl))
  have hcb := beyond hc (Nat.le_refl _) (by omega)
  generalize eN : z1b ns 0 10039 94 + 37 * (Ss.length : Int) = N at hcb ⊢
  refine ⟨l, _, rfl, .inl (SqL.of hl), fun b nb => ?_⟩
  have s1 : Same H (upd H b (.lst (zs.map V.str))) := Same.new nb
  have gb1 : (upd H b (.lst (zs.map V.str))) b = some (.lst (zs.map V.str)) := upd_same
  generalize upd H b (.lst (zs.map V.str)) = H1 at s1 gb1
  walk_at "rs"
  refine ⟨a, ns, 13, 10151, 2, rfl, s1.seq hS, by decide, by decide, by decide, by decide, ?_⟩
  have m0 := z0X (ns := ns) (k := 13) (p := 10151) (m := 2) (by decide)
  generalize z1b ns 13 10151 2 = r at m0
  walk_at "rs"
  refine ⟨(z2N (by omega) (by omega)).1, (z2N (by omega) (by omega)).2, ?_⟩
  have sl : ∀ n : Nat, n <= 5000 -> n <= sizeLine := fun n h => Nat.le_trans h (by decide)
  refine z0p (n := (1 + r).toNat) (fun i σ H2 => ∃ ys v9 v10 v11, σ = [some (.ref a), some (.ref fo), some (.ref m), some (.ref l), some (.int lead), some (.ref p), some (.ref d), some (.str (sgn N)), some (.ref b), v9, v10, v11, none, none] /\ Same H H2 /\ H2 b = some (.lst ((ys : List Str).map V.str)) /\ ys.length = zs.length /\ (∀ y ∈ ys, y.length <= 10 + i /\ ∀ e ∈ y.cps.toList, known Ss e = true \/ e = z2O N) /\ (1 <= i -> ∃ y ∈ ys, z2O N ∈ y.cps.toList)) ⟨zs, none, none, none, rfl, s1, gb1, rfl, fun y hy => ⟨(hz y hy).1, fun e he => .inl ((hz y hy).2 e he)⟩, fun h => by omega⟩ ?_ ?_
  . rintro i σ H2 hi ⟨ys, v9, v10, v11, rfl, s2, gb2, hyl, hy, hex⟩
    walk_at "rs"
    refine ⟨l, _, rfl, .inl (SqL.of (s2 _ _ hl)), ?_⟩
    rw [List.length_map]
    refine ⟨a, ns, _, 10159, _, rfl, s2.seq hS, by omega, by omega, by decide, by omega, ?_⟩
    have n0 := z0X (ns := ns) (k := 15 + (0 + (i : Int))) (p := 10159) (m := (zs.length : Int)) (by omega)
    generalize z1b ns (15 + (0 + (i : Int))) 10159 (zs.length : Int) = n at n0
    walk_at "rs"
    have hn : n.toNat < ys.length := by omega
    have en : n = ((n.toNat : Nat) : Int) := by omega
    have an : atI (ys.map V.str) n = some (.str ys[n.toNat]) := by
      have h := z0d (xs := ys.map V.str) (j := n.toNat) (v := .str ys[n.toNat]) (by rw [List.getElem?_map, List.getElem?_eq_getElem hn]; rfl)
      rw [<- en] at h
      exact h
    have hyn := hy _ (List.getElem_mem hn)
    have szy : ys[n.toNat].length <= sizeLine := sl _ (by omega)
    refine ⟨b, _, _, _, rfl, rfl, SqL.of gb2, an, ?_⟩
    walk_at "rs"
    refine ⟨szy, ?_⟩
    walk_at "rs"
    refine ⟨a, ns, _, 10163, _, rfl, s2.seq hS, by omega, by omega, by decide, by omega, ?_⟩
    have a0 := z0X (ns := ns) (k := 17 + (0 + (i : Int))) (p := 10163) (m := (ys[n.toNat].length : Int) + 1) (by omega)
    generalize z1b ns (17 + (0 + (i : Int))) 10163 ((ys[n.toNat].length : Int) + 1) = at' at a0
    have a1 : at' <= (ys[n.toNat].length : Int) := by omega
    walk_at "rs"
    refine ⟨b, _, _, _, rfl, rfl, SqL.of gb2, an, ?_⟩
    walk_at "rs"
    refine ⟨szy, ?_⟩
    walk_at "rs"
    have d1 := z4M ys[n.toNat] none (some at')
    have d2 := z4M ys[n.toNat] (some at') none
    refine ⟨sl _ (by rw [show (sgn N).length = 1 from rfl]; omega), ?_⟩
    walk_at "rs"
    refine ⟨b, _, _, _, rfl, rfl, SqL.of gb2, an, ?_⟩
    walk_at "rs"
    refine ⟨szy, ?_⟩
    have d3 : (z53 ys[n.toNat] none (some at') ++ sgn N).length = (z53 ys[n.toNat] none (some at')).length + 1 := by
      show ((z53 ys[n.toNat] none (some at')).cps ++ #[z2O N]).size = (z53 ys[n.toNat] none (some at')).cps.size + 1
      rw [Array.size_append]
      rfl
    refine ⟨_, _, rfl, rfl, sl _ (by rw [d3]; omega), ?_⟩
    walk_at "rs"
    refine ⟨b, _, n, n.toNat, rfl, rfl, gb2, by rw [List.length_map]; exact zC0 (by omega) (by omega), ?_⟩
    refine ⟨ys.set n.toNat (putIn ys[n.toNat] at' (z2O N)), _, _, _, rfl, s2.put nb, ?_, by rw [List.length_set]; exact hyl, fun y hy' => ?_, fun _ => ⟨_, List.mem_set hn _, (z5B a0.1 a1).mpr (.inl rfl)⟩⟩
    . rw [upd_same, List.map_set]
      rfl
    . rcases List.mem_or_eq_of_mem_set hy' with h | h
      . exact ⟨by have := (hy y h).1; omega, (hy y h).2⟩
      . rw [h]
        refine ⟨by rw [z9B a0.1 a1]; omega, fun e he => ?_⟩
        rcases (z5B a0.1 a1).mp he with h | h
        . exact .inr h
        . exact hyn.2 e h
  . rintro σ H2 ⟨ys, v9, v10, v11, rfl, s2, gb2, hyl, hy, hex⟩
    obtain ⟨y0, hy0, hc0⟩ := hex (by omega)
    walk_at "rs"
    refine ⟨⟨_, SqL.of gb2⟩, ?_⟩
    refine z32 (K := K) (a := b) (xs := ys.map V.str) (fun i σ H3 => H3 = H2 /\ (∀ y ∈ ys.take i, z2O N ∉ y.cps.toList) /\ ∃ v12, σ = [some (.ref a), some (.ref fo), some (.ref m), some (.ref l), some (.int lead), some (.ref p), some (.ref d), some (.str (sgn N)), some (.ref b), v9, v10, v11, v12, none]) ⟨rfl, (fun _ h => by simp at h), none, rfl⟩ (fun i σ H3 _ h => by rw [h.1]; exact SqL.of gb2) ?_ ?_
    . rintro i v σ H3 hi ⟨rfl, hno, v12, rfl⟩
      have hil : i < ys.length := by
        have := (List.getElem?_eq_some_iff.mp hi).1
        rwa [List.length_map] at this
      rw [List.getElem?_map, List.getElem?_eq_getElem hil] at hi
      cases hi
      refine ⟨_, rfl, _, rfl, z2O N, ys[i], rfl, rfl, ?_⟩
      by_cases hin : z2O N ∈ ys[i].cps.toList
      . refine ⟨_, rfl, ?_⟩
        rw [decide_eq_true hin]
        refine z33 ?_
        obtain ⟨i0, e0, n0⟩ := z5J hin
        walk_at "rs"
        refine ⟨z2O N, ys[i], i0, rfl, rfl, e0, n0, szV (by simp), fun t nt => ?_⟩
        have s4 : Same H3 (upd H3 t (.tup [.str (sgn N), .int (i0 : Nat)])) := Same.new nt
        have g4 : (upd H3 t (.tup [.str (sgn N), .int (i0 : Nat)])) t = some (.tup [.str (sgn N), .int (i0 : Nat)]) := upd_same
        generalize upd H3 t (.tup [.str (sgn N), .int (i0 : Nat)]) = H4 at s4 g4
        have t4 := s2.trans s4
        have hkn : ∀ y ∈ ys, z2O N ∉ y.cps.toList -> ∀ e ∈ y.cps.toList, known Ss e = true := fun y h1 h2 e he => by
          rcases (hy y h1).2 e he with h | h
          . exact h
          . rw [h] at he
            exact absurd he h2
        have hfb : firstBad Ss ys[i].cps.toList 0 = some (z2O N, i0) := by
          have := z2K (Ss := Ss) (i := 0) (fun e he => ?_) e0 hcb
          . rw [Nat.zero_add] at this
            exact this
          . rcases (hy _ (List.getElem_mem hil)).2 e (List.mem_of_mem_take he) with h | h
            . exact h
            . rw [h] at he
              exact absurd he n0
        walk_at "rs"
        refine ⟨fo, b, p, d, t, ys, Ss, hg, gap, lead, x, y, wd, hh, z2O N, i0, rfl, FAt.mono t4, FO, g1, g2, s4 _ _ gb2, by omega, fun z hz' => ⟨by have := (hy z hz').1; omega, fun e he => ?_⟩, l0, l1, t4 _ _ gp, t4 _ _ gd, w1, w2, h1, h2, z2w (fun z hz' => z1O (hkn z (List.mem_of_mem_take hz') (hno z hz'))) (List.getElem?_eq_getElem hil) hfb, g4, fun H5 s5 => q H5 (t4.trans s5)⟩
        rcases (hy z hz').2 e he with h | h
        . obtain ⟨S, hS', e'⟩ := List.any_eq_true.mp h
          rw [<- of_decide_eq_true e']
          exact FO.sg S hS'
        . rw [h]
          exact zAI _
      . refine ⟨_, rfl, ?_⟩
        rw [decide_eq_false hin]
        refine z3m ?_
        refine ⟨rfl, fun y hy' => ?_, _, rfl⟩
        rw [List.take_succ, List.getElem?_eq_getElem hil] at hy'
        rcases List.mem_append.mp hy' with h | h
        . exact hno y h
        . have e : y = ys[i] := by simpa using h
          rw [e]
          exact hin
    . rintro σ H3 ⟨rfl, hno, v12, rfl⟩
      rw [List.length_map, List.take_length] at hno
      exact absurd hc0 (hno y0 hy0)
theorem sc_law : FnScope ["_law_script", "_law_high", "_law_signs_here", "_law_gap", "_law_lead", "_law_lines_here", "_law_columns_here", "_law_spot", "_law_sides_here", "_law_font", "_law_handed", "_law_found", "_law_due_here"] ["_law_script"] (z02 z31) := ⟨rfl, rfl, rfl, by decide +kernel, rfl, by decide +kernel, by decide +kernel⟩
theorem zCm {f : Addr} {fd : FuncData} (D : Df K mg "law" z31 ["_law_script"] f fd)
    {c_Font : Addr} (Zo : Co K mg c_Font)
    {c_GlowError c_NoFont c_NoSign : Addr} (Z : Cl K mg c_GlowError c_NoFont c_NoSign)
    (O_view : Ow2 P w K mg base "view" ["font", "lines", "lead", "x", "y", "wide", "high"] 6 (z9N c_Font c_NoSign))
    (O_Fontinit : Oc P w K mg base (CX2 P w) "Font" c_Font ["self", "pairs", "gap"] [] 8 (z5x c_Font))
    (O_lawdraw : Ow P w K mg base "_law_draw" ["_law_script", "_law_k", "_law_prime", "_law_many"] 1 (z1k K))
    (O_lawispic : Ow P w K mg base "_law_is_pic" ["_law_found", "_law_due_here"] 2 z8k)
    (O_lawsigns : Ow P w K mg base "_law_signs" ["_law_script", "_law_k", "_law_many", "_law_high"] 4 (z8n K))
    (O_lawpairs : Ow P w K mg base "_law_pairs" ["_law_signs_here"] 2 z8o)
    (O_lawcolumns : Ow P w K mg base "_law_columns" ["_law_text_here", "_law_table", "_law_high", "_law_gap"] 1 z5G)
    (O_lawlines : Ow P w K mg base "_law_lines" ["_law_script", "_law_signs_here"] 3 (z6u K))
    (O_lawbegin : Ow P w K mg base "_law_begin" ["_law_script", "_law_k", "_law_size"] 2 (z6v K))
    (O_lawdue : Ow P w K mg base "_law_due" ["_law_lines_here", "_law_sizes", "_law_spot", "_law_sides_here"] 2 zB2)
    (O_lawsides : Ow P w K mg base "_law_sides" ["_law_script"] 2 (z6w K))
    (O_lawnosign : Ow P w K mg base "_law_no_sign" ["_law_script", "_law_font", "_law_signs_here", "_law_lines_here", "_law_lead", "_law_spot", "_law_sides_here"] 8 (z5K K c_Font)) (B : Blt mg) :
    FnOk P w K mg base CX0 10 f fd ["_law_script"] (z9n K) := by
  refine D.F.ok sc_law (fun vs H Q E h => ?_) (fun cdv A outer s H vs Q E hr h => ?_)
  . obtain ⟨a, ns, rfl, _⟩ := h
    rfl
  obtain ⟨a, ns, rfl, hS, hlen, q⟩ := h
  refine ⟨_, (z04 (z0G (i := 1) sc_law.nd rfl (Or.inr rfl) (z0H z0O z01 (z0F O_lawdraw hr rfl (z00 (pv 0) (z00 z01 (z00 z01 (z00 z01 z03)))))))
    (z04 (z0G (i := 2) sc_law.nd rfl (Or.inr rfl) (z0F O_lawsigns hr rfl (z00 (pv 0) (z00 z01 (z00 (z0H z0O z01 (z0F O_lawdraw hr rfl (z00 (pv 0) (z00 z01 (z00 z01 (z00 z01 z03)))))) (z00 (pv 1) z03))))))
    (z04 (z0G (i := 3) sc_law.nd rfl (Or.inr rfl) (z0F O_lawdraw hr rfl (z00 (pv 0) (z00 z01 (z00 z01 (z00 z01 z03))))))
    (z04 (z0G (i := 4) sc_law.nd rfl (Or.inl rfl) (z0F O_lawdraw hr rfl (z00 (pv 0) (z00 z01 (z00 z01 (z00 z01 z03))))))
    (z22 (z0G (i := 5) sc_law.nd rfl (Or.inl rfl) (z0F O_lawlines hr rfl (z00 (pv 0) (z00 (pv 2) z03))))
    (z22 (z2H (i := 6) (locs := ["_law_line"]) (ix := [2, 1, 3]) rfl sc_law.nd rfl rfl (BlkSc.look (dsc := z02 z31) (N := ["_law_script", "_law_high", "_law_signs_here", "_law_gap", "_law_lead", "_law_lines_here", "_law_columns_here", "_law_spot", "_law_sides_here", "_law_font", "_law_handed", "_law_found", "_law_due_here"]) rfl rfl (by decide +kernel)) (z1h (pv 5)) (fun _ _ _ _ _ _ => (z0J (i := 0) (by decide +kernel : (["_law_line", "_law_signs_here", "_law_high", "_law_gap"] : List Str).Nodup) rfl (Or.inl rfl))) (fun _ _ _ _ _ _ => z0e) (fun _ _ _ _ _ _ => (z0F O_lawcolumns hr rfl (z00 (pv 0) (z00 (z0q (z61 rfl) rfl B.f_dict boot_dict (z00 (pv 1) z03)) (z00 (pv 2) (z00 (pv 3) z03)))))) rfl)
    (z04 (z0G (i := 7) sc_law.nd rfl (Or.inl rfl) (z1S (z00 (z0F O_lawbegin hr rfl (z00 (pv 0) (z00 z01 (z00 (zC1 rfl rfl B.f_max boot_max (z00 (z1e (locs := ["_law_line"]) (ix := []) rfl (BlkSc.look (dsc := z02 z31) (N := ["_law_script", "_law_high", "_law_signs_here", "_law_gap", "_law_lead", "_law_lines_here", "_law_columns_here", "_law_spot", "_law_sides_here", "_law_font", "_law_handed", "_law_found", "_law_due_here"]) rfl rfl (by decide +kernel)) (z1h (pv 6)) (fun _ _ _ _ _ _ => (z0J (i := 0) (by decide +kernel : (["_law_line"] : List Str).Nodup) rfl (Or.inl rfl))) (fun _ _ _ _ _ _ => z0e) (fun _ _ _ _ _ _ => (z09 z4n rfl B.f_len boot_len (z00 (pv 0) z03)))) z03) (zBE z01 zCH)) z03)))) (z00 z01 z03))))
    (z22 (z0G (i := 7) sc_law.nd rfl (Or.inl rfl) (z1S (z00 (z0L z0K (pv 7) z01 (fun _ _ => rfl)) (z00 (z0F O_lawbegin hr rfl (z00 (pv 0) (z00 z01 (z00 (z0H z1N (z09 z0B rfl B.f_len boot_len (z00 (pv 5) z03)) (z0H z0O (pv 1) (pv 4))) z03)))) z03))))
    (z04 (z0G (i := 8) sc_law.nd rfl (Or.inl rfl) (z0F O_lawsides hr rfl (z00 (pv 0) z03)))
    (z04 (z0G (i := 9) sc_law.nd rfl (Or.inl rfl) (zDS O_Fontinit hr zAs rfl (z00 (z0F O_lawpairs hr rfl (z00 (pv 2) z03)) (z00 (pv 3) z03))))
    (z04 (z0G (i := 10) sc_law.nd rfl (Or.inl rfl) (z0q z2u rfl B.f_list boot_list (z00 (pv 5) z03)))
    (z04 (z0G (i := 11) sc_law.nd rfl (Or.inl rfl) (zA8 O_view hr rfl (z00 (pv 9) (z00 (pv 10) (z00 (pv 4) (z00 (z0L z0K (pv 7) z01 (fun _ _ => rfl)) (z00 (z0L z0K (pv 7) z01 (fun _ _ => rfl)) (z00 (z0L z0K (pv 8) z01 (fun _ _ => rfl)) (z00 (z0L z0K (pv 8) z01 (fun _ _ => rfl)) z03)))))))))
    (z04 (z0G (i := 12) sc_law.nd rfl (Or.inl rfl) (z0F O_lawdue hr rfl (z00 (pv 6) (z00 (z1S (z00 (pv 1) (z00 (pv 4) z03))) (z00 (pv 7) (z00 (pv 8) z03))))))
    (z04 (z0b (PW.pt (z2x (z0Q (zCk (z78 hr)) (pv 10) (pv 5) (z0R _)) (z1t (z0w (z0o (z0F O_lawispic hr rfl (z00 (pv 11) (z00 (pv 12) z03)))))))) (z05 (z0I z2Q)) z0M)
    (z05 (z0I (z0F O_lawnosign hr rfl (z00 (pv 0) (z00 (pv 9) (z00 (pv 2) (z00 (pv 5) (z00 (pv 4) (z00 (pv 7) (z00 (pv 8) z03)))))))))))))))))))))))), ?_⟩
  walk_at "rs"
  refine ⟨a, ns, 1, 10037, 4, rfl, hS, by decide, by decide, by decide, by decide, ?_⟩
  have h0 := z0X (ns := ns) (k := 1) (p := 10037) (m := 4) (by decide)
  generalize z1b ns 1 10037 4 = zh at h0
  walk_at "rs"
  refine ⟨a, ns, 2, 10007, 8, rfl, hS, by decide, by decide, by decide, by decide, ?_⟩
  have m0 := z0X (ns := ns) (k := 2) (p := 10007) (m := 8) (by decide)
  generalize z1b ns 2 10007 8 = zm at m0
  walk_at "rs"
  refine ⟨a, ns, 0, _, _, rfl, hS, by decide, by decide, by omega, by omega, by omega, by omega, fun l ts Ss H1 s1 nl SA hSl hc => ?_⟩
  have ehg : (1 + zh) = (((1 + zh).toNat : Nat) : Int) := by omega
  have hg1 : 1 <= (1 + zh).toNat := by omega
  have hg2 : (1 + zh).toNat <= 64 := by omega
  walk_at "rs"
  refine ⟨a, ns, 4, 10061, 9, rfl, s1.seq hS, by decide, by decide, by decide, by decide, ?_⟩
  have g0 := z0X (ns := ns) (k := 4) (p := 10061) (m := 9) (by decide)
  generalize z1b ns 4 10061 9 = gap at g0
  walk_at "rs"
  refine ⟨a, ns, 6, 10067, 9, rfl, s1.seq hS, by decide, by decide, by decide, by decide, ?_⟩
  have l0 := z0X (ns := ns) (k := 6) (p := 10067) (m := 9) (by decide)
  generalize z1b ns 6 10067 9 = lead at l0
  have hSl1 : 1 <= Ss.length := by omega
  have hSl2 : Ss.length <= 60 := by omega
  walk_at "rs"
  refine ⟨fun σ' H' => ∃ m zs, Same H1 H' /\ z2o H' m zs /\ zs.length <= 60 /\ (∀ z ∈ zs, z.length <= 10 /\ TextOf Ss z) /\ σ' = [some (.ref a), some (.int (1 + zh)), some (.ref l), some (.int gap), some (.int lead), some (.ref m), none, none, none, none, none, none, none], ?_, ?_⟩
  . walk_at "rs"
    exact ⟨a, l, ns, ts, Ss, _, rfl, s1.seq hS, SA, hSl1, hSl2, fun m zs H2 s2 nm hl hn hz => ⟨m, zs, s2, hl, hn, hz, rfl⟩⟩
  rintro σ2 H2 ⟨m, zs, s2, hl, hn, hz, rfl⟩
  rw [ehg]
  generalize (1 + zh).toNat = hg at SA hg1 hg2 ⊢
  have FO : FontOk hg Ss := zAF SA hSl1 hSl2 hc
  have t2 := s1.trans s2
  have SA2 := SA.mono s2
  obtain ⟨rls, hrl, hrs⟩ := SA2.rows
  have kl := z4S (Ss := Ss) hrl
  have kp := z99 FO hrl
  have hul := SA2.len
  have hkz : ∀ z ∈ zs, ∀ c ∈ z.cps.toList, known Ss c = true := fun z h => (hz z h).2
  refine ⟨fun σ' H' => ∃ lc, Same H2 H' /\ ColsAt H' lc hg (zs.map fun z => z1I Ss hg gap z.cps.toList z.length) /\ σ' = [some (.ref a), some (.int (hg : Nat)), some (.ref l), some (.int gap), some (.int lead), some (.ref m), some (.ref lc), none, none, none, none, none, none], ?_, ?_⟩
  rotate_left
  . rintro σ3 H3 ⟨lc, s3, CA, rfl⟩
    obtain ⟨qs, hql, gl, hqs⟩ := CA.lst
    have hq60 : qs.length <= 60 := by rw [hql, List.length_map]; exact hn
    have t3 := t2.trans s3
    walk_at "rs"
    refine ⟨⟨_, SqL.of gl⟩, ?_⟩
    refine z0f (n := qs.length) (fun i σ ys H4 => ∃ v ks, σ = [v] /\ ys = (ks : List Int).map V.int /\ H4 = H3 /\ ks.length = i /\ (∀ k ∈ ks, 0 <= k /\ k <= 20000)) ⟨none, [], rfl, rfl, rfl, rfl, (fun _ h => nomatch h)⟩ (Nat.le_of_lt (z0D (by omega))) ?_ ?_ ?_ ?_ ?_
    . rintro i σ ys H4 ⟨v, ks, _, rfl, _, hi, _⟩
      rw [List.length_map, hi]
    . rintro σ ys H4 ⟨v, ks, _, _, rfl, _, _⟩
      exact ⟨_, SqL.of gl, by rw [List.length_map]; exact Nat.le_refl _⟩
    . rintro i σ ys H4 hi ⟨v, ks, _, _, rfl, _, _⟩
      exact ⟨_, .ref qs[i], SqL.of gl, by rw [List.getElem?_map, List.getElem?_eq_getElem hi]; rfl⟩
    . rintro i σ ys H4 y H' Z hi ⟨v, ks, rfl, rfl, rfl, hki, hk⟩ ⟨rfl, hy⟩ hZ
      have e := hy _ (SqL.of gl)
      rw [List.getElem?_map, List.getElem?_eq_getElem hi] at e
      cases e
      have hic : i < (zs.map fun z => z1I Ss hg gap z.cps.toList z.length).length := by omega
      obtain ⟨ps, R⟩ := hqs i _ _ (List.getElem?_eq_getElem hi) (List.getElem?_eq_getElem hic)
      have hcl := (CA.ok _ (List.getElem_mem hic)).2
      have hrl2 := R.len
      walk_at "rs"
      refine ⟨qs[i], _, rfl, .inl (SqL.of R.lst), ?_⟩
      rw [List.length_map, hrl2]
      refine hZ _ _ _ ⟨_, ks ++ [_], rfl, by rw [List.map_append]; rfl, rfl, by rw [List.length_append, hki]; rfl, fun k h => ?_⟩
      rcases List.mem_append.mp h with h | h
      . exact hk k h
      . rw [List.mem_singleton.mp h]
        omega
    rintro σ ys H4 ⟨v, ks, rfl, rfl, rfl, hki, hk⟩ ml nml
    have s5 : Same H4 (upd H4 ml (.lst (ks.map V.int))) := Same.new nml
    have gm5 : (upd H4 ml (.lst (ks.map V.int))) ml = some (.lst (ks.map V.int)) := upd_same
    generalize upd H4 ml (.lst (ks.map V.int)) = H5 at s5 gm5
    refine ⟨ml, ks, 0, rfl, rfl, SqL.of gm5, fun mx hmx => ?_⟩
    have hmb : 0 <= mx /\ mx <= 20000 := by
      rcases hmx with h | ⟨_, h⟩
      . exact hk mx h
      . omega
    have t5 := t3.trans s5
    walk_at "rs"
    refine ⟨a, ns, 19, mx, rfl, t5.seq hS, by decide, by decide, by omega, by omega, fun x x0 x1 => ?_⟩
    walk_at "rs"
    intro t1 nt1
    have s6 : Same H5 (upd H5 t1 (.tup [.int x, .int 0])) := Same.new nt1
    have g6 : (upd H5 t1 (.tup [.int x, .int 0])) t1 = some (.tup [.int x, .int 0]) := upd_same
    generalize upd H5 t1 (.tup [.int x, .int 0]) = H6 at s6 g6
    have u6 := s5.trans s6
    have t6 := t5.trans s6
    refine ⟨fun σ' H' => ∃ sp y, Same H4 H' /\ H' sp = some (.tup [.int x, .int y]) /\ -10000000000 <= y /\ y <= 10000000000 /\ σ' = [some (.ref a), some (.int (hg : Nat)), some (.ref l), some (.int gap), some (.int lead), some (.ref m), some (.ref lc), some (.ref sp), none, none, none, none, none], ?_, ?_⟩
    . walk_at "rs"
      refine ⟨t1, _, 0, _, rfl, rfl, SqT.of g6, rfl, ?_⟩
      walk_at "rs"
      refine ⟨m, _, rfl, .inl (SqL.of ((s3.trans u6) _ _ hl)), ?_⟩
      rw [List.length_map]
      have p0 : 0 <= (zs.length : Int) * ((hg : Int) + lead) := Int.mul_nonneg (by omega) (by omega)
      have p1 : (zs.length : Int) * ((hg : Int) + lead) <= 60 * 100 := Int.mul_le_mul (by omega) (by omega) (by omega) (by omega)
      walk_at "rs"
      refine ⟨a, ns, 21, _, rfl, t6.seq hS, by decide, by decide, p0, by omega, fun y y0 y1 => ?_⟩
      walk_at "rs"
      intro t2' nt2
      exact ⟨t2', y, u6.trans (Same.new nt2), upd_same, y0, y1, rfl⟩
    rintro σ7 H7 ⟨sp, y, s7, gp, y0, y1, rfl⟩
    have t7 := t3.trans s7
    walk_at "rs"
    refine ⟨a, ns, rfl, t7.seq hS, fun wd hh sd H8 w1 w2 h1 h2 s8 gd => ?_⟩
    have t8 := t7.trans s8
    have u8 := (s3.trans s7).trans s8
    have SA8 := SA2.mono u8
    walk_at "rs"
    refine ⟨l, ts, Ss, _, rfl, SA8, hSl2, fun m1 us1 H9 s9 nm1 PA1 => ?_⟩
    walk_at "rs"
    intro f1 dx1 nx1 ndx1 nxd1
    have nx1' : (upd H9 dx1 (.own f1)) f1 = none := (z07 (Ne.symm nxd1)).trans nx1
    have sF : Same H9 (upd (upd H9 dx1 (.own f1)) f1 (.ins c_Font dx1 [])) := (Same.new ndx1).trans (Same.new nx1')
    refine ⟨f1, dx1, m1, us1, Ss, _, gap, rfl, upd_same, PA1.mono sF, FO, g0.1, by omega, fun H10 sb FA10 => ⟨rfl, ?_⟩⟩
    have s10 : Same H9 H10 := sb.fresh nx1 ndx1
    have u10 := s9.trans s10
    have t10 := t8.trans u10
    have v10 := u8.trans u10
    walk_at "rs"
    refine ⟨m, _, rfl, .inl (SqL.of (v10 _ _ hl)), fun hd nhd => ?_⟩
    have s11 : Same H10 (upd H10 hd (.lst (zs.map V.str))) := Same.new nhd
    have g11 : (upd H10 hd (.lst (zs.map V.str))) hd = some (.lst (zs.map V.str)) := upd_same
    generalize upd H10 hd (.lst (zs.map V.str)) = H11 at s11 g11
    have gp11 := ((s8.trans u10).trans s11) _ _ gp
    have gd11 := (u10.trans s11) _ _ gd
    have v11 := v10.trans s11
    have FA11 := FA10.mono s11
    have hzv : ∀ z ∈ zs, z.length <= 1000 /\ zBt z := fun z h => ⟨by have := (hz z h).1; omega, (hz z h).2.inSg FO⟩
    have hfb : z19 Ss zs = none := List.findSome?_eq_none_iff.mpr fun z h => z1O (hkz z h)
    walk_at "rs"
    refine ⟨sp, _, 0, _, rfl, rfl, SqT.of gp11, rfl, ?_⟩
    walk_at "rs"
    refine ⟨sp, _, 1, _, rfl, rfl, SqT.of gp11, rfl, ?_⟩
    walk_at "rs"
    refine ⟨sd, _, 0, _, rfl, rfl, SqT.of gd11, rfl, ?_⟩
    walk_at "rs"
    refine ⟨sd, _, 1, _, rfl, rfl, SqT.of gd11, rfl, ?_⟩
    refine ⟨f1, hd, zs, Ss, hg, gap, lead, x, y, wd, hh, rfl, FA11, FO, hg1, hg2, g11, by omega, hzv, l0.1, by omega, w1, w2, h1, h2, fun _ pv H12 s12 PV => ?_, fun c i d H12 hb => ?_⟩
    rotate_left
    . rw [hfb] at hb
      cases hb
    rw [zAM FO hg1 g0.1 l0.1 hkz] at PV
    have w12 := (((s7.trans s8).trans u10).trans s11).trans s12
    walk_at "rs"
    intro tz ntz
    have s13 : Same H12 (upd H12 tz (.tup [.int (hg : Nat), .int lead])) := Same.new ntz
    have g13 : (upd H12 tz (.tup [.int (hg : Nat), .int lead])) tz = some (.tup [.int (hg : Nat), .int lead]) := upd_same
    generalize upd H12 tz (.tup [.int (hg : Nat), .int lead]) = H13 at s13 g13
    have w13 := w12.trans s13
    have r13 := s12.trans s13
    walk_at "rs"
    refine ⟨lc, tz, sp, sd, _, hg, lead, x, y, wd, hh, rfl, CA.mono w13, by rw [List.length_map]; omega, g13, r13 _ _ gp11, r13 _ _ gd11, hg1, hg2, l0.1, by omega, w1, w2, h1, h2, x0, x1, y0, y1, fun pd H14 s14 PD => ?_⟩
    have r14 := r13.trans s14
    have RD : Rect wd.toNat hh.toNat (zCh hg lead (zs.map fun z => z1I Ss hg gap z.cps.toList z.length) x y wd.toNat hh.toNat) := z23 (by omega) (by omega) (by omega) (by omega) fun _ _ => z42 (fun c hc' => (CA.ok c hc').1) _ _ _
    walk_at "rs"
    refine ⟨hd, m, zs, rfl, rfl, SqL.of (r14 _ _ g11), SqL.of ((v11.trans r14) _ _ hl), ?_⟩
    refine ⟨_, rfl, z1d rfl ?_⟩
    refine ⟨_, rfl, _, rfl, pv, pd, _, _, _, rfl, PV.mono (s13.trans s14), PD, RD, fun H15 s15 => ⟨_, rfl, z1d rfl ?_⟩⟩
    have r15 := r14.trans s15
    have v15 := v11.trans r15
    walk_at "rs"
    exact ⟨a, f1, l, m, sp, sd, ns, ts, zs, Ss, hg, gap, lead, x, y, wd, hh, rfl, (t2.trans v15).seq hS, SA2.mono v15, FA11.mono r15, FO, hg1, hg2, hSl2, v15 _ _ hl, hn, hz, l0.1, by omega, r15 _ _ gp11, r15 _ _ gd11, w1, w2, h1, h2, hc, fun H16 _ => q H16⟩
  walk_at "rs"
  refine ⟨⟨_, SqL.of hl⟩, ?_⟩
  refine z0f (n := zs.length) (fun i σ ys H3 => ∃ v qs, σ = [v, some (.ref l), some (.int (hg : Nat)), some (.int gap)] /\ ys = (qs : List Addr).map V.ref /\ Same H2 H3 /\ qs.length = i /\ (∀ (j : Nat) q z, qs[j]? = some q -> zs[j]? = some z -> ∃ ps, RowsAt H3 q ps (z1I Ss hg gap z.cps.toList z.length)) /\ i <= zs.length) ⟨none, [], rfl, rfl, Same.refl _, rfl, (fun j q z h => by simp at h), Nat.zero_le _⟩ (Nat.le_of_lt (z0D (by omega))) ?_ ?_ ?_ ?_ ?_
  . rintro i σ ys H3 ⟨v, qs, _, rfl, _, hi, _, _⟩
    rw [List.length_map, hi]
  . rintro σ ys H3 ⟨v, qs, _, _, s3, _, _, _⟩
    exact ⟨_, SqL.of (s3 _ _ hl), by rw [List.length_map]; exact Nat.le_refl _⟩
  . rintro i σ ys H3 hi ⟨v, qs, _, _, s3, _, _, _⟩
    exact ⟨_, .str zs[i], SqL.of (s3 _ _ hl), by rw [List.getElem?_map, List.getElem?_eq_getElem hi]; rfl⟩
  . rintro i σ ys H3 y H' Z hi ⟨v, qs, rfl, rfl, s3, hqi, hqs, _⟩ ⟨rfl, hy⟩ hZ
    have e := hy _ (SqL.of (s3 _ _ hl))
    rw [List.getElem?_map, List.getElem?_eq_getElem hi] at e
    cases e
    walk_at "rs"
    refine ⟨l, ts, kvF Ss rls, rfl, SqL.of (s3 _ _ SA2.lst), by rw [kl, hul], ?_, fun j t k v e1 e2 => ?_, fun d nd => ?_⟩
    . rw [kp, kl]
      exact Nat.le_of_lt (z0D (by omega))
    . have hj : j < Ss.length := by
        rw [<- hul]
        exact (List.getElem?_eq_some_iff.mp e1).1
      rw [z6q hrl hj] at e2
      cases e2
      exact s3 _ _ (hrs j t _ _ e1 (List.getElem?_eq_getElem hj) (List.getElem?_eq_getElem (by omega))).1
    rw [kp]
    have s5 : Same H' (upd H' d (.dK (kvF Ss rls))) := Same.new nd
    have TA : TableAt hg (upd H' d (.dK (kvF Ss rls))) d Ss := ⟨rls, hrl, upd_same, fun j S p e1 e2 => by
      have hj : j < ts.length := by rw [hul]; exact (List.getElem?_eq_some_iff.mp e1).1
      obtain ⟨_, ps, r1, r2⟩ := hrs j _ S p (List.getElem?_eq_getElem hj) e1 e2
      exact ⟨ps, r1.mono (s3.trans s5), r2⟩⟩
    generalize upd H' d (.dK (kvF Ss rls)) = H5 at s5 TA
    have hzi := hz _ (List.getElem_mem hi)
    walk_at "rs"
    refine ⟨zs[i], d, hg, gap, Ss, rfl, TA, FO, hg1, hg2, g0.1, by omega, by omega, hzi.2, fun lq pq H6 s6 nlq RC => ?_⟩
    refine hZ _ _ _ ⟨_, qs ++ [lq], rfl, by rw [List.map_append]; rfl, (s3.trans s5).trans s6, by rw [List.length_append, hqi]; rfl, fun j q z e1 e2 => ?_, hi⟩
    by_cases hj : j < i
    . rw [List.getElem?_append_left (by omega)] at e1
      obtain ⟨ps, R⟩ := hqs j q z e1 e2
      exact ⟨ps, R.mono (s5.trans s6)⟩
    . have hj2 : j < i + 1 := by
        have := (List.getElem?_eq_some_iff.mp e1).1
        rw [List.length_append, hqi] at this
        exact this
      have ej : j = i := by omega
      subst ej
      rw [List.getElem?_append_right (by omega), hqi, Nat.sub_self] at e1
      cases e1
      rw [List.getElem?_eq_getElem hi] at e2
      cases e2
      exact ⟨pq, RC⟩
  rintro σ ys H3 ⟨v, qs, rfl, rfl, s3, hql, hqs, _⟩ lc nlc
  refine ⟨lc, s3.trans (Same.new nlc), ⟨⟨qs, by rw [List.length_map]; exact hql, upd_same, fun j q c e1 e2 => ?_⟩, fun c hc' => ?_⟩, rfl⟩
  . rw [List.getElem?_map] at e2
    obtain ⟨z, ez, rfl⟩ := Option.map_eq_some_iff.mp e2
    obtain ⟨ps, R⟩ := hqs j q z e1 ez
    exact ⟨ps, R.mono (Same.new nlc)⟩
  . obtain ⟨z, hz', rfl⟩ := List.mem_map.mp hc'
    obtain ⟨o1, o2⟩ := z60 FO g0.1 (show gap <= 8 by omega) (hkz z hz') z.length (by rw [Array.length_toList]; exact Nat.le_refl _)
    exact ⟨o1, by have := (hz z hz').1; omega⟩
end
theorem all_mk {l : PySem.W.OpenLaw} {w : World} {K : PySem.W.Frag} {h : Heap} {mg : Str -> Option Value} {fa f1 f2 f3 f4 f5 f6 f7 f8 f9 f10 f11 f12 f13 f14 f15 f16 f17 f18 f19 f20 f21 f22 f23 f24 f25 f26 f27 f28 f29 f30 f31 f32 f33 f34 f35 f36 f37 f38 f39 f40 f41 f42 f43 f44 : Addr} (X : K.In h) (G : h.Ns mainGlobals mg) (hfa : mg "law" = some (.ref fa))
    {c_Font : Addr}
    {od1 an1 : Option Addr} {sl1 : Array (Option Value)} {oc1 kV1 dc1 pm1 cd1 ct1 : Value}
    {od2 an2 : Option Addr} {sl2 : Array (Option Value)} {oc2 kV2 dc2 pm2 cd2 ct2 : Value}
    {od3 an3 : Option Addr} {sl3 : Array (Option Value)} {oc3 kV3 dc3 pm3 cd3 ct3 : Value}
    {od4 an4 : Option Addr} {sl4 : Array (Option Value)} {oc4 kV4 dc4 pm4 cd4 ct4 : Value}
    {od5 an5 : Option Addr} {sl5 : Array (Option Value)} {oc5 kV5 dc5 pm5 cd5 ct5 : Value}
    {od6 an6 : Option Addr} {sl6 : Array (Option Value)} {oc6 kV6 dc6 pm6 cd6 ct6 : Value}
    {od7 an7 : Option Addr} {sl7 : Array (Option Value)} {oc7 kV7 dc7 pm7 cd7 ct7 : Value}
    {od8 an8 : Option Addr} {sl8 : Array (Option Value)} {oc8 kV8 dc8 pm8 cd8 ct8 : Value}
    {od9 an9 : Option Addr} {sl9 : Array (Option Value)} {oc9 kV9 dc9 pm9 cd9 ct9 : Value}
    {od10 an10 ot10 : Option Addr} {sl10 st10 : Array (Option Value)} {oc10 kV10 dc10 pm10 cd10 ct10 ov10 : Value} {T10 : Addr} {nt10 : Nat}
    {od11 an11 : Option Addr} {sl11 : Array (Option Value)} {oc11 kV11 dc11 pm11 cd11 ct11 : Value}
    {od12 an12 : Option Addr} {sl12 : Array (Option Value)} {oc12 kV12 dc12 pm12 cd12 ct12 : Value}
    {od13 an13 : Option Addr} {sl13 : Array (Option Value)} {oc13 kV13 dc13 pm13 cd13 ct13 : Value}
    {od14 an14 : Option Addr} {sl14 : Array (Option Value)} {oc14 kV14 dc14 pm14 cd14 ct14 : Value}
    {od15 an15 ot15 : Option Addr} {sl15 st15 : Array (Option Value)} {oc15 kV15 dc15 pm15 cd15 ct15 ov15 : Value} {T15 : Addr} {nt15 : Nat} {ka15 kb15 : Tok}
    {od16 an16 : Option Addr} {sl16 : Array (Option Value)} {oc16 kV16 dc16 pm16 cd16 ct16 : Value}
    {od17 an17 : Option Addr} {sl17 : Array (Option Value)} {oc17 kV17 dc17 pm17 cd17 ct17 : Value}
    {od18 an18 : Option Addr} {sl18 : Array (Option Value)} {oc18 kV18 dc18 pm18 cd18 ct18 : Value}
    {od19 an19 : Option Addr} {sl19 : Array (Option Value)} {oc19 kV19 dc19 pm19 cd19 ct19 : Value}
    {od20 an20 : Option Addr} {sl20 : Array (Option Value)} {oc20 kV20 dc20 pm20 cd20 ct20 : Value}
    {od21 an21 : Option Addr} {sl21 : Array (Option Value)} {oc21 kV21 dc21 pm21 cd21 ct21 : Value}
    {od22 an22 ot22 : Option Addr} {sl22 st22 : Array (Option Value)} {oc22 kV22 dc22 pm22 cd22 ct22 ov22 : Value} {T22 : Addr} {nt22 : Nat}
    {od23 an23 : Option Addr} {sl23 : Array (Option Value)} {oc23 kV23 dc23 pm23 cd23 ct23 : Value}
    {od24 an24 : Option Addr} {sl24 : Array (Option Value)} {oc24 kV24 dc24 pm24 cd24 ct24 : Value}
    {od25 an25 : Option Addr} {sl25 : Array (Option Value)} {oc25 kV25 dc25 pm25 cd25 ct25 : Value}
    {od26 an26 : Option Addr} {sl26 : Array (Option Value)} {oc26 kV26 dc26 pm26 cd26 ct26 : Value}
    {od27 an27 : Option Addr} {sl27 : Array (Option Value)} {oc27 kV27 dc27 pm27 cd27 ct27 : Value}
    {od28 an28 : Option Addr} {sl28 : Array (Option Value)} {oc28 kV28 dc28 pm28 cd28 ct28 : Value}
    {od29 an29 : Option Addr} {sl29 : Array (Option Value)} {oc29 kV29 dc29 pm29 cd29 ct29 : Value}
    {od30 an30 : Option Addr} {sl30 : Array (Option Value)} {oc30 kV30 dc30 pm30 cd30 ct30 : Value}
    {od31 an31 : Option Addr} {sl31 : Array (Option Value)} {oc31 kV31 dc31 pm31 cd31 ct31 : Value}
    {od32 an32 : Option Addr} {sl32 : Array (Option Value)} {oc32 kV32 dc32 pm32 cd32 ct32 : Value}
    {od33 an33 : Option Addr} {sl33 : Array (Option Value)} {oc33 kV33 dc33 pm33 cd33 ct33 : Value}
    {od34 an34 : Option Addr} {sl34 : Array (Option Value)} {oc34 kV34 dc34 pm34 cd34 ct34 : Value}
    {od35 an35 : Option Addr} {sl35 : Array (Option Value)} {oc35 kV35 dc35 pm35 cd35 ct35 : Value}
    {od36 an36 : Option Addr} {sl36 : Array (Option Value)} {oc36 kV36 dc36 pm36 cd36 ct36 : Value}
    {od37 an37 : Option Addr} {sl37 : Array (Option Value)} {oc37 kV37 dc37 pm37 cd37 ct37 : Value}
    {od38 an38 : Option Addr} {sl38 : Array (Option Value)} {oc38 kV38 dc38 pm38 cd38 ct38 : Value}
    {od39 an39 : Option Addr} {sl39 : Array (Option Value)} {oc39 kV39 dc39 pm39 cd39 ct39 : Value}
    {od40 an40 : Option Addr} {sl40 : Array (Option Value)} {oc40 kV40 dc40 pm40 cd40 ct40 : Value}
    {od41 an41 : Option Addr} {sl41 : Array (Option Value)} {oc41 kV41 dc41 pm41 cd41 ct41 : Value}
    {od42 an42 : Option Addr} {sl42 : Array (Option Value)} {oc42 kV42 dc42 pm42 cd42 ct42 : Value}
    {od43 an43 : Option Addr} {sl43 : Array (Option Value)} {oc43 kV43 dc43 pm43 cd43 ct43 : Value}
    {od44 an44 : Option Addr} {sl44 : Array (Option Value)} {oc44 kV44 dc44 pm44 cd44 ct44 : Value}
    {c_GlowError c_NoFont c_NoSign : Addr}
    {ia_NoSign : Addr} {iod_NoSign ian_NoSign : Option Addr} {isl_NoSign : Array (Option Value)} {ioc_NoSign ikV_NoSign idc_NoSign ipm_NoSign icd_NoSign ict_NoSign : Value}
    (cm_Font : PySem.W.nsIn K mainGlobals "Font" = some (some (.ref c_Font))) (pg_Font : PySem.W.plainGet K c_Font Str.empty = true) (hd_Font : PySem.W.hasDictIn K c_Font = true) (po_Font : PySem.W.plainOver K c_Font = true) (sa_Font : PySem.W.findIn K (.ref c_Font) "__setattr__" = some (some (.builtin "object.__setattr__"))) (mk_Font : PySem.W.makesIn K c_Font = true) (kc_Font : PySem.W.keepIn K (.ref c_Font) = true)
    (na_Font_pics : PySem.W.findIn K (.ref c_Font) "pics" = some none)
    (na_Font_high : PySem.W.findIn K (.ref c_Font) "high" = some none)
    (na_Font_gap : PySem.W.findIn K (.ref c_Font) "gap" = some none)
    (a1 : PySem.W.nsIn K mainGlobals "is_whole" = some (some (.ref f1))) (l1 : K.lookup f1 = some ⟨oc1, od1, .func (PySem.W.fnOf "is_whole" "is_whole" (z0C z1U) (z0A z1U) (z02 z1U) .none kV1 dc1 pm1 an1 cd1 ct1), sl1⟩) (c1 : PySem.W.codeIn K cd1 "is_whole" = true) (k1 : PySem.W.keepIn K (.ref f1) = true)
    (a2 : PySem.W.nsIn K mainGlobals "is_within" = some (some (.ref f2))) (l2 : K.lookup f2 = some ⟨oc2, od2, .func (PySem.W.fnOf "is_within" "is_within" (z0C z1B) (z0A z1B) (z02 z1B) .none kV2 dc2 pm2 an2 cd2 ct2), sl2⟩) (c2 : PySem.W.codeIn K cd2 "is_within" = true) (k2 : PySem.W.keepIn K (.ref f2) = true)
    (a3 : PySem.W.nsIn K mainGlobals "is_side" = some (some (.ref f3))) (l3 : K.lookup f3 = some ⟨oc3, od3, .func (PySem.W.fnOf "is_side" "is_side" (z0C z1n) (z0A z1n) (z02 z1n) .none kV3 dc3 pm3 an3 cd3 ct3), sl3⟩) (c3 : PySem.W.codeIn K cd3 "is_side" = true) (k3 : PySem.W.keepIn K (.ref f3) = true)
    (a4 : PySem.W.nsIn K mainGlobals "paint_room" = some (some (.ref f4))) (l4 : K.lookup f4 = some ⟨oc4, od4, .func (PySem.W.fnOf "paint_room" "paint_room" (z0C z0r) (z0A z0r) (z02 z0r) .none kV4 dc4 pm4 an4 cd4 ct4), sl4⟩) (c4 : PySem.W.codeIn K cd4 "paint_room" = true) (k4 : PySem.W.keepIn K (.ref f4) = true)
    (a5 : PySem.W.nsIn K mainGlobals "is_bits_row" = some (some (.ref f5))) (l5 : K.lookup f5 = some ⟨oc5, od5, .func (PySem.W.fnOf "is_bits_row" "is_bits_row" (z0C z0s) (z0A z0s) (z02 z0s) .none kV5 dc5 pm5 an5 cd5 ct5), sl5⟩) (c5 : PySem.W.codeIn K cd5 "is_bits_row" = true) (k5 : PySem.W.keepIn K (.ref f5) = true)
    (a6 : PySem.W.nsIn K mainGlobals "has_form" = some (some (.ref f6))) (l6 : K.lookup f6 = some ⟨oc6, od6, .func (PySem.W.fnOf "has_form" "has_form" (z0C z1V) (z0A z1V) (z02 z1V) .none kV6 dc6 pm6 an6 cd6 ct6), sl6⟩) (c6 : PySem.W.codeIn K cd6 "has_form" = true) (k6 : PySem.W.keepIn K (.ref f6) = true)
    (a7 : PySem.W.nsIn K mainGlobals "is_picture" = some (some (.ref f7))) (l7 : K.lookup f7 = some ⟨oc7, od7, .func (PySem.W.fnOf "is_picture" "is_picture" (z0C z0g) (z0A z0g) (z02 z0g) .none kV7 dc7 pm7 an7 cd7 ct7), sl7⟩) (c7 : PySem.W.codeIn K cd7 "is_picture" = true) (k7 : PySem.W.keepIn K (.ref f7) = true)
    (a8 : PySem.W.nsIn K mainGlobals "paint_of" = some (some (.ref f8))) (l8 : K.lookup f8 = some ⟨oc8, od8, .func (PySem.W.fnOf "paint_of" "paint_of" (z0C z1W) (z0A z1W) (z02 z1W) .none kV8 dc8 pm8 an8 cd8 ct8), sl8⟩) (c8 : PySem.W.codeIn K cd8 "paint_of" = true) (k8 : PySem.W.keepIn K (.ref f8) = true)
    (a9 : PySem.W.nsIn K mainGlobals "mask_of" = some (some (.ref f9))) (l9 : K.lookup f9 = some ⟨oc9, od9, .func (PySem.W.fnOf "mask_of" "mask_of" (z0C z1o) (z0A z1o) (z02 z1o) .none kV9 dc9 pm9 an9 cd9 ct9), sl9⟩) (c9 : PySem.W.codeIn K cd9 "mask_of" = true) (k9 : PySem.W.keepIn K (.ref f9) = true)
    (a10 : PySem.W.nsIn K mainGlobals "filled" = some (some (.ref f10))) (l10 : K.lookup f10 = some ⟨oc10, od10, .func (PySem.W.fnOf "filled" "filled" (z0C z1p) (z0A z1p) (z02 z1p) (.ref T10) kV10 dc10 pm10 an10 cd10 ct10), sl10⟩) (c10 : PySem.W.codeIn K cd10 "filled" = true) (k10 : PySem.W.keepIn K (.ref f10) = true) (t10 : K.lookup T10 = some ⟨ov10, ot10, .seq #[.none] nt10, st10⟩)
    (a11 : PySem.W.nsIn K mainGlobals "bits_of_row" = some (some (.ref f11))) (l11 : K.lookup f11 = some ⟨oc11, od11, .func (PySem.W.fnOf "bits_of_row" "bits_of_row" (z0C z0t) (z0A z0t) (z02 z0t) .none kV11 dc11 pm11 an11 cd11 ct11), sl11⟩) (c11 : PySem.W.codeIn K cd11 "bits_of_row" = true) (k11 : PySem.W.keepIn K (.ref f11) = true)
    (a12 : PySem.W.nsIn K mainGlobals "cut_bits" = some (some (.ref f12))) (l12 : K.lookup f12 = some ⟨oc12, od12, .func (PySem.W.fnOf "cut_bits" "cut_bits" (z0C z1X) (z0A z1X) (z02 z1X) .none kV12 dc12 pm12 an12 cd12 ct12), sl12⟩) (c12 : PySem.W.codeIn K cd12 "cut_bits" = true) (k12 : PySem.W.keepIn K (.ref f12) = true)
    (a13 : PySem.W.nsIn K mainGlobals "cut" = some (some (.ref f13))) (l13 : K.lookup f13 = some ⟨oc13, od13, .func (PySem.W.fnOf "cut" "cut" (z0C z4U) (z0A z4U) (z02 z4U) .none kV13 dc13 pm13 an13 cd13 ct13), sl13⟩) (c13 : PySem.W.codeIn K cd13 "cut" = true) (k13 : PySem.W.keepIn K (.ref f13) = true)
    (a14 : PySem.W.nsIn K mainGlobals "laid_paint" = some (some (.ref f14))) (l14 : K.lookup f14 = some ⟨oc14, od14, .func (PySem.W.fnOf "laid_paint" "laid_paint" (z0C z0u) (z0A z0u) (z02 z0u) .none kV14 dc14 pm14 an14 cd14 ct14), sl14⟩) (c14 : PySem.W.codeIn K cd14 "laid_paint" = true) (k14 : PySem.W.keepIn K (.ref f14) = true)
    (a15 : PySem.W.nsIn K mainGlobals "laid" = some (some (.ref f15))) (l15 : K.lookup f15 = some ⟨oc15, od15, .func (PySem.W.fnOf "laid" "laid" (z0C z2e) (z0A z2e) (z02 z2e) (.ref T15) kV15 dc15 pm15 an15 cd15 ct15), sl15⟩) (c15 : PySem.W.codeIn K cd15 "laid" = true) (k15 : PySem.W.keepIn K (.ref f15) = true) (t15 : K.lookup T15 = some ⟨ov15, ot15, .seq #[.int 0 ka15, .int 0 kb15] nt15, st15⟩)
    (a16 : PySem.W.nsIn K mainGlobals "check_lines" = some (some (.ref f16))) (l16 : K.lookup f16 = some ⟨oc16, od16, .func (PySem.W.fnOf "check_lines" "check_lines" (z0C z0h) (z0A z0h) (z02 z0h) .none kV16 dc16 pm16 an16 cd16 ct16), sl16⟩) (c16 : PySem.W.codeIn K cd16 "check_lines" = true) (k16 : PySem.W.keepIn K (.ref f16) = true)
    (a17 : PySem.W.nsIn K mainGlobals "top_of" = some (some (.ref f17))) (l17 : K.lookup f17 = some ⟨oc17, od17, .func (PySem.W.fnOf "top_of" "top_of" (z0C z2M) (z0A z2M) (z02 z2M) .none kV17 dc17 pm17 an17 cd17 ct17), sl17⟩) (c17 : PySem.W.codeIn K cd17 "top_of" = true) (k17 : PySem.W.keepIn K (.ref f17) = true)
    (a18 : PySem.W.nsIn K mainGlobals "view" = some (some (.ref f18))) (l18 : K.lookup f18 = some ⟨oc18, od18, .func (PySem.W.fnOf "view" "view" (z0C z3Y) (z0A z3Y) (z02 z3Y) .none kV18 dc18 pm18 an18 cd18 ct18), sl18⟩) (c18 : PySem.W.codeIn K cd18 "view" = true) (k18 : PySem.W.keepIn K (.ref f18) = true)
    (a19 : PySem.W.nsIn K mainGlobals "is_sign" = some (some (.ref f19))) (l19 : K.lookup f19 = some ⟨oc19, od19, .func (PySem.W.fnOf "is_sign" "is_sign" (z0C z1q) (z0A z1q) (z02 z1q) .none kV19 dc19 pm19 an19 cd19 ct19), sl19⟩) (c19 : PySem.W.codeIn K cd19 "is_sign" = true) (k19 : PySem.W.keepIn K (.ref f19) = true)
    (a20 : PySem.W.nsIn K mainGlobals "is_pair" = some (some (.ref f20))) (l20 : K.lookup f20 = some ⟨oc20, od20, .func (PySem.W.fnOf "is_pair" "is_pair" (z0C z1r) (z0A z1r) (z02 z1r) .none kV20 dc20 pm20 an20 cd20 ct20), sl20⟩) (c20 : PySem.W.codeIn K cd20 "is_pair" = true) (k20 : PySem.W.keepIn K (.ref f20) = true)
    (a21 : PySem.W.nsIn K mainGlobals "pics_by_signs" = some (some (.ref f21))) (l21 : K.lookup f21 = some ⟨oc21, od21, .func (PySem.W.fnOf "pics_by_signs" "pics_by_signs" (z0C z0T) (z0A z0T) (z02 z0T) .none kV21 dc21 pm21 an21 cd21 ct21), sl21⟩) (c21 : PySem.W.codeIn K cd21 "pics_by_signs" = true) (k21 : PySem.W.keepIn K (.ref f21) = true)
    (a22 : PySem.W.findIn K (.ref c_Font) "__init__" = some (some (.ref f22))) (l22 : K.lookup f22 = some ⟨oc22, od22, .func (PySem.W.fnOf "__init__" "Font.__init__" (z0C z1Q) (z0A z1Q) (z02 z1Q) (.ref T22) kV22 dc22 pm22 an22 cd22 ct22), sl22⟩) (c22 : PySem.W.codeIn K cd22 "Font.__init__" = true) (k22 : PySem.W.keepIn K (.ref f22) = true) (t22 : K.lookup T22 = some ⟨ov22, ot22, .seq #[.int 1 ka22] nt22, st22⟩)
    (i22 : PySem.W.isFn K (.ref f22) = true)
    (a23 : PySem.W.findIn K (.ref c_Font) "height" = some (some (.ref f23))) (l23 : K.lookup f23 = some ⟨oc23, od23, .func (PySem.W.fnOf "height" "Font.height" (z0C z0x) (z0A z0x) (z02 z0x) .none kV23 dc23 pm23 an23 cd23 ct23), sl23⟩) (c23 : PySem.W.codeIn K cd23 "Font.height" = true) (k23 : PySem.W.keepIn K (.ref f23) = true)
    (i23 : PySem.W.isFn K (.ref f23) = true)
    (a24 : PySem.W.findIn K (.ref c_Font) "pics_of" = some (some (.ref f24))) (l24 : K.lookup f24 = some ⟨oc24, od24, .func (PySem.W.fnOf "pics_of" "Font.pics_of" (z0C z0i) (z0A z0i) (z02 z0i) .none kV24 dc24 pm24 an24 cd24 ct24), sl24⟩) (c24 : PySem.W.codeIn K cd24 "Font.pics_of" = true) (k24 : PySem.W.keepIn K (.ref f24) = true)
    (i24 : PySem.W.isFn K (.ref f24) = true)
    (a25 : PySem.W.findIn K (.ref c_Font) "band" = some (some (.ref f25))) (l25 : K.lookup f25 = some ⟨oc25, od25, .func (PySem.W.fnOf "band" "Font.band" (z0C z1R) (z0A z1R) (z02 z1R) .none kV25 dc25 pm25 an25 cd25 ct25), sl25⟩) (c25 : PySem.W.codeIn K cd25 "Font.band" = true) (k25 : PySem.W.keepIn K (.ref f25) = true)
    (i25 : PySem.W.isFn K (.ref f25) = true)
    (a26 : PySem.W.nsIn K mainGlobals "_law_draw" = some (some (.ref f26))) (l26 : K.lookup f26 = some ⟨oc26, od26, .func (PySem.W.fnOf "_law_draw" "_law_draw" (z0C z1Y) (z0A z1Y) (z02 z1Y) .none kV26 dc26 pm26 an26 cd26 ct26), sl26⟩) (c26 : PySem.W.codeIn K cd26 "_law_draw" = true) (k26 : PySem.W.keepIn K (.ref f26) = true)
    (a27 : PySem.W.nsIn K mainGlobals "_law_great" = some (some (.ref f27))) (l27 : K.lookup f27 = some ⟨oc27, od27, .func (PySem.W.fnOf "_law_great" "_law_great" (z0C z1C) (z0A z1C) (z02 z1C) .none kV27 dc27 pm27 an27 cd27 ct27), sl27⟩) (c27 : PySem.W.codeIn K cd27 "_law_great" = true) (k27 : PySem.W.keepIn K (.ref f27) = true)
    (a28 : PySem.W.nsIn K mainGlobals "_law_whole" = some (some (.ref f28))) (l28 : K.lookup f28 = some ⟨oc28, od28, .func (PySem.W.fnOf "_law_whole" "_law_whole" (z0C z1D) (z0A z1D) (z02 z1D) .none kV28 dc28 pm28 an28 cd28 ct28), sl28⟩) (c28 : PySem.W.codeIn K cd28 "_law_whole" = true) (k28 : PySem.W.keepIn K (.ref f28) = true)
    (a29 : PySem.W.nsIn K mainGlobals "_law_shade" = some (some (.ref f29))) (l29 : K.lookup f29 = some ⟨oc29, od29, .func (PySem.W.fnOf "_law_shade" "_law_shade" (z0C z1E) (z0A z1E) (z02 z1E) .none kV29 dc29 pm29 an29 cd29 ct29), sl29⟩) (c29 : PySem.W.codeIn K cd29 "_law_shade" = true) (k29 : PySem.W.keepIn K (.ref f29) = true)
    (a30 : PySem.W.nsIn K mainGlobals "_law_rows" = some (some (.ref f30))) (l30 : K.lookup f30 = some ⟨oc30, od30, .func (PySem.W.fnOf "_law_rows" "_law_rows" (z0C z1J) (z0A z1J) (z02 z1J) .none kV30 dc30 pm30 an30 cd30 ct30), sl30⟩) (c30 : PySem.W.codeIn K cd30 "_law_rows" = true) (k30 : PySem.W.keepIn K (.ref f30) = true)
    (a31 : PySem.W.nsIn K mainGlobals "_law_bits" = some (some (.ref f31))) (l31 : K.lookup f31 = some ⟨oc31, od31, .func (PySem.W.fnOf "_law_bits" "_law_bits" (z0C z1Z) (z0A z1Z) (z02 z1Z) .none kV31 dc31 pm31 an31 cd31 ct31), sl31⟩) (c31 : PySem.W.codeIn K cd31 "_law_bits" = true) (k31 : PySem.W.keepIn K (.ref f31) = true)
    (a32 : PySem.W.nsIn K mainGlobals "_law_is_pic" = some (some (.ref f32))) (l32 : K.lookup f32 = some ⟨oc32, od32, .func (PySem.W.fnOf "_law_is_pic" "_law_is_pic" (z0C z0y) (z0A z0y) (z02 z0y) .none kV32 dc32 pm32 an32 cd32 ct32), sl32⟩) (c32 : PySem.W.codeIn K cd32 "_law_is_pic" = true) (k32 : PySem.W.keepIn K (.ref f32) = true)
    (a33 : PySem.W.nsIn K mainGlobals "_law_sign" = some (some (.ref f33))) (l33 : K.lookup f33 = some ⟨oc33, od33, .func (PySem.W.fnOf "_law_sign" "_law_sign" (z0C z1a) (z0A z1a) (z02 z1a) .none kV33 dc33 pm33 an33 cd33 ct33), sl33⟩) (c33 : PySem.W.codeIn K cd33 "_law_sign" = true) (k33 : PySem.W.keepIn K (.ref f33) = true)
    (a34 : PySem.W.nsIn K mainGlobals "_law_signs" = some (some (.ref f34))) (l34 : K.lookup f34 = some ⟨oc34, od34, .func (PySem.W.fnOf "_law_signs" "_law_signs" (z0C z1F) (z0A z1F) (z02 z1F) .none kV34 dc34 pm34 an34 cd34 ct34), sl34⟩) (c34 : PySem.W.codeIn K cd34 "_law_signs" = true) (k34 : PySem.W.keepIn K (.ref f34) = true)
    (a35 : PySem.W.nsIn K mainGlobals "_law_pairs" = some (some (.ref f35))) (l35 : K.lookup f35 = some ⟨oc35, od35, .func (PySem.W.fnOf "_law_pairs" "_law_pairs" (z0C z0z) (z0A z0z) (z02 z0z) .none kV35 dc35 pm35 an35 cd35 ct35), sl35⟩) (c35 : PySem.W.codeIn K cd35 "_law_pairs" = true) (k35 : PySem.W.keepIn K (.ref f35) = true)
    (a36 : PySem.W.nsIn K mainGlobals "_law_columns" = some (some (.ref f36))) (l36 : K.lookup f36 = some ⟨oc36, od36, .func (PySem.W.fnOf "_law_columns" "_law_columns" (z0C z0Z) (z0A z0Z) (z02 z0Z) .none kV36 dc36 pm36 an36 cd36 ct36), sl36⟩) (c36 : PySem.W.codeIn K cd36 "_law_columns" = true) (k36 : PySem.W.keepIn K (.ref f36) = true)
    (a37 : PySem.W.nsIn K mainGlobals "_law_text" = some (some (.ref f37))) (l37 : K.lookup f37 = some ⟨oc37, od37, .func (PySem.W.fnOf "_law_text" "_law_text" (z0C z1K) (z0A z1K) (z02 z1K) .none kV37 dc37 pm37 an37 cd37 ct37), sl37⟩) (c37 : PySem.W.codeIn K cd37 "_law_text" = true) (k37 : PySem.W.keepIn K (.ref f37) = true)
    (a38 : PySem.W.nsIn K mainGlobals "_law_lines" = some (some (.ref f38))) (l38 : K.lookup f38 = some ⟨oc38, od38, .func (PySem.W.fnOf "_law_lines" "_law_lines" (z0C z0m) (z0A z0m) (z02 z0m) .none kV38 dc38 pm38 an38 cd38 ct38), sl38⟩) (c38 : PySem.W.codeIn K cd38 "_law_lines" = true) (k38 : PySem.W.keepIn K (.ref f38) = true)
    (a39 : PySem.W.nsIn K mainGlobals "_law_begin" = some (some (.ref f39))) (l39 : K.lookup f39 = some ⟨oc39, od39, .func (PySem.W.fnOf "_law_begin" "_law_begin" (z0C z1G) (z0A z1G) (z02 z1G) .none kV39 dc39 pm39 an39 cd39 ct39), sl39⟩) (c39 : PySem.W.codeIn K cd39 "_law_begin" = true) (k39 : PySem.W.keepIn K (.ref f39) = true)
    (a40 : PySem.W.nsIn K mainGlobals "_law_due" = some (some (.ref f40))) (l40 : K.lookup f40 = some ⟨oc40, od40, .func (PySem.W.fnOf "_law_due" "_law_due" (z0C z1s) (z0A z1s) (z02 z1s) .none kV40 dc40 pm40 an40 cd40 ct40), sl40⟩) (c40 : PySem.W.codeIn K cd40 "_law_due" = true) (k40 : PySem.W.keepIn K (.ref f40) = true)
    (a41 : PySem.W.nsIn K mainGlobals "_law_sides" = some (some (.ref f41))) (l41 : K.lookup f41 = some ⟨oc41, od41, .func (PySem.W.fnOf "_law_sides" "_law_sides" (z0C z1H) (z0A z1H) (z02 z1H) .none kV41 dc41 pm41 an41 cd41 ct41), sl41⟩) (c41 : PySem.W.codeIn K cd41 "_law_sides" = true) (k41 : PySem.W.keepIn K (.ref f41) = true)
    (a42 : PySem.W.nsIn K mainGlobals "_law_refused" = some (some (.ref f42))) (l42 : K.lookup f42 = some ⟨oc42, od42, .func (PySem.W.fnOf "_law_refused" "_law_refused" (z0C z0j) (z0A z0j) (z02 z0j) .none kV42 dc42 pm42 an42 cd42 ct42), sl42⟩) (c42 : PySem.W.codeIn K cd42 "_law_refused" = true) (k42 : PySem.W.keepIn K (.ref f42) = true)
    (a43 : PySem.W.nsIn K mainGlobals "_law_no_sign" = some (some (.ref f43))) (l43 : K.lookup f43 = some ⟨oc43, od43, .func (PySem.W.fnOf "_law_no_sign" "_law_no_sign" (z0C z0v) (z0A z0v) (z02 z0v) .none kV43 dc43 pm43 an43 cd43 ct43), sl43⟩) (c43 : PySem.W.codeIn K cd43 "_law_no_sign" = true) (k43 : PySem.W.keepIn K (.ref f43) = true)
    (a44 : PySem.W.nsIn K mainGlobals "law" = some (some (.ref f44))) (l44 : K.lookup f44 = some ⟨oc44, od44, .func (PySem.W.fnOf "law" "law" (z0C z31) (z0A z31) (z02 z31) .none kV44 dc44 pm44 an44 cd44 ct44), sl44⟩) (c44 : PySem.W.codeIn K cd44 "law" = true) (k44 : PySem.W.keepIn K (.ref f44) = true)
    (z1 : PySem.W.nsIn K mainGlobals "len" = some none)
    (z2 : PySem.W.nsIn K mainGlobals "range" = some none)
    (z3 : PySem.W.nsIn K mainGlobals "enumerate" = some none)
    (z4 : PySem.W.nsIn K mainGlobals "zip" = some none)
    (z5 : PySem.W.nsIn K mainGlobals "reversed" = some none)
    (z6 : PySem.W.nsIn K mainGlobals "isinstance" = some none)
    (z7 : PySem.W.nsIn K mainGlobals "int" = some none)
    (z8 : PySem.W.nsIn K mainGlobals "bool" = some none)
    (z9 : PySem.W.nsIn K mainGlobals "str" = some none)
    (z10 : PySem.W.nsIn K mainGlobals "list" = some none)
    (z11 : PySem.W.nsIn K mainGlobals "tuple" = some none)
    (z12 : PySem.W.nsIn K mainGlobals "dict" = some none)
    (z13 : PySem.W.nsIn K mainGlobals "all" = some none)
    (z14 : PySem.W.nsIn K mainGlobals "max" = some none)
    (z15 : PySem.W.nsIn K mainGlobals "ord" = some none)
    (cm_GlowError : PySem.W.nsIn K mainGlobals "GlowError" = some (some (.ref c_GlowError)))
    (cm_NoFont : PySem.W.nsIn K mainGlobals "NoFont" = some (some (.ref c_NoFont)))
    (cm_NoSign : PySem.W.nsIn K mainGlobals "NoSign" = some (some (.ref c_NoSign)))
    (gs : PySem.W.specialIn K (.ref c_GlowError) "__getattribute__" = some (some (.builtin "type.__getattribute__"))) (gr : PySem.W.readsIn K c_GlowError (.type "type") = true) (gf : PySem.W.findCls K (.ref c_GlowError) (.type "type") "__init__" = some (.val (.builtin "ValueError.__init__")))
    (fi_NoFont : PySem.W.findIn K (.ref c_NoFont) "__init__" = some (some (.builtin "ValueError.__init__")))
    (fi_NoSign : PySem.W.findIn K (.ref c_NoSign) "__init__" = some (some (.ref ia_NoSign))) (il_NoSign : K.lookup ia_NoSign = some ⟨ioc_NoSign, iod_NoSign, .func (PySem.W.fnOf "__init__" "NoSign.__init__" (z0C z2B) (z0A z2B) (z02 z2B) .none ikV_NoSign idc_NoSign ipm_NoSign ian_NoSign icd_NoSign ict_NoSign), isl_NoSign⟩) (ic_NoSign : PySem.W.codeIn K icd_NoSign "NoSign.__init__" = true) (ik_NoSign : PySem.W.keepIn K (.ref ia_NoSign) = true) (it_NoSign : PySem.W.typeIn K (.ref ia_NoSign) = some (.type "function"))
    (ff_NoSign_sign : PySem.W.findIn K (.ref c_NoSign) "sign" = some none)
    (ff_NoSign_at : PySem.W.findIn K (.ref c_NoSign) "at" = some none)
    (xall : ([c_GlowError, c_NoFont, c_NoSign] : List Addr).all (xeB K) = true) (kall : zAr K [c_NoFont, c_NoSign] c_GlowError = true) (k_tup : PySem.W.kitOne K (.type "tuple") (.ref c_GlowError) = some false) (aball : (([c_NoFont, c_NoSign] : List Addr).all fun c => PySem.W.mroIn K c (.ref c_GlowError) == some true) = true)
    : ∃ fd : FuncData, (∀ (s : Shared) (v : Value), BindsTo s fd ⟨[v], []⟩ [("_law_script", v)]) /\ ∀ base : Heap, K.In base -> base.Ns mainGlobals mg -> FnOk l.prog w K mg base CX0 10 fa fd ["_law_script"] (z9n K) := by
  have e := hfa.symm.trans (PySem.W.mg_of X G a44)
  cases e
  have B : Blt mg := ⟨PySem.W.mg_none_of X G z1, PySem.W.mg_none_of X G z2, PySem.W.mg_none_of X G z3, PySem.W.mg_none_of X G z4, PySem.W.mg_none_of X G z5, PySem.W.mg_none_of X G z6, PySem.W.mg_none_of X G z7, PySem.W.mg_none_of X G z8, PySem.W.mg_none_of X G z9, PySem.W.mg_none_of X G z10, PySem.W.mg_none_of X G z11, PySem.W.mg_none_of X G z12, PySem.W.mg_none_of X G z13, PySem.W.mg_none_of X G z14, PySem.W.mg_none_of X G z15⟩
  have xa := List.all_eq_true.mp xall
  have xk_NoFont := z8x (xa c_NoFont (by simp))
  have xk_NoSign := z8x (xa c_NoSign (by simp))
  have Z : Cl K mg c_GlowError c_NoFont c_NoSign := ⟨PySem.W.mg_of X G cm_GlowError, ⟨gs, gr, gf⟩, (z8x (xa c_GlowError (by simp))).1, k_tup, (fun c hc => by simpa using List.all_eq_true.mp aball c hc), PySem.W.mg_of X G cm_NoFont, xk_NoFont.1, PySem.W.mg_of X G cm_NoSign, xk_NoSign.1, ff_NoSign_sign, ff_NoSign_at, z8y kall⟩
  have FI_NoSign := z0N (st := z2B) il_NoSign ic_NoSign ik_NoSign
  have Zo : Co K mg c_Font := ⟨PySem.W.mg_of X G cm_Font, ⟨pg_Font, hd_Font, po_Font, sa_Font⟩, na_Font_pics, na_Font_high, na_Font_gap⟩
  have F1 := z0N (st := z1U) l1 c1 k1
  have D1 : Df K mg "is_whole" z1U ["thing"] _ _ := ⟨F1, F1.binds (ps := ["thing"]) fun _ _ _ _ _ _ us hl => match us, hl with | [_], _ => rfl, PySem.W.mg_of X G a1⟩
  have F2 := z0N (st := z1B) l2 c2 k2
  have D2 : Df K mg "is_within" z1B ["thing", "least", "most"] _ _ := ⟨F2, F2.binds (ps := ["thing", "least", "most"]) fun _ _ _ _ _ _ us hl => match us, hl with | [_, _, _], _ => rfl, PySem.W.mg_of X G a2⟩
  have F3 := z0N (st := z1n) l3 c3 k3
  have D3 : Df K mg "is_side" z1n ["thing"] _ _ := ⟨F3, F3.binds (ps := ["thing"]) fun _ _ _ _ _ _ us hl => match us, hl with | [_], _ => rfl, PySem.W.mg_of X G a3⟩
  have F4 := z0N (st := z0r) l4 c4 k4
  have D4 : Df K mg "paint_room" z0r ["wide", "mask"] _ _ := ⟨F4, F4.binds (ps := ["wide", "mask"]) fun _ _ _ _ _ _ us hl => match us, hl with | [_, _], _ => rfl, PySem.W.mg_of X G a4⟩
  have F5 := z0N (st := z0s) l5 c5 k5
  have D5 : Df K mg "is_bits_row" z0s ["wide", "paint", "mask"] _ _ := ⟨F5, F5.binds (ps := ["wide", "paint", "mask"]) fun _ _ _ _ _ _ us hl => match us, hl with | [_, _, _], _ => rfl, PySem.W.mg_of X G a5⟩
  have F6 := z0N (st := z1V) l6 c6 k6
  have D6 : Df K mg "has_form" z1V ["thing"] _ _ := ⟨F6, F6.binds (ps := ["thing"]) fun _ _ _ _ _ _ us hl => match us, hl with | [_], _ => rfl, PySem.W.mg_of X G a6⟩
  have F7 := z0N (st := z0g) l7 c7 k7
  have D7 : Df K mg "is_picture" z0g ["thing"] _ _ := ⟨F7, F7.binds (ps := ["thing"]) fun _ _ _ _ _ _ us hl => match us, hl with | [_], _ => rfl, PySem.W.mg_of X G a7⟩
  have F8 := z0N (st := z1W) l8 c8 k8
  have D8 : Df K mg "paint_of" z1W ["row"] _ _ := ⟨F8, F8.binds (ps := ["row"]) fun _ _ _ _ _ _ us hl => match us, hl with | [_], _ => rfl, PySem.W.mg_of X G a8⟩
  have F9 := z0N (st := z1o) l9 c9 k9
  have D9 : Df K mg "mask_of" z1o ["row"] _ _ := ⟨F9, F9.binds (ps := ["row"]) fun _ _ _ _ _ _ us hl => match us, hl with | [_], _ => rfl, PySem.W.mg_of X G a9⟩
  have F10 := z5i (st := z1p) l10 c10 k10
  have D10 : DfD K mg "filled" z1p ["wide", "high", "cell"] _ _ _ := ⟨F10, fun s us X hl => match us, hl with | [_, _, _], _ => PySem.W.binds_K X rfl t10 rfl rfl rfl, fun s us X hl => match us, (by simpa using hl : us.length = 2) with | [_, _], _ => PySem.W.binds_K X rfl t10 rfl rfl rfl, PySem.W.mg_of X G a10⟩
  have F11 := z0N (st := z0t) l11 c11 k11
  have D11 : Df K mg "bits_of_row" z0t ["rows", "y"] _ _ := ⟨F11, F11.binds (ps := ["rows", "y"]) fun _ _ _ _ _ _ us hl => match us, hl with | [_, _], _ => rfl, PySem.W.mg_of X G a11⟩
  have F12 := z0N (st := z1X) l12 c12 k12
  have D12 : Df K mg "cut_bits" z1X ["bits", "at", "many"] _ _ := ⟨F12, F12.binds (ps := ["bits", "at", "many"]) fun _ _ _ _ _ _ us hl => match us, hl with | [_, _, _], _ => rfl, PySem.W.mg_of X G a12⟩
  have F13 := z0N (st := z4U) l13 c13 k13
  have D13 : Df K mg "cut" z4U ["pic", "x", "y", "wide", "high"] _ _ := ⟨F13, F13.binds (ps := ["pic", "x", "y", "wide", "high"]) fun _ _ _ _ _ _ us hl => match us, hl with | [_, _, _, _, _], _ => rfl, PySem.W.mg_of X G a13⟩
  have F14 := z0N (st := z0u) l14 c14 k14
  have D14 : Df K mg "laid_paint" z0u ["wide", "lower", "upper", "mask"] _ _ := ⟨F14, F14.binds (ps := ["wide", "lower", "upper", "mask"]) fun _ _ _ _ _ _ us hl => match us, hl with | [_, _, _, _], _ => rfl, PySem.W.mg_of X G a14⟩
  have F15 := z5i (st := z2e) l15 c15 k15
  have D15 : Df2 K mg "laid" z2e ["under", "over", "x", "y"] _ _ _ (0) (0) := ⟨F15, fun s us X hl => match us, hl with | [_, _, _, _], _ => PySem.W.binds_K X rfl t15 rfl rfl rfl, ⟨_, fun s us X hl => match us, (by simpa using hl : us.length = 3) with | [_, _, _], _ => PySem.W.binds_K X rfl t15 rfl rfl rfl⟩, ⟨_, _, fun s us X hl => match us, (by simpa using hl : us.length = 2) with | [_, _], _ => PySem.W.binds_K X rfl t15 rfl rfl rfl⟩, PySem.W.mg_of X G a15⟩
  have F16 := z0N (st := z0h) l16 c16 k16
  have D16 : Df K mg "check_lines" z0h ["font", "lines"] _ _ := ⟨F16, F16.binds (ps := ["font", "lines"]) fun _ _ _ _ _ _ us hl => match us, hl with | [_, _], _ => rfl, PySem.W.mg_of X G a16⟩
  have F17 := z0N (st := z2M) l17 c17 k17
  have D17 : Df K mg "top_of" z2M ["font", "lead", "at"] _ _ := ⟨F17, F17.binds (ps := ["font", "lead", "at"]) fun _ _ _ _ _ _ us hl => match us, hl with | [_, _, _], _ => rfl, PySem.W.mg_of X G a17⟩
  have F18 := z0N (st := z3Y) l18 c18 k18
  have D18 : Df K mg "view" z3Y ["font", "lines", "lead", "x", "y", "wide", "high"] _ _ := ⟨F18, F18.binds (ps := ["font", "lines", "lead", "x", "y", "wide", "high"]) fun _ _ _ _ _ _ us hl => match us, hl with | [_, _, _, _, _, _, _], _ => rfl, PySem.W.mg_of X G a18⟩
  have F19 := z0N (st := z1q) l19 c19 k19
  have D19 : Df K mg "is_sign" z1q ["thing"] _ _ := ⟨F19, F19.binds (ps := ["thing"]) fun _ _ _ _ _ _ us hl => match us, hl with | [_], _ => rfl, PySem.W.mg_of X G a19⟩
  have F20 := z0N (st := z1r) l20 c20 k20
  have D20 : Df K mg "is_pair" z1r ["thing"] _ _ := ⟨F20, F20.binds (ps := ["thing"]) fun _ _ _ _ _ _ us hl => match us, hl with | [_], _ => rfl, PySem.W.mg_of X G a20⟩
  have F21 := z0N (st := z0T) l21 c21 k21
  have D21 : Df K mg "pics_by_signs" z0T ["pairs"] _ _ := ⟨F21, F21.binds (ps := ["pairs"]) fun _ _ _ _ _ _ us hl => match us, hl with | [_], _ => rfl, PySem.W.mg_of X G a21⟩
  have F22 := z5i (st := z1Q) l22 c22 k22
  have F23 := z0N (st := z0x) l23 c23 k23
  have F24 := z0N (st := z0i) l24 c24 k24
  have F25 := z0N (st := z1R) l25 c25 k25
  have F26 := z0N (st := z1Y) l26 c26 k26
  have D26 : Df K mg "_law_draw" z1Y ["_law_script", "_law_k", "_law_prime", "_law_many"] _ _ := ⟨F26, F26.binds (ps := ["_law_script", "_law_k", "_law_prime", "_law_many"]) fun _ _ _ _ _ _ us hl => match us, hl with | [_, _, _, _], _ => rfl, PySem.W.mg_of X G a26⟩
  have F27 := z0N (st := z1C) l27 c27 k27
  have D27 : Df K mg "_law_great" z1C ["_law_script", "_law_k", "_law_many"] _ _ := ⟨F27, F27.binds (ps := ["_law_script", "_law_k", "_law_many"]) fun _ _ _ _ _ _ us hl => match us, hl with | [_, _, _], _ => rfl, PySem.W.mg_of X G a27⟩
  have F28 := z0N (st := z1D) l28 c28 k28
  have D28 : Df K mg "_law_whole" z1D ["_law_found"] _ _ := ⟨F28, F28.binds (ps := ["_law_found"]) fun _ _ _ _ _ _ us hl => match us, hl with | [_], _ => rfl, PySem.W.mg_of X G a28⟩
  have F29 := z0N (st := z1E) l29 c29 k29
  have D29 : Df K mg "_law_shade" z1E ["_law_script", "_law_k"] _ _ := ⟨F29, F29.binds (ps := ["_law_script", "_law_k"]) fun _ _ _ _ _ _ us hl => match us, hl with | [_, _], _ => rfl, PySem.W.mg_of X G a29⟩
  have F30 := z0N (st := z1J) l30 c30 k30
  have D30 : Df K mg "_law_rows" z1J ["_law_script", "_law_k", "_law_wide", "_law_high"] _ _ := ⟨F30, F30.binds (ps := ["_law_script", "_law_k", "_law_wide", "_law_high"]) fun _ _ _ _ _ _ us hl => match us, hl with | [_, _, _, _], _ => rfl, PySem.W.mg_of X G a30⟩
  have F31 := z0N (st := z1Z) l31 c31 k31
  have D31 : Df K mg "_law_bits" z1Z ["_law_rows_here"] _ _ := ⟨F31, F31.binds (ps := ["_law_rows_here"]) fun _ _ _ _ _ _ us hl => match us, hl with | [_], _ => rfl, PySem.W.mg_of X G a31⟩
  have F32 := z0N (st := z0y) l32 c32 k32
  have D32 : Df K mg "_law_is_pic" z0y ["_law_found", "_law_due_here"] _ _ := ⟨F32, F32.binds (ps := ["_law_found", "_law_due_here"]) fun _ _ _ _ _ _ us hl => match us, hl with | [_, _], _ => rfl, PySem.W.mg_of X G a32⟩
  have F33 := z0N (st := z1a) l33 c33 k33
  have D33 : Df K mg "_law_sign" z1a ["_law_number"] _ _ := ⟨F33, F33.binds (ps := ["_law_number"]) fun _ _ _ _ _ _ us hl => match us, hl with | [_], _ => rfl, PySem.W.mg_of X G a33⟩
  have F34 := z0N (st := z1F) l34 c34 k34
  have D34 : Df K mg "_law_signs" z1F ["_law_script", "_law_k", "_law_many", "_law_high"] _ _ := ⟨F34, F34.binds (ps := ["_law_script", "_law_k", "_law_many", "_law_high"]) fun _ _ _ _ _ _ us hl => match us, hl with | [_, _, _, _], _ => rfl, PySem.W.mg_of X G a34⟩
  have F35 := z0N (st := z0z) l35 c35 k35
  have D35 : Df K mg "_law_pairs" z0z ["_law_signs_here"] _ _ := ⟨F35, F35.binds (ps := ["_law_signs_here"]) fun _ _ _ _ _ _ us hl => match us, hl with | [_], _ => rfl, PySem.W.mg_of X G a35⟩
  have F36 := z0N (st := z0Z) l36 c36 k36
  have D36 : Df K mg "_law_columns" z0Z ["_law_text_here", "_law_table", "_law_high", "_law_gap"] _ _ := ⟨F36, F36.binds (ps := ["_law_text_here", "_law_table", "_law_high", "_law_gap"]) fun _ _ _ _ _ _ us hl => match us, hl with | [_, _, _, _], _ => rfl, PySem.W.mg_of X G a36⟩
  have F37 := z0N (st := z1K) l37 c37 k37
  have D37 : Df K mg "_law_text" z1K ["_law_script", "_law_k", "_law_signs_here", "_law_size"] _ _ := ⟨F37, F37.binds (ps := ["_law_script", "_law_k", "_law_signs_here", "_law_size"]) fun _ _ _ _ _ _ us hl => match us, hl with | [_, _, _, _], _ => rfl, PySem.W.mg_of X G a37⟩
  have F38 := z0N (st := z0m) l38 c38 k38
  have D38 : Df K mg "_law_lines" z0m ["_law_script", "_law_signs_here"] _ _ := ⟨F38, F38.binds (ps := ["_law_script", "_law_signs_here"]) fun _ _ _ _ _ _ us hl => match us, hl with | [_, _], _ => rfl, PySem.W.mg_of X G a38⟩
  have F39 := z0N (st := z1G) l39 c39 k39
  have D39 : Df K mg "_law_begin" z1G ["_law_script", "_law_k", "_law_size"] _ _ := ⟨F39, F39.binds (ps := ["_law_script", "_law_k", "_law_size"]) fun _ _ _ _ _ _ us hl => match us, hl with | [_, _, _], _ => rfl, PySem.W.mg_of X G a39⟩
  have F40 := z0N (st := z1s) l40 c40 k40
  have D40 : Df K mg "_law_due" z1s ["_law_lines_here", "_law_sizes", "_law_spot", "_law_sides_here"] _ _ := ⟨F40, F40.binds (ps := ["_law_lines_here", "_law_sizes", "_law_spot", "_law_sides_here"]) fun _ _ _ _ _ _ us hl => match us, hl with | [_, _, _, _], _ => rfl, PySem.W.mg_of X G a40⟩
  have F41 := z0N (st := z1H) l41 c41 k41
  have D41 : Df K mg "_law_sides" z1H ["_law_script"] _ _ := ⟨F41, F41.binds (ps := ["_law_script"]) fun _ _ _ _ _ _ us hl => match us, hl with | [_], _ => rfl, PySem.W.mg_of X G a41⟩
  have F42 := z0N (st := z0j) l42 c42 k42
  have D42 : Df K mg "_law_refused" z0j ["_law_font", "_law_lines_here", "_law_lead", "_law_spot", "_law_sides_here", "_law_due_here"] _ _ := ⟨F42, F42.binds (ps := ["_law_font", "_law_lines_here", "_law_lead", "_law_spot", "_law_sides_here", "_law_due_here"]) fun _ _ _ _ _ _ us hl => match us, hl with | [_, _, _, _, _, _], _ => rfl, PySem.W.mg_of X G a42⟩
  have F43 := z0N (st := z0v) l43 c43 k43
  have D43 : Df K mg "_law_no_sign" z0v ["_law_script", "_law_font", "_law_signs_here", "_law_lines_here", "_law_lead", "_law_spot", "_law_sides_here"] _ _ := ⟨F43, F43.binds (ps := ["_law_script", "_law_font", "_law_signs_here", "_law_lines_here", "_law_lead", "_law_spot", "_law_sides_here"]) fun _ _ _ _ _ _ us hl => match us, hl with | [_, _, _, _, _, _, _], _ => rfl, PySem.W.mg_of X G a43⟩
  have F44 := z0N (st := z31) l44 c44 k44
  have D44 : Df K mg "law" z31 ["_law_script"] _ _ := ⟨F44, F44.binds (ps := ["_law_script"]) fun _ _ _ _ _ _ us hl => match us, hl with | [_], _ => rfl, PySem.W.mg_of X G a44⟩
  refine ⟨PySem.W.fnOf "law" "law" (z0C z31) (z0A z31) (z02 z31) .none kV44 dc44 pm44 an44 cd44 ct44, fun s v => .of_eq rfl, fun base _ _ => ?_⟩
  have E_NoFont : Oo K mg "NoFont" c_NoFont := ⟨PySem.W.mg_of X G cm_NoFont, ⟨xk_NoFont.1, xk_NoFont.2, fi_NoFont⟩⟩
  have E_NoSign : Oe l.prog w K mg base "NoSign" c_NoSign ["self", "sign", "at"] 1 (zCr c_NoSign "sign" "at") := ⟨ia_NoSign, _, PySem.W.mg_of X G cm_NoSign, ⟨xk_NoSign.1, xk_NoSign.2, fi_NoSign, it_NoSign⟩, FI_NoSign.binds (ps := ["self", "sign", "at"]) fun _ _ _ _ _ _ us hl => match us, hl with | [_, _, _], _ => rfl, z9Q Z FI_NoSign⟩
  have O_iswhole := z7Y (P := l.prog) (w := w) (base := base) D1  B
  have O_iswithin := z69 (P := l.prog) (w := w) (base := base) D2 O_iswhole B
  have O_isside := z9S (P := l.prog) (w := w) (base := base) D3 O_iswithin B
  have O_paintroom := z5L (P := l.prog) (w := w) (base := base) D4  B
  have O_isbitsrow := z5N (P := l.prog) (w := w) (base := base) D5 O_iswhole O_paintroom B
  have O_hasform := z7h (P := l.prog) (w := w) (base := base) D6 O_isside B
  have O_ispicture := z5P (P := l.prog) (w := w) (base := base) D7 O_isbitsrow O_hasform B
  have O_paintof := z7Z (P := l.prog) (w := w) (base := base) D8  B
  have O_maskof := z9T (P := l.prog) (w := w) (base := base) D9  B
  have Ff10 := z7a (P := l.prog) (w := w) (base := base) D10 O_paintof O_maskof B
  have O_filled := D10.ow Ff10
  have Od2_filled := D10.owd Ff10
  have O_bitsofrow := z5R (P := l.prog) (w := w) (base := base) D11  B
  have O_cutbits := z7i (P := l.prog) (w := w) (base := base) D12  B
  have O_cut := zCl (P := l.prog) (w := w) (base := base) D13 Od2_filled O_bitsofrow O_cutbits B
  have O_laidpaint := z5T (P := l.prog) (w := w) (base := base) D14 O_paintroom B
  have Ff15 := zAR (P := l.prog) (w := w) (base := base) D15 O_cut O_laidpaint B
  have O_laid := D15.ow Ff15
  have Od3_laid := D15.owd1 Ff15
  have Od2_laid := D15.owd2 Ff15
  have O_issign := z9V (P := l.prog) (w := w) (base := base) D19  B
  have O_ispair := z9X (P := l.prog) (w := w) (base := base) D20 O_ispicture O_issign B
  have O_picsbysigns := z3j (P := l.prog) (w := w) (base := base) D21 Z O_iswithin O_ispair E_NoFont B
  have Ff22 := z6F (P := l.prog) (w := w) (base := base) Zo Z O_iswithin O_picsbysigns E_NoFont F22 B
  have O_Fontinit : Oc l.prog w K mg base (CX2 l.prog w) "Font" c_Font ["self", "pairs", "gap"] [] 8 (z5x c_Font) := ⟨f22, _, _, PySem.W.mg_of X G cm_Font, ⟨mk_Font, a22, i22, kc_Font⟩, fun s us X hl => match us, hl with | [_, _, _], _ => PySem.W.binds_K X rfl t22 rfl rfl rfl, .nil, Ff22⟩
  have Ff23 := z4Y (P := l.prog) (w := w) (base := base) Zo  F23 B
  have O_Fontheight : Om l.prog w K mg base CX0 c_Font "height" ["self"] [] 1 (z3C c_Font) := ⟨f23, _, _, Zo.k_Font, ⟨a23, i23, k23⟩, F23.binds (ps := ["self"]) fun _ _ _ _ _ _ us hl => match us, hl with | [_], _ => rfl, .nil, Ff23⟩
  have O_topof := zAT (P := l.prog) (w := w) (base := base) D17 Zo O_Fontheight B
  have Ff24 := z4V (P := l.prog) (w := w) (base := base) Zo Z E_NoSign F24 B
  have O_Fontpicsof : Om l.prog w K mg base (CX2 l.prog w) c_Font "pics_of" ["self", "text"] [] 3 (z3B c_Font c_NoSign) := ⟨f24, _, _, Zo.k_Font, ⟨a24, i24, k24⟩, F24.binds (ps := ["self", "text"]) fun _ _ _ _ _ _ us hl => match us, hl with | [_, _], _ => rfl, .nil, Ff24⟩
  have O_checklines := z4Z (P := l.prog) (w := w) (base := base) D16 Zo Z O_Fontpicsof B
  have Ff25 := z6G (P := l.prog) (w := w) (base := base) Zo Z Od2_filled Od3_laid O_Fontpicsof F25 B
  have O_Fontband : Om l.prog w K mg base (CX2 l.prog w) c_Font "band" ["self", "text", "x", "wide"] [] 5 (z9I c_Font c_NoSign) := ⟨f25, _, _, Zo.k_Font, ⟨a25, i25, k25⟩, F25.binds (ps := ["self", "text", "x", "wide"]) fun _ _ _ _ _ _ us hl => match us, hl with | [_, _, _, _], _ => rfl, .nil, Ff25⟩
  have O_view := zC2 (P := l.prog) (w := w) (base := base) D18 Zo Z Od2_filled O_laid O_checklines O_topof O_Fontheight O_Fontband B
  have O_lawdraw := z7c (P := l.prog) (w := w) (base := base) D26  B
  have O_lawgreat := z63 (P := l.prog) (w := w) (base := base) D27  B
  have O_lawwhole := z65 (P := l.prog) (w := w) (base := base) D28  B
  have O_lawshade := z6A (P := l.prog) (w := w) (base := base) D29 O_lawdraw B
  have O_lawrows := z7V (P := l.prog) (w := w) (base := base) D30 O_lawshade B
  have O_lawbits := z7W (P := l.prog) (w := w) (base := base) D31  B
  have O_lawispic := z67 (P := l.prog) (w := w) (base := base) D32 O_lawwhole B
  have O_lawsign := z7d (P := l.prog) (w := w) (base := base) D33  B
  have O_lawsigns := z6B (P := l.prog) (w := w) (base := base) D34 O_lawdraw O_lawrows O_lawsign B
  have O_lawpairs := z6D (P := l.prog) (w := w) (base := base) D35 O_lawbits B
  have O_lawcolumns := z4W (P := l.prog) (w := w) (base := base) D36  B
  have O_lawtext := z7f (P := l.prog) (w := w) (base := base) D37 O_lawdraw B
  have O_lawlines := z6H (P := l.prog) (w := w) (base := base) D38 O_lawdraw O_lawtext B
  have O_lawbegin := z6J (P := l.prog) (w := w) (base := base) D39 O_lawdraw O_lawgreat B
  have O_lawdue := z9Y (P := l.prog) (w := w) (base := base) D40 O_lawbits B
  have O_lawsides := z6K (P := l.prog) (w := w) (base := base) D41 O_lawdraw B
  have O_lawrefused := z4a (P := l.prog) (w := w) (base := base) D42 Zo Z O_view B
  have O_lawnosign := z5U (P := l.prog) (w := w) (base := base) D43 Zo Z O_lawdraw O_lawsign O_lawrefused B
  exact zCm D44 Zo Z O_view O_Fontinit O_lawdraw O_lawispic O_lawsigns O_lawpairs O_lawcolumns O_lawlines O_lawbegin O_lawdue O_lawsides O_lawnosign B
theorem walk {l : PySem.W.OpenLaw} {q : Program} {loose : List Str} {XP : (Str -> Option Value) -> Heap -> Prop} {YP : World -> Heap -> Prop} {d : DefRec} {K : Params -> PySem.W.Frag} (hn : l.most = some 63) (hdf : d.params.defaults = [])
    (hY : ∀ (w : World) (h : Heap), YP w h -> (K w.params).In h)
    (F : ∀ (w : World) (mg : Str -> Option Value) (fa : Addr) (h : Heap), (K w.params).In h -> h.Ns mainGlobals mg -> mg d.name = some (.ref fa) ->
      ∃ fd : FuncData, (∀ (s : Shared) (u : Value), BindsTo s fd ⟨[u], []⟩ [("_law_script", u)]) /\ ∀ base : Heap, (K w.params).In base -> base.Ns mainGlobals mg -> FnOk l.prog w (K w.params) mg base CX0 10 fa fd ["_law_script"] (z9n (K w.params))) :
    PySem.W.WalkO q loose XP YP l.row.toRowW d [] (fun f vs => PySem.call f vs) :=
  L2.walk_of (n := 63) (k := 10) (x := "_law_script") (CX := fun _ => CX0) (sp := fun w => z9n (K w.params)) hn (by decide) hdf ⟨rfl, by decide, by decide⟩ hY F (fun _ _ a ns hl _ hS => ⟨a, ns, rfl, hS, hl, fun _ => rfl⟩) fun _ _ _ _ _ z => z
end K34
namespace PySem.W.Fast
theorem tw18179326743846396402 : True := trivial
theorem tw12615919431752705220 : True := trivial
theorem tw8038994938909932166 : True := trivial
theorem tw7143272274079723399 : True := trivial
theorem tw1136797255917350217 : True := trivial
theorem tw6269244426938367469 : True := trivial
theorem tw25860293167096846 : True := trivial
theorem tw3265549583446262478 : True := trivial
theorem tw3335792231972812047 : True := trivial
theorem tw8321485119439277552 : True := trivial
theorem tw1765519809524724211 : True := trivial
theorem tw6874444636466220342 : True := trivial
theorem tw7600588098518350170 : True := trivial
theorem tw11993266927357394391 : True := trivial
theorem tw7041486893723564717 : True := trivial
theorem tw938339111922416138 : True := trivial
theorem tw2854893441656752377 : True := trivial
theorem tw4541253835056456070 : True := trivial
theorem tw12814454051937409628 : True := trivial
theorem tw4439680615827553587 : True := trivial
theorem tw3054539764720835491 : True := trivial
theorem tw12930596003833659627 : True := trivial
theorem tw16490315856277845456 : True := trivial
theorem tw9717165734004531190 : True := trivial
theorem tw15138982728425059635 : True := trivial
theorem tw18427164682775447270 : True := trivial
theorem tw17690648957669067118 : True := trivial
theorem tw11582710909411369475 : True := trivial
theorem tw9942948640030771530 : True := trivial
theorem tw15327389298244357993 : True := trivial
theorem tw9676320637634351340 : True := trivial
theorem tw10191412738138588648 : True := trivial
theorem tw16889106133967531248 : True := trivial
theorem tw18353454262720847240 : True := trivial
theorem tw3283019338507320906 : True := trivial
theorem tw2120357157667163051 : True := trivial
theorem tw7939957530489754441 : True := trivial
theorem tw12985403134067176405 : True := trivial
theorem tw16680206693855248555 : True := trivial
theorem tw12213413741947910061 : True := trivial
theorem tw9846238506886516986 : True := trivial
theorem tw13020093828112844465 : True := trivial
theorem tw8978837683952988146 : True := trivial
theorem tw15111905799423306394 : True := trivial
theorem tw10934175382939069567 : True := trivial
theorem tw13661686481153963766 : True := trivial
theorem tw15978878989816731961 : True := trivial
theorem tw9194574003146657007 : True := trivial
theorem tw16337881476554840336 : True := trivial
theorem tw10613994167871488505 : True := trivial
theorem tw12590974520426566215 : True := trivial
theorem tw18079158958076995541 : True := trivial
theorem tw4684534347491078068 : True := trivial
theorem tw14988514211385501455 : True := trivial
theorem tw1730263186308913250 : True := trivial
theorem tw9418048696698362767 : True := trivial
theorem tw5336534016998486442 : True := trivial
theorem tw1313857956133527870 : True := trivial
theorem tw14771961200001387317 : True := trivial
theorem tw6036586418935655323 : True := trivial
theorem tw8857939090704739154 : True := trivial
theorem tw18005309093841897346 : True := trivial
theorem tw14843774483077722956 : True := trivial
theorem tw6294106962563665776 : True := trivial
theorem tw17160032379226741553 : True := trivial
theorem tw4646912579929566513 : True := trivial
theorem tw9005690029308842653 : True := trivial
theorem tw16397891595787439779 : True := trivial
theorem tw2825458228114273313 : True := trivial
theorem tw2867827838367036915 : True := trivial
theorem tw5336166932295573482 : True := trivial
theorem tw4132023723516835811 : True := trivial
theorem tw1250756780988875174 : True := trivial
end PySem.W.Fast
open PySem PySem.W PyProof.Rows
set_option maxRecDepth 100000 in
set_option maxHeartbeats 0 in
theorem PySem.Challenge.cw_glowboard_k34_views_of_a_page_holds : PySem.Challenge.rw_glowboard_k34_views_of_a_page.Holds := by
  w_on; o_law; k_head; (case hw => w_witness2)
  k_fill
  refine K34.walk (l := PySem.Challenge.rw_glowboard_k34_views_of_a_page) rfl rfl (fun w h Y => PySem.W.kIn_of Y) ?F
  case F =>
    intro w mg fa h KX G hmg
    refine' K34.all_mk KX G hmg ?cm_Font ?pg_Font ?hd_Font ?po_Font ?sa_Font ?mk_Font ?kc_Font ?na_Font_pics ?na_Font_high ?na_Font_gap ?a1 ?l1 ?c1 ?k1 ?a2 ?l2 ?c2 ?k2 ?a3 ?l3 ?c3 ?k3 ?a4 ?l4 ?c4 ?k4 ?a5 ?l5 ?c5 ?k5 ?a6 ?l6 ?c6 ?k6 ?a7 ?l7 ?c7 ?k7 ?a8 ?l8 ?c8 ?k8 ?a9 ?l9 ?c9 ?k9 ?a10 ?l10 ?c10 ?k10 ?t10 ?a11 ?l11 ?c11 ?k11 ?a12 ?l12 ?c12 ?k12 ?a13 ?l13 ?c13 ?k13 ?a14 ?l14 ?c14 ?k14 ?a15 ?l15 ?c15 ?k15 ?t15 ?a16 ?l16 ?c16 ?k16 ?a17 ?l17 ?c17 ?k17 ?a18 ?l18 ?c18 ?k18 ?a19 ?l19 ?c19 ?k19 ?a20 ?l20 ?c20 ?k20 ?a21 ?l21 ?c21 ?k21 ?a22 ?l22 ?c22 ?k22 ?t22 ?i22 ?a23 ?l23 ?c23 ?k23 ?i23 ?a24 ?l24 ?c24 ?k24 ?i24 ?a25 ?l25 ?c25 ?k25 ?i25 ?a26 ?l26 ?c26 ?k26 ?a27 ?l27 ?c27 ?k27 ?a28 ?l28 ?c28 ?k28 ?a29 ?l29 ?c29 ?k29 ?a30 ?l30 ?c30 ?k30 ?a31 ?l31 ?c31 ?k31 ?a32 ?l32 ?c32 ?k32 ?a33 ?l33 ?c33 ?k33 ?a34 ?l34 ?c34 ?k34 ?a35 ?l35 ?c35 ?k35 ?a36 ?l36 ?c36 ?k36 ?a37 ?l37 ?c37 ?k37 ?a38 ?l38 ?c38 ?k38 ?a39 ?l39 ?c39 ?k39 ?a40 ?l40 ?c40 ?k40 ?a41 ?l41 ?c41 ?k41 ?a42 ?l42 ?c42 ?k42 ?a43 ?l43 ?c43 ?k43 ?a44 ?l44 ?c44 ?k44 ?z1 ?z2 ?z3 ?z4 ?z5 ?z6 ?z7 ?z8 ?z9 ?z10 ?z11 ?z12 ?z13 ?z14 ?z15 ?cm_GlowError ?cm_NoFont ?cm_NoSign ?gs ?gr ?gf ?fi_NoFont ?fi_NoSign ?il_NoSign ?ic_NoSign ?ik_NoSign ?it_NoSign ?ff_NoSign_sign ?ff_NoSign_at ?xall ?kall ?k_tup ?aball
    (case cm_Font => k_is); (case pg_Font => k_is); (case hd_Font => k_is); (case po_Font => k_is)
    (case sa_Font => k_is); (case mk_Font => k_is); (case kc_Font => k_is); (case na_Font_pics => k_is)
    (case na_Font_high => k_is); (case na_Font_gap => k_is); (case a1 => k_is); (case l1 => k_is)
    (case c1 => k_is); (case k1 => k_is); (case a2 => k_is); (case l2 => k_is)
    (case c2 => k_is); (case k2 => k_is); (case a3 => k_is); (case l3 => k_is)
    (case c3 => k_is); (case k3 => k_is); (case a4 => k_is); (case l4 => k_is)
    (case c4 => k_is); (case k4 => k_is); (case a5 => k_is); (case l5 => k_is)
    (case c5 => k_is); (case k5 => k_is); (case a6 => k_is); (case l6 => k_is)
    (case c6 => k_is); (case k6 => k_is); (case a7 => k_is); (case l7 => k_is)
    (case c7 => k_is); (case k7 => k_is); (case a8 => k_is); (case l8 => k_is)
    (case c8 => k_is); (case k8 => k_is); (case a9 => k_is); (case l9 => k_is)
    (case c9 => k_is); (case k9 => k_is); (case a10 => k_is); (case l10 => k_is)
    (case c10 => k_is); (case k10 => k_is); (case t10 => k_is); (case a11 => k_is)
    (case l11 => k_is); (case c11 => k_is); (case k11 => k_is); (case a12 => k_is)
    (case l12 => k_is); (case c12 => k_is); (case k12 => k_is); (case a13 => k_is)
    (case l13 => k_is); (case c13 => k_is); (case k13 => k_is); (case a14 => k_is)
    (case l14 => k_is); (case c14 => k_is); (case k14 => k_is); (case a15 => k_is)
    (case l15 => k_is); (case c15 => k_is); (case k15 => k_is); (case t15 => k_is)
    (case a16 => k_is); (case l16 => k_is); (case c16 => k_is); (case k16 => k_is)
    (case a17 => k_is); (case l17 => k_is); (case c17 => k_is); (case k17 => k_is)
    (case a18 => k_is); (case l18 => k_is); (case c18 => k_is); (case k18 => k_is)
    (case a19 => k_is); (case l19 => k_is); (case c19 => k_is); (case k19 => k_is)
    (case a20 => k_is); (case l20 => k_is); (case c20 => k_is); (case k20 => k_is)
    (case a21 => k_is); (case l21 => k_is); (case c21 => k_is); (case k21 => k_is)
    (case a22 => k_is); (case l22 => k_is); (case c22 => k_is); (case k22 => k_is)
    (case t22 => k_is); (case i22 => k_is); (case a23 => k_is); (case l23 => k_is)
    (case c23 => k_is); (case k23 => k_is); (case i23 => k_is); (case a24 => k_is)
    (case l24 => k_is); (case c24 => k_is); (case k24 => k_is); (case i24 => k_is)
    (case a25 => k_is); (case l25 => k_is); (case c25 => k_is); (case k25 => k_is)
    (case i25 => k_is); (case a26 => k_is); (case l26 => k_is); (case c26 => k_is)
    (case k26 => k_is); (case a27 => k_is); (case l27 => k_is); (case c27 => k_is)
    (case k27 => k_is); (case a28 => k_is); (case l28 => k_is); (case c28 => k_is)
    (case k28 => k_is); (case a29 => k_is); (case l29 => k_is); (case c29 => k_is)
    (case k29 => k_is); (case a30 => k_is); (case l30 => k_is); (case c30 => k_is)
    (case k30 => k_is); (case a31 => k_is); (case l31 => k_is); (case c31 => k_is)
    (case k31 => k_is); (case a32 => k_is); (case l32 => k_is); (case c32 => k_is)
    (case k32 => k_is); (case a33 => k_is); (case l33 => k_is); (case c33 => k_is)
    (case k33 => k_is); (case a34 => k_is); (case l34 => k_is); (case c34 => k_is)
    (case k34 => k_is); (case a35 => k_is); (case l35 => k_is); (case c35 => k_is)
    (case k35 => k_is); (case a36 => k_is); (case l36 => k_is); (case c36 => k_is)
    (case k36 => k_is); (case a37 => k_is); (case l37 => k_is); (case c37 => k_is)
    (case k37 => k_is); (case a38 => k_is); (case l38 => k_is); (case c38 => k_is)
    (case k38 => k_is); (case a39 => k_is); (case l39 => k_is); (case c39 => k_is)
    (case k39 => k_is); (case a40 => k_is); (case l40 => k_is); (case c40 => k_is)
    (case k40 => k_is); (case a41 => k_is); (case l41 => k_is); (case c41 => k_is)
    (case k41 => k_is); (case a42 => k_is); (case l42 => k_is); (case c42 => k_is)
    (case k42 => k_is); (case a43 => k_is); (case l43 => k_is); (case c43 => k_is)
    (case k43 => k_is); (case a44 => k_is); (case l44 => k_is); (case c44 => k_is)
    (case k44 => k_is); (case z1 => k_is); (case z2 => k_is); (case z3 => k_is)
    (case z4 => k_is); (case z5 => k_is); (case z6 => k_is); (case z7 => k_is)
    (case z8 => k_is); (case z9 => k_is); (case z10 => k_is); (case z11 => k_is)
    (case z12 => k_is); (case z13 => k_is); (case z14 => k_is); (case z15 => k_is)
    (case cm_GlowError => k_is); (case cm_NoFont => k_is); (case cm_NoSign => k_is); (case gs => k_is)
    (case gr => k_is); (case gf => k_is); (case fi_NoFont => k_is); (case fi_NoSign => k_is)
    (case il_NoSign => k_is); (case ic_NoSign => k_is); (case ik_NoSign => k_is); (case it_NoSign => k_is)
    (case ff_NoSign_sign => k_is); (case ff_NoSign_at => k_is); (case xall => kernel_rfl); (case kall => kernel_rfl)
    (case k_tup => kit_is); (case aball => kernel_rfl)
#print axioms PySem.Challenge.cw_glowboard_k34_views_of_a_page_holds