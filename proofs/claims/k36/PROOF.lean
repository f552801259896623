import PyProof.Rows.All
import Wide.All
import OpenK.AllK
import Wide.FinOn
import Lean
import PyProof.EqAt
import PyProof.EqKinds
import PyProof.TupleCall
import PySem.Challenge.RW_glowboard_k36_whole_windows
set_option Elab.async false
set_option linter.all false
set_option maxRecDepth 100000
set_option compiler.extract_closed false
noncomputable section
namespace L2
open PySem PySem.Spec PyProof.Rows
abbrev Key:=Sum Int Str
def z8J:Key->Value->Bool
 |.inl k,v=>Value.isInt k v
 |.inr x,v=>Value.isStrOf x v
def zEz (w:World):Key->Int
 |.inl k=>hashInt k
 |.inr x=>hashStr w x
theorem z0m:∀{k:Key} {v:Value},z8J k v=true->(∃i t,k=Sum.inl i/\v=Value.int i t)\/(∃x t,k=Sum.inr x/\v=Value.str x t)
 |.inl i,v,h=>by
  obtain⟨t,e⟩:=Value.isInt_shape (k:=i) (v:=v) h
  exact .inl ⟨i,t,rfl,e⟩
 |.inr x,v,h=>by
  obtain⟨t,e⟩:=Value.isStrOf_shape (x:=x) (v:=v) h
  exact .inr ⟨x,t,rfl,e⟩
theorem z95 (i:Int) (t:Tok):z8J (.inl i) (.int i t)=true:=by simp[z8J,Value.isInt]
theorem z96 (x:Str) (t:Tok):z8J (.inr x) (.str x t)=true:=by simp[z8J,Value.isStrOf]
theorem zDB (a b:Int):decide ((Sum.inl a:Key)=Sum.inl b)=(a==b):=by
 by_cases e:a=b
 .subst e;simp
 .have h:¬(Sum.inl a:Key)=Sum.inl b:=fun q=>e (Sum.inl.inj q)
  rw[decide_eq_false h]
  exact(beq_eq_false_iff_ne.mpr e).symm
theorem zDC (a b:Str):decide ((Sum.inr a:Key)=Sum.inr b)=decide (a=b):=by
 by_cases e:a=b
 .subst e;simp
 .have h:¬(Sum.inr a:Key)=Sum.inr b:=fun q=>e (Sum.inr.inj q)
  rw[decide_eq_false h,decide_eq_false e]
theorem zDD (a:Int) (b:Str):decide ((Sum.inl a:Key)=Sum.inr b)=false:=decide_eq_false (fun q=>nomatch q)
theorem zDE (a:Str) (b:Int):decide ((Sum.inr a:Key)=Sum.inl b)=false:=decide_eq_false (fun q=>nomatch q)
noncomputable def z0r (prog:Program) (w:World):PySem.KeyKind prog w Key where
 is:=z8J
 hash:=zEz w
 inj:=fun v a b ha hb=>by
  rcases z0m ha with⟨i,t,rfl,rfl⟩|⟨x,t,rfl,rfl⟩
  .rcases z0m hb with⟨j,u,rfl,e⟩|⟨y,u,rfl,e⟩
   .injection e with e1 _;rw[e1]
   .exact nomatch e
  .rcases z0m hb with⟨j,u,rfl,e⟩|⟨y,u,rfl,e⟩
   .exact nomatch e
   .injection e with e1 _;rw[e1]
 byValue:=fun k v h=>by
  rcases z0m h with⟨i,t,rfl,rfl⟩|⟨x,t,rfl,rfl⟩<;>rfl
 pyHash:=fun hv h=>by
  rcases z0m hv with⟨i,t,rfl,rfl⟩|⟨x,t,rfl,rfl⟩
  .exact wpAny_pyHash_int h
  .exact wpAny_pyHash_str h
 eqBool:=fun hu hv h=>by
  rcases z0m hu with⟨i,t,rfl,rfl⟩|⟨x,t,rfl,rfl⟩
  .rcases z0m hv with⟨j,u,rfl,rfl⟩|⟨y,u,rfl,rfl⟩
   .rw[zDB]at h;exact wpAny_eqBool_int h
   .rw[zDD]at h;exact SeqAt.EqAt.int_str i t y u _ _ _ _ h
  .rcases z0m hv with⟨j,u,rfl,rfl⟩|⟨y,u,rfl,rfl⟩
   .rw[zDE]at h;exact SeqAt.EqAt.str_int x t j u _ _ _ _ h
   .rw[zDC]at h;exact wpAny_eqBool_str h
 «strs»:=fun k x t v h=>by
  rcases z0m h with⟨i,u,rfl,e⟩|⟨y,u,rfl,e⟩
  .exact nomatch e
  .injection e with e1 _
   subst e1
   cases v<;>rfl
theorem z6l (prog:Program) (w:World) (i:Int) (t:Tok):(z0r prog w).is (.inl i) (.int i t)=true:=z95 i t
theorem z6m (prog:Program) (w:World) (x:Str) (t:Tok):(z0r prog w).is (.inr x) (.str x t)=true:=z96 x t
inductive V where
 |non|bl (b:Bool)|int (i:Int)|str (x:Str)|byt (b:Array UInt8)|flt (b:UInt64)|ref (a:Addr)|ty (n:String)
 deriving DecidableEq
def RelV:V->Value->Prop
 |.non,u=>u=Value.none
 |.bl b,u=>u=Value.bool b
 |.int i,u=>∃t,u=Value.int i t
 |.str x,u=>∃t,u=Value.str x t
 |.byt b,u=>∃t,u=Value.bytes b t
 |.flt b,u=>∃t,u=Value.float b t
 |.ref a,u=>u=Value.ref a
 |.ty n,u=>u=Value.type n
abbrev Vals:List V->List Value->Prop:=Paired RelV
theorem Vals.length {xs:List V} {us:List Value} (r:Vals xs us):xs.length=us.length:=Paired.length r
theorem Vals.get:∀{xs:List V} {us:List Value} {i:Nat} {x:V},Vals xs us->xs[i]?=some x->∃u,us[i]?=some u/\RelV x u
 |_,_,_,_,.nil,e=>by simp at e
 |_,_,0,_,.cons r _,e=>by simp at e;subst e;exact⟨_,rfl,r⟩
 |_,_,i+1,x,.cons _ t,e=>by
  obtain⟨u,h1,h2⟩:=Vals.get (i:=i) (x:=x) t (by simpa using e)
  exact⟨u,by simpa using h1,h2⟩
theorem Vals.set {x:V} {u:Value} (r:RelV x u):∀{xs:List V} {us:List Value} (i:Nat),Vals xs us->Vals (xs.set i x) (us.set i u)
 |_,_,_,.nil=>.nil
 |_,_,0,.cons _ t=>.cons r t
 |_,_,i+1,.cons q t=>.cons q (Vals.set r i t)
theorem Vals.append:∀{xs ys:List V} {us ws:List Value},Vals xs us->Vals ys ws->Vals (xs++ys) (us++ws)
 |_,_,_,_,.nil,s=>s
 |_,_,_,_,.cons r t,s=>.cons r (Vals.append t s)
theorem Vals.take:∀{xs:List V} {us:List Value} (n:Nat),Vals xs us->Vals (xs.take n) (us.take n)
 |_,_,0,_=>.nil
 |_,_,_+1,.nil=>.nil
 |_,_,n+1,.cons r t=>.cons r (Vals.take n t)
theorem Vals.drop:∀{xs:List V} {us:List Value} (n:Nat),Vals xs us->Vals (xs.drop n) (us.drop n)
 |_,_,0,r=>r
 |_,_,_+1,.nil=>.nil
 |_,_,n+1,.cons _ t=>Vals.drop n t
def RelO:Option V->Option Value->Prop
 |some v,some u=>RelV v u
 |none,none=>True
 |_,_=>False
def KV {κ:Type}:List (κ × V)->List (κ × Value)->Prop:=Paired fun(p:κ × V) (q:κ × Value)=>p.1=q.1/\RelV p.2 q.2
def kV:Key->V
 |.inl i=>.int i
 |.inr x=>.str x
inductive HO where
 |lst (xs:List V)
 |tup (xs:List V)
 |dK (kvs:List (Key × V))|dT (kvs:List (List Key × V))
 |set (S:Int->Bool) (n:Nat)
 |ins (C dx:Addr) (fs:List (Str × V))
 |own (x:Addr)
 |xd (fs:List (Str × V))
 |met (f x:Addr)
 |rng (lo hi:Int)
 |frz (o:Obj) (u:HO)
 |tbl (ps:Array Value)
 |ext (φ:Heap->Prop)
abbrev Hp:=Addr->Option HO
def upd (H:Hp) (a:Addr) (o:HO):Hp:=fun b=>if b=a then some o else H b
theorem upd_same {H:Hp} {a:Addr} {o:HO}:upd H a o a=some o:=by unfold upd;rw[if_pos rfl]
theorem z06 {H:Hp} {a b:Addr} {o:HO} (h:b≠a):upd H a o b=H b:=by unfold upd;rw[if_neg h]
theorem z2K {H:Hp} {a:Addr} {o u:HO}:upd (upd H a o) a u=upd H a u:=by
 funext b;unfold upd;split<;>rfl
theorem z2C {H:Hp} {a b:Addr} {o u:HO} (h:H a=some o) (h':H b=some u) (d:o≠u):a≠b:=by
 intro e;subst e;rw[h]at h';exact d (Option.some.inj h')
theorem z0A {H:Hp} {a b:Addr} {o:HO} (h:H a=some o) (h':H b=none):a≠b:=by
 intro e;subst e;rw[h]at h';cases h'
section
variable (P:Program) (w:World)
def ObjOk (H:Hp) (h:Heap) (a:Addr):HO->Prop
 |.lst xs=>xs.length<=sizeLine/\∃(its:List Value) (n:Nat),Vals xs its/\h.get? a=some {cls:=.type "list",data:=.seq its.toArray n}
 |.tup xs=>xs.length<=sizeLine/\∃its:List Value,Vals xs its/\IsTup h a its.toArray
 |.dK kvs=>kvs.length<=sizeLine/\(a==sysModules)=false/\∃vs,KV kvs vs/\h.DictOf (z0r P w) a vs
 |.dT kvs=>kvs.length<=sizeLine/\(a==sysModules)=false/\∃xs:List (List Key × Addr × Value),
  Paired (fun(p:List Key × V) (q:List Key × Addr × Value)=>p.1=q.1/\H q.2.1=some (.tup (p.1.map kV))/\RelV p.2 q.2.2) kvs xs/\
  ∃o es ep,h.get? a=some o/\o.ExactDict/\o.data=.dict es ep/\es.toList=xs.map (entryOfKey (tupleKind (z0r P w)))/\(xs.map (·.1)).Nodup
 |.set S n=>h.SetOf (intKind P w) a S n
 |.ins C dx fs=>H dx=some (.own a)/\fs.length<=1000/\dx≠a/\h.get? a=some (PySem.W.instObj C dx)/\
  ∃mA,h.Ns1 dx mA/\(∀f,RelO (fs.lookup f) (mA f))/\PySem.Within mA (fs.map (·.1))
 |.own _=>∃o,h.get? a=some o
 |.xd fs=>∃mA,h.Ns1 a mA/\∀f,RelO (fs.lookup f) (mA f)
 |.rng lo hi=>∃t u v,h.get? a=some {cls:=.type "range",data:=.fields #[.int lo t,.int hi u,.int 1 v]}
 |.frz o u=>h.get? a=some o/\ObjOk H h a u
 |.tbl ps=>h.get? a=some {cls:=.none,data:=.fields ps}
 |.met f x=>h.get? a=some (PySem.W.methodObj (.ref f) (.ref x))
 |.ext φ=>φ h/\(∃o,h.get? a=some o)/\∀h1 h2:Heap,φ h1->(∀o,h1.get? a=some o->h2.get? a=some o)->φ h2
def HOk (H:Hp) (h:Heap):Prop:=∀a o,H a=some o->ObjOk P w H h a o
end
section
variable {P:Program} {w:World} {H H':Hp} {h h':Heap} {a:Addr} {o:HO}
theorem ObjOk.lt (x:ObjOk P w H h a o):a<h.objs.size:=by
 cases o with
 |lst xs=>obtain⟨_,_,_,_,e⟩:=x;exact Heap.lt_size e
 |tup xs=>obtain⟨_,_,_,p⟩:=x;exact p.lt
 |dK kvs=>obtain⟨_,_,_,_,o,_,_,e,_⟩:=x;exact Heap.lt_size e
 |dT kvs=>obtain⟨_,_,_,_,o,_,_,e,_⟩:=x;exact Heap.lt_size e
 |set S n=>obtain⟨o,_,_,_,e,_⟩:=x;exact Heap.lt_size e
 |ins C dx fs=>obtain⟨_,_,_,e,_⟩:=x;exact Heap.lt_size e
 |own y=>obtain⟨_,e⟩:=x;exact Heap.lt_size e
 |xd fs=>obtain⟨_,⟨_,_,_,e,_⟩,_⟩:=x;exact Heap.lt_size e
 |rng lo hi=>obtain⟨_,_,_,e⟩:=x;exact Heap.lt_size e
 |frz ob u=>obtain⟨e,_⟩:=x;exact Heap.lt_size e
 |tbl ps=>exact Heap.lt_size (show h.get? a=some _ from x)
 |met f y=>exact Heap.lt_size (show h.get? a=some _ from x)
 |ext φ=>obtain⟨_,⟨_,e⟩,_⟩:=x;exact Heap.lt_size e
theorem Paired.mapP {α β:Type} {F G:α->β->Prop}:∀{l₁:List α} {l₂:List β},Paired F l₁ l₂->(∀a b,F a b->G a b)->Paired G l₁ l₂
 |_,_,.nil,_=>.nil
 |_,_,.cons r t,f=>.cons (f _ _ r) (Paired.mapP t f)
theorem ObjOk.stay (x:ObjOk P w H h a o) (k:∀b u,(b=a\/H b=some (.own a))->h.get? b=some u->h'.get? b=some u)
 (ho:∀b,H b=some (.own a)->H' b=some (.own a)) (ht:∀b xs,H b=some (.tup xs)->H' b=some (.tup xs)):ObjOk P w H' h' a o:=by
 induction o with
 |lst xs=>obtain⟨z,its,n,r,e⟩:=x;exact⟨z,its,n,r,k _ _ (.inl rfl) e⟩
 |tup xs=>obtain⟨z,its,r,ob,e,c⟩:=x;exact⟨z,its,r,ob,k _ _ (.inl rfl) e,c⟩
 |dK kvs=>obtain⟨z,y,vs,r,ob,es,ep,e,c⟩:=x;exact⟨z,y,vs,r,ob,es,ep,k _ _ (.inl rfl) e,c⟩
 |dT kvs=>
  obtain⟨z,y,xs,r,ob,es,ep,e,c⟩:=x
  exact⟨z,y,xs,Paired.mapP r fun p q z=>⟨z.1,ht _ _ z.2.1,z.2.2⟩,ob,es,ep,k _ _ (.inl rfl) e,c⟩
 |set S n=>obtain⟨ob,es,ep,t,e,c⟩:=x;exact⟨ob,es,ep,t,k _ _ (.inl rfl) e,c⟩
 |ins C dx fs=>
  obtain⟨d,z,ne,e,mA,⟨od,es,ep,e2,c⟩,r⟩:=x
  exact⟨ho _ d,z,ne,k _ _ (.inl rfl) e,mA,⟨od,es,ep,k _ _ (.inr d) e2,c⟩,r⟩
 |own y=>obtain⟨ob,e⟩:=x;exact⟨ob,k _ _ (.inl rfl) e⟩
 |xd fs=>obtain⟨mA,⟨od,es,ep,e,c⟩,r⟩:=x;exact⟨mA,⟨od,es,ep,k _ _ (.inl rfl) e,c⟩,r⟩
 |rng lo hi=>obtain⟨t,u,v,e⟩:=x;exact⟨t,u,v,k _ _ (.inl rfl) e⟩
 |frz ob u ih=>obtain⟨e,q⟩:=x;exact⟨k _ _ (.inl rfl) e,ih q⟩
 |tbl ps=>
  have e:h.get? a=some {cls:=.none,data:=.fields ps}:=x
  show h'.get? a=some {cls:=.none,data:=.fields ps}
  exact k a _ (.inl rfl) e
 |met f y=>
  have e:h.get? a=some (PySem.W.methodObj (.ref f) (.ref y)):=x
  show h'.get? a=some (PySem.W.methodObj (.ref f) (.ref y))
  exact k a _ (.inl rfl) e
 |ext φ=>obtain⟨p,⟨o,e⟩,st⟩:=x;exact⟨st _ _ p fun o q=>k _ _ (.inl rfl) q,⟨o,k _ _ (.inl rfl) e⟩,st⟩
theorem HOk.lt (x:HOk P w H h) (e:H a=some o):a<h.objs.size:=(x a o e).lt
theorem HOk.fresh (x:HOk P w H h) (e:h.objs.size<=a):H a=none:=by
 cases q:H a with
 |none=>rfl
 |some u=>exact absurd (Nat.lt_of_lt_of_le (x.lt q) e) (Nat.lt_irrefl _)
theorem HOk.kept (x:HOk P w H h) (k:∀b u,h.get? b=some u->h'.get? b=some u):HOk P w H h':=fun a o e=>
 (x a o e).stay (fun b u _ q=>k b u q) (fun _ q=>q) fun _ _ q=>q
theorem HOk.laid (x:HOk P w H h) (k:∀b u,h.get? b=some u->h'.get? b=some u) (hp:h.objs.size<=a) (new:ObjOk P w (upd H a o) h' a o):HOk P w (upd H a o) h':=fun b u e=>by
 have hn:=x.fresh hp
 by_cases hb:b=a
 .subst hb;rw[upd_same]at e;cases e;exact new
 .rw[z06 hb]at e
  exact(x b u e).stay (fun c v _ q=>k c v q) (fun c q=>by rw[z06 (z0A q hn)];exact q) fun c xs q=>by rw[z06 (z0A q hn)];exact q
end
def Rd (H:Hp) (a:Addr) (u:HO):Prop:=H a=some u\/∃o,H a=some (.frz o u)
theorem Rd.ok {P:Program} {w:World} {H:Hp} {h:Heap} {a:Addr} {u:HO} (r:Rd H a u) (x:HOk P w H h):ObjOk P w H h a u:=by
 rcases r with r|⟨o,r⟩
 .exact x a u r
 .obtain⟨_,q⟩:=x a _ r
  exact q
def Mut:Option HO->Prop
 |some (.lst _)=>True
 |some (.dK _)=>True
 |some (.dT _)=>True
 |some (.set _ _)=>True
 |some (.ins _ _ _)=>True
 |some (.ext _)=>True
 |_=>False
section
variable {P:Program} {w:World} {H:Hp} {h h':Heap} {x e:Addr} {o':HO}
theorem HOk.write (ok:HOk P w H h) (mu:Mut (H x)) (he:e=x\/H e=some (.own x)) (k:∀b u,b≠e->h.get? b=some u->h'.get? b=some u) (heo:∃u,h'.get? e=some u)
 (new:ObjOk P w (upd H x o') h' x o'):HOk P w (upd H x o') h':=fun b u q=>by
 have nown:∀c y,H c=some (.own y)->c≠x:=fun c y r z=>by subst z;rw[r]at mu;exact mu
 have ntup:∀c xs,H c=some (.tup xs)->c≠x:=fun c xs r z=>by subst z;rw[r]at mu;exact mu
 by_cases hb:b=x
 .subst hb;rw[upd_same]at q;cases q;exact new
 .rw[z06 hb]at q
  by_cases hbe:b=e
  .have q':H b=some (.own x):=by
    rcases he with z|z
    .exact absurd (hbe.trans z) hb
    .rw[hbe];exact z
   rw[q]at q';cases q'
   obtain⟨v,hv⟩:=heo
   exact⟨v,by rw[hbe];exact hv⟩
  .refine(ok b u q).stay (fun c v hc r=>k c v ?_ r) (fun c r=>by rw[z06 (nown c b r)];exact r) fun c xs r=>by rw[z06 (ntup c xs r)];exact r
   rcases hc with rfl|hc
   .exact hbe
   .rintro rfl
    rcases he with z|z
    .exact nown c b hc z
    .rw[hc]at z;cases z;exact hb rfl
end
structure Un (fs ex:List Addr) (H H':Hp) (h h':Heap):Prop where
 keep:∀b o,h.get? b=some o->H b=none->b∉fs->b∉ex->h'.get? b=some o
 slot:∀b o,h.get? b=some o->H b=none->b∈fs->b∉ex->∃sl,h'.get? b=some {o with slots:=sl}
 free:∀b o,h.get? b=some o->H b=none->b∉ex->H' b=none
 there:∀b o,h.get? b=some o->b∉ex->∃o',h'.get? b=some o'
 tups:∀b xs,H b=some (.tup xs)->H' b=some (.tup xs)
 frzs:∀b o u,H b=some (.frz o u)->H' b=some (.frz o u)
 tbls:∀b ps,H b=some (.tbl ps)->∃more,H' b=some (.tbl (ps++more))
section
variable {fs fs' ex ex':List Addr} {H H1 H2:Hp} {h h1 h2 h':Heap} {a x e:Addr} {o:HO}
theorem Un.any (u:Un fs ex H H1 h h1) {b:Addr} {ob:Obj} (q:h.get? b=some ob) (n:H b=none) (hx:b∉ex):∃sl,h1.get? b=some {ob with slots:=sl}:=by
 by_cases hb:b∈fs
 .exact u.slot b ob q n hb hx
 .exact⟨ob.slots,u.keep b ob q n hb hx⟩
theorem Un.trans (a:Un fs ex H H1 h h1) (b:Un fs ex H1 H2 h1 h2):Un fs ex H H2 h h2 where
 keep:=fun c ob q n hc hx=>b.keep c ob (a.keep c ob q n hc hx) (a.free c ob q n hx) hc hx
 slot:=fun c ob q n hc hx=>by
  obtain⟨sl,e1⟩:=a.slot c ob q n hc hx
  obtain⟨sl',e2⟩:=b.slot c _ e1 (a.free c ob q n hx) hc hx
  exact⟨sl',e2⟩
 free:=fun c ob q n hx=>by
  obtain⟨o',e1⟩:=a.there c ob q hx
  exact b.free c o' e1 (a.free c ob q n hx) hx
 there:=fun c ob q hx=>by
  obtain⟨o',e1⟩:=a.there c ob q hx
  exact b.there c o' e1 hx
 tups:=fun c xs q=>b.tups c xs (a.tups c xs q)
 frzs:=fun c ob xs q=>b.frzs c ob xs (a.frzs c ob xs q)
 tbls:=fun c ps q=>by
  obtain⟨m1,e1⟩:=a.tbls c ps q
  obtain⟨m2,e2⟩:=b.tbls c _ e1
  exact⟨m1++m2,by rw[e2,Array.append_assoc]⟩
theorem Un.kept (k:∀b u,h.get? b=some u->h'.get? b=some u):Un fs ex H H h h':=
 ⟨fun b ob q _ _ _=>k b ob q,fun b ob q _ _ _=>⟨ob.slots,k b ob q⟩,fun _ _ _ n _=>n,fun b ob q _=>⟨ob,k b ob q⟩,fun _ _ q=>q,fun _ _ _ q=>q,fun _ ps q=>⟨#[],by rw[q];simp⟩⟩
theorem Un.refl:Un fs ex H H h h:=Un.kept fun _ _ q=>q
theorem Un.laid (k:∀b u,h.get? b=some u->h'.get? b=some u) (hp:h.objs.size<=a) (hn:H a=none):Un fs ex H (upd H a o) h h' where
 keep:=fun b u q _ _ _=>k b u q
 slot:=fun b u q _ _ _=>⟨u.slots,k b u q⟩
 free:=fun b u q n _=>by rw[z06 (Nat.ne_of_lt (Nat.lt_of_lt_of_le (Heap.lt_size q) hp))];exact n
 there:=fun b u q _=>⟨u,k b u q⟩
 tups:=fun b xs q=>by rw[z06 (z0A q hn)];exact q
 frzs:=fun b u xs q=>by rw[z06 (z0A q hn)];exact q
 tbls:=fun b ps q=>⟨#[],by rw[z06 (z0A q hn),q];simp⟩
theorem Un.write (mu:Mut (H x)) (he:e=x\/H e=some (.own x)) (k:∀b u,b≠e->h.get? b=some u->h'.get? b=some u) (heo:∃u,h'.get? e=some u):Un fs ex H (upd H x o) h h':=by
 have hx:∀b,H b=none->b≠x:=fun b n z=>by subst z;rw[n]at mu;exact mu
 have hb:∀b,H b=none->b≠e:=fun b n z=>by
  subst z
  rcases he with r|r
  .exact hx b n r
  .rw[n]at r;cases r
 have hm:∀b u,H b=some u->¬Mut (some u)->b≠x:=fun b u q nm z=>by subst z;rw[q]at mu;exact nm mu
 refine⟨fun b u q n _ _=>k b u (hb b n) q,fun b u q n _ _=>⟨u.slots,k b u (hb b n) q⟩,fun b u q n _=>by rw[z06 (hx b n)];exact n,fun b u q _=>?_,
  fun b xs q=>by rw[z06 (hm b _ q fun z=>z)];exact q,fun b u xs q=>by rw[z06 (hm b _ q fun z=>z)];exact q,fun b ps q=>⟨#[],by rw[z06 (hm b _ q fun z=>z),q];simp⟩⟩
 by_cases hbe:b=e
 .subst hbe;exact heo
 .exact⟨u,k b u hbe q⟩
end
noncomputable def trk (h:Heap) (H:Hp):List Addr:=(List.range h.objs.size).filter fun a=>(H a).isSome
def zAx (h:Heap) (H:Hp):Heap:=PySem.W.hideAll h (trk h H)
theorem z97 (h:Heap) (H:Hp):(zAx h H).objs.size=h.objs.size:=PySem.W.hideAll_size _ _
theorem zAy {h:Heap} {H:Hp} {b:Addr} {o:Obj} (e:h.get? b=some o) (n:H b=none):(zAx h H).get? b=some o:=
 PySem.W.hideAll_get _ e fun hm=>by
  have q:(H b).isSome=true:=(List.mem_filter.mp hm).2
  rw[n]at q;simp at q
theorem zCH {h:Heap} {H:Hp} {b:Addr} {o:Obj} (e:(zAx h H).get? b=some o):h.get? b=some o/\H b=none:=by
 have e':h.get? b=some o:=PySem.W.of_hideAll (trk h H) e
 refine⟨e',?_⟩
 cases q:H b with
 |none=>rfl
 |some x=>
  have hm:b∈trk h H:=List.mem_filter.mpr ⟨List.mem_range.mpr (Heap.lt_size e'),by simp[q]⟩
  have z:(zAx h H).get? b=none:=PySem.W.hideAll_none (trk h H) hm
  rw[z]at e;cases e
noncomputable def zCI (g h:Heap) (L:Addr):List (Addr × Obj):=(List.range h.objs.size).filterMap fun a=>if a=L\/(g.get? a).isSome=true then none else(h.get? a).map fun o=>(a,o)
noncomputable def rest (g h:Heap) (L d:Addr):List (Addr × Obj):=(zCI g h L).filter fun p=>decide (p.1≠d)
structure Mod (K:PySem.W.Frag) (mg:Str->Option Value) (base:Heap):Prop where
 kin:K.In base
 glob:base.Ns mainGlobals mg
 blt:∃mb,base.Ns builtinsNs mb/\∀x:Str,x≠"__name__"->mb x=bootBuiltins x
 nolimit:base.NoLimit
structure Cx where
 prog:Program
 w:World
 K:PySem.W.Frag
 mg:Str->Option Value
 base:Heap
 A:Around
 N:List Str
 s₀:Shared
 H₀:Hp
 env:Env
 outer:List Env
 stack:List Env
 ex:List Addr
 fn:Str->Bool
 calm:Bool
 pn:List (Addr × Obj)
 xe:Value->Shared->Prop
noncomputable def frs (l:List Env):List Addr:=l.filterMap (·.frame)
abbrev Cx.fs (X:Cx):List Addr:=frs X.outer
def Vis (sc:Scope) (x:Str):Prop:=sc.names.lookup x=some .local\/sc.names.lookup x=some .cell\/sc.names.lookup x=some .free
def Loc (sc:Scope) (x:Str):Prop:=sc.names.lookup x=some .local\/sc.names.lookup x=some .cell
def Look (env:Env) (h:Heap) (m:Str->Option Value) (x:Str) (u:Value):Prop:=
 (env.kindOf x=some .local/\m x=some u)\/((env.kindOf x=some .cell\/env.kindOf x=some .free)/\∃c,env.cells.lookup x=some c/\h.IsCell c (some u))
structure Cx.Ok (X:Cx):Prop where
 mod:Mod X.K X.mg X.base
 kind:X.env.scope.kind=.function
 glob:X.env.globals=mainGlobals
 blt:X.env.builtins=builtinsNs
 above:X.s₀.heap.objs.size<=X.env.locals
 inj:∀x y c,X.env.cells.lookup x=some c->X.env.cells.lookup y=some c->x=y
 has:∀x,(X.env.kindOf x=some .cell\/X.env.kindOf x=some .free)->∃c,X.env.cells.lookup x=some c
 cab:∀x c,X.fn x=true->X.env.cells.lookup x=some c->X.s₀.heap.objs.size<=c
 hd:X.calm=true->X.A.handled=none
 frames:X.A.frames=some X.stack
 stk:X.stack=X.outer\/(X.stack=X.env::X.outer/\X.env.frame=some X.env.locals)
 exf:∀b∈X.ex,b≠X.env.locals/\∀x c,X.env.cells.lookup x=some c->c≠b
 bs:∀b o,X.base.get? b=some o->X.s₀.heap.get? b=some o/\X.H₀ b=none
 bsz:X.base.objs.size<=X.s₀.heap.objs.size
 noex:∀b o,X.base.get? b=some o->b∉X.ex
 exfs:∀b∈X.ex,b∉X.fs
 funs:X.s₀.heap.FunFrames X.base X.outer
 frf:∀b∈X.fs,X.H₀ b=none
structure Inv (X:Cx) (pins:List (Addr × Obj)) (σ:List (Option V)) (H:Hp) (s:Shared):Prop where
 ok:X.Ok
 os:s.os=X.s₀.os
 bare:AllBare s.gens
 base:Un X.fs X.ex X.H₀ H X.s₀.heap s.heap
 loc:∃m,s.heap.Ns X.env.locals m/\∀(i:Nat) (x:Str) (v:V),X.N[i]?=some x->σ[i]?=some (some v)->Vis X.env.scope x->∃u,RelV v u/\Look X.env s.heap m x u
 cell:∀x c,X.env.cells.lookup x=some c->∃v,s.heap.IsCell c v
 free:H X.env.locals=none
 freeC:∀x c,X.env.cells.lookup x=some c->H c=none
 pin:∀p∈X.pn++pins,s.heap.get? p.1=some p.2/\H p.1=none/\p.1≠X.env.locals/\p.1∉X.fs/\∀v,p.2.data≠.cell v
 hok:HOk X.prog X.w H s.heap
 len:σ.length=X.N.length
section
variable {X:Cx} {pins:List (Addr × Obj)} {σ:List (Option V)} {H H':Hp} {s:Shared} {h':Heap}
theorem Cx.Ok.nofr (ok:X.Ok) {b:Addr} {o:Obj} (e:X.base.get? b=some o):b∉X.fs:=fun hb=>by
 have:=(ok.funs.mem hb).1
 rw[e]at this;cases this
theorem Inv.bs (I:Inv X pins σ H s):∀b o,X.base.get? b=some o->s.heap.get? b=some o/\H b=none:=fun b o e=>
 ⟨I.base.keep b o (I.ok.bs b o e).1 (I.ok.bs b o e).2 (I.ok.nofr e) (I.ok.noex b o e),I.base.free b o (I.ok.bs b o e).1 (I.ok.bs b o e).2 (I.ok.noex b o e)⟩
theorem Inv.bk (I:Inv X pins σ H s):∀b o,X.base.get? b=some o->s.heap.get? b=some o:=fun b o e=>(I.bs b o e).1
theorem Inv.mod (I:Inv X pins σ H s):Mod X.K X.mg X.base:=I.ok.mod
theorem Inv.kIn (I:Inv X pins σ H s):X.K.In s.heap:=I.ok.mod.kin.keeps I.bk
theorem Inv.fr (I:Inv X pins σ H s):∃m,Fr X.base X.env.locals s.heap m:=
 let ⟨m,hn,_⟩:=I.loc
 ⟨m,hn,I.bk,Nat.le_trans I.ok.bsz I.ok.above⟩
theorem Inv.lt (I:Inv X pins σ H s):X.env.locals<s.heap.objs.size:=let ⟨_,hn,_⟩:=I.loc;hn.lt
theorem Inv.sz (I:Inv X pins σ H s):X.s₀.heap.objs.size<=s.heap.objs.size:=Nat.le_trans I.ok.above (Nat.le_of_lt I.lt)
theorem Inv.nofs (I:Inv X pins σ H s) {a:Addr} (h:s.heap.objs.size<=a):a∉X.fs:=fun hb=>by
 obtain⟨_,o,ho,_⟩:=I.ok.funs.mem hb
 exact absurd (Nat.lt_of_lt_of_le (Heap.lt_size ho) (Nat.le_trans I.sz h)) (Nat.lt_irrefl _)
theorem Inv.cne (I:Inv X pins σ H s):∀x c,X.env.cells.lookup x=some c->c≠X.env.locals:=fun x c e z=>by
 obtain⟨v,o,ho,hd⟩:=I.cell x c e
 obtain⟨m,⟨o',es,ep,ho',hd',_⟩,_⟩:=I.loc
 rw[z,ho']at ho;cases ho;rw[hd']at hd;cases hd
theorem Inv.funs (I:Inv X pins σ H s):s.heap.FunFrames X.base X.outer:=by
 have all:∀(l:List Env),(∀b∈frs l,b∈X.fs)->X.s₀.heap.FunFrames X.base l->s.heap.FunFrames X.base l:=by
  intro l
  induction l with
  |nil=>intro _ _;trivial
  |cons env r ih=>
   intro hs hl
   obtain⟨hk,⟨L,o,hf,hn,ho,hd⟩,hr⟩:=hl
   have hL:L∈X.fs:=hs L (by unfold frs;rw[List.filterMap_cons,hf];exact List.mem_cons_self)
   obtain⟨sl,e⟩:=I.base.slot L o ho (I.ok.frf L hL) hL fun z=>I.ok.exfs L z hL
   exact⟨hk,⟨L,_,hf,hn,e,hd⟩,ih (fun b hb=>hs b (by unfold frs;rw[List.filterMap_cons,hf];exact List.mem_cons_of_mem _ hb)) hr⟩
 exact all X.outer (fun _ hb=>hb) I.ok.funs
theorem Inv.stack (I:Inv X pins σ H s):s.heap.FunFrames X.base X.stack:=by
 rcases I.ok.stk with e|⟨e,hf⟩
 .rw[e];exact I.funs
 .rw[e]
  obtain⟨m,hn,_⟩:=I.loc
  refine .cons (by rw[I.ok.kind];decide) hf hn ?_ I.funs
  exact Heap.get?_none_of_le (Nat.le_trans I.ok.bsz I.ok.above)
theorem Inv.stkSub (I:Inv X pins σ H s):∀b∈frs X.stack,b∈X.env.locals::X.fs:=fun b hb=>by
 rcases I.ok.stk with e|⟨e,hf⟩
 .rw[e]at hb;exact List.mem_cons_of_mem _ hb
 .rw[e]at hb
  unfold frs at hb
  rw[List.filterMap_cons,hf]at hb
  exact hb
theorem Inv.stkFree (I:Inv X pins σ H s):∀b∈frs X.stack,H b=none:=fun b hb=>by
 rcases List.mem_cons.mp (I.stkSub b hb)with e|hb
 .rw[e];exact I.free
 .obtain⟨_,o,ho,_⟩:=I.ok.funs.mem hb
  exact I.base.free b o ho (I.ok.frf b hb) fun z=>I.ok.exfs b z hb
theorem Inv.step {g':Array GenState} {t':Nat} {d':Drawn} {ch:List Addr} (I:Inv X pins σ H s)
 (hch:∀b∈ch,(b∈X.ex\/X.s₀.heap.objs.size<=b)/\b≠X.env.locals/\(∀x c,X.env.cells.lookup x=some c->c≠b)/\∀p∈X.pn++pins,p.1≠b)
 (keep:∀b o,b≠X.env.locals->b∉X.fs->b∉ch->s.heap.get? b=some o->H b=none->h'.get? b=some o)
 (slot:∀b o,b≠X.env.locals->b∈X.fs->b∉ch->s.heap.get? b=some o->H b=none->∃sl,h'.get? b=some {o with slots:=sl}) (free:∀b o,b∉ch->s.heap.get? b=some o->H b=none->H' b=none)
 (there:∀b o,b∉ch->s.heap.get? b=some o->∃o',h'.get? b=some o')
 (tups:∀b xs,H b=some (.tup xs)->H' b=some (.tup xs)) (frzs:∀b o u,H b=some (.frz o u)->H' b=some (.frz o u)) (tbls:∀b ps,H b=some (.tbl ps)->∃more,H' b=some (.tbl (ps++more)))
 (ns:∀m,s.heap.Ns X.env.locals m->h'.Ns X.env.locals m) (hok:HOk X.prog X.w H' h') (hg:AllBare g'):
 Inv X pins σ H' {s with heap:=h',gens:=g',drawn:=d',toks:=t'}:=by
 have neL:∀b o,X.s₀.heap.get? b=some o->b≠X.env.locals:=fun b o e=>Nat.ne_of_lt (Nat.lt_of_lt_of_le (Heap.lt_size e) I.ok.above)
 have neC:∀b o,X.s₀.heap.get? b=some o->b∉X.ex->b∉ch:=fun b o e hx hb=>by
  rcases(hch b hb).1 with z|z
  .exact hx z
  .exact absurd (Nat.lt_of_lt_of_le (Heap.lt_size e) z) (Nat.lt_irrefl _)
 have cellK:∀x c,X.env.cells.lookup x=some c->∀v,s.heap.IsCell c v->h'.IsCell c v:=fun x c e v ⟨o,ho,hd⟩=>by
  have nch:c∉ch:=fun z=>(hch c z).2.2.1 x c e rfl
  by_cases hc:c∈X.fs
  .obtain⟨sl,q⟩:=slot c o (I.cne x c e) hc nch ho (I.freeC x c e)
   exact⟨_,q,hd⟩
  .exact⟨o,keep c o (I.cne x c e) hc nch ho (I.freeC x c e),hd⟩
 refine⟨I.ok,I.os,hg,⟨fun b o e n hb hx=>?_,fun b o e n hb hx=>?_,fun b o e n hx=>?_,fun b o e hx=>?_,fun b xs e=>tups b xs (I.base.tups b xs e),fun b o xs e=>frzs b o xs (I.base.frzs b o xs e),fun b ps e=>?_⟩,?_,fun x c e=>?_,?_,fun x c e=>?_,fun p hp=>?_,hok,I.len⟩
 .exact keep b o (neL b o e) hb (neC b o e hx) (I.base.keep b o e n hb hx) (I.base.free b o e n hx)
 .obtain⟨sl,e1⟩:=I.base.slot b o e n hb hx
  obtain⟨sl',e2⟩:=slot b _ (neL b o e) hb (neC b o e hx) e1 (I.base.free b o e n hx)
  exact⟨sl',e2⟩
 .obtain⟨o',e1⟩:=I.base.there b o e hx
  exact free b o' (neC b o e hx) e1 (I.base.free b o e n hx)
 .obtain⟨o',e1⟩:=I.base.there b o e hx
  exact there b o' (neC b o e hx) e1
 .obtain⟨m1,e1⟩:=I.base.tbls b ps e
  obtain⟨m2,e2⟩:=tbls b _ e1
  exact⟨m1++m2,by rw[e2,Array.append_assoc]⟩
 .obtain⟨m,hn,hl⟩:=I.loc
  refine⟨m,ns m hn,fun i x v e1 e2 e3=>?_⟩
  obtain⟨u,r,l⟩:=hl i x v e1 e2 e3
  refine⟨u,r,?_⟩
  rcases l with l|⟨k,c,e,z⟩
  .exact .inl l
  .exact .inr ⟨k,c,e,cellK x c e _ z⟩
 .obtain⟨v,z⟩:=I.cell x c e
  exact⟨v,cellK x c e v z⟩
 .obtain⟨m,⟨o,_,_,ho,_⟩,_⟩:=I.loc
  exact free _ o (fun z=>(hch _ z).2.1 rfl) ho I.free
 .obtain⟨v,o,ho,hd⟩:=I.cell x c e
  exact free c o (fun z=>(hch c z).2.2.1 x c e rfl) ho (I.freeC x c e)
 .obtain⟨e,n,ne,nf,d⟩:=I.pin p hp
  have nch:p.1∉ch:=fun z=>(hch p.1 z).2.2.2 p hp rfl
  exact⟨keep p.1 p.2 ne nf nch e n,free p.1 p.2 nch e n,ne,nf,d⟩
theorem Inv.un {t':Nat} (I:Inv X pins σ H s) (u:Un X.fs [] H H' s.heap h') (hok:HOk X.prog X.w H' h'):Inv X pins σ H' {s with heap:=h',toks:=t'}:=by
 obtain⟨m,⟨o,es,ep,ho,r⟩,_⟩:=id I.loc
 obtain⟨sl,hL⟩:=u.any ho I.free (by simp)
 exact I.step (g':=s.gens) (d':=s.drawn) (ch:=[]) (fun _ z=>nomatch z) (fun b o _ hb _ e n=>u.keep b o e n hb (by simp)) (fun b o _ hb _ e n=>u.slot b o e n hb (by simp)) (fun b o _ e n=>u.free b o e n (by simp)) (fun b o _ e=>u.there b o e (by simp)) u.tups u.frzs u.tbls (fun m' hm=>by
  obtain⟨o',es',ep',ho',r'⟩:=hm
  rw[ho]at ho';cases ho'
  exact⟨_,es',ep',hL,r'⟩) hok I.bare
theorem Inv.call {g':Array GenState} {t':Nat} {d':Drawn} {ch:List Addr} (I:Inv X pins σ H s) (u:Un (frs X.stack) ch H H' s.heap h') (hok:HOk X.prog X.w H' h') (hg:AllBare g')
 (hch:∀b∈ch,(b∈X.ex\/X.s₀.heap.objs.size<=b)/\b≠X.env.locals/\(∀x c,X.env.cells.lookup x=some c->c≠b)/\∀p∈X.pn++pins,p.1≠b):
 Inv X pins σ H' {s with heap:=h',gens:=g',drawn:=d',toks:=t'}:=by
 obtain⟨m,⟨o,es,ep,ho,r⟩,_⟩:=id I.loc
 obtain⟨sl,hL⟩:=u.any ho I.free fun z=>(hch _ z).2.1 rfl
 exact I.step (ch:=ch) hch (fun b o hL hb hc e n=>u.keep b o e n (fun z=>(List.mem_cons.mp (I.stkSub b z)).elim hL hb) hc) (fun b o _ _ hc e n=>u.any e n hc) (fun b o hc e n=>u.free b o e n hc) (fun b o hc e=>u.there b o e hc) u.tups u.frzs u.tbls (fun m' hm=>by
  obtain⟨o',es',ep',ho',r'⟩:=hm
  rw[ho]at ho';cases ho'
  exact⟨_,es',ep',hL,r'⟩) hok hg
theorem Inv.turned {t':Nat} {it:Addr} (I:Inv X pins σ H s) (k:∀b o,b≠it->s.heap.get? b=some o->h'.get? b=some o) (hn:H it=none) (hL:it≠X.env.locals)
 (h1:it∈X.ex\/X.s₀.heap.objs.size<=it) (h2:∀x c,X.env.cells.lookup x=some c->c≠it) (h3:∀p∈X.pn++pins,p.1≠it):Inv X pins σ H {s with heap:=h',toks:=t'}:=by
 have nit:∀b u,H b=some u->b≠it:=fun b u e z=>by rw[z,hn]at e;cases e
 refine I.step (g':=s.gens) (d':=s.drawn) (ch:=[it]) (fun b hb=>?_) (fun b o _ _ hc e _=>k b o (fun z=>hc (by simp[z])) e) (fun b o _ _ hc e _=>⟨o.slots,k b o (fun z=>hc (by simp[z])) e⟩) (fun _ _ _ _ n=>n)
  (fun b o hc e=>⟨o,k b o (fun z=>hc (by simp[z])) e⟩) (fun _ _ e=>e) (fun _ _ _ e=>e) (fun b ps e=>⟨#[],by rw[e];simp⟩) (fun m hm=>?_) (fun b u e=>?_) I.bare
 .have e:b=it:=by simpa using hb
  subst e
  exact⟨h1,hL,h2,h3⟩
 .obtain⟨o,es,ep,ho,r⟩:=hm
  exact⟨o,es,ep,k _ o (Ne.symm hL) ho,r⟩
 .refine(I.hok b u e).stay (fun c v hc q=>k c v ?_ q) (fun _ q=>q) fun _ _ q=>q
  rcases hc with z|z
  .rw[z];exact nit b u e
  .exact nit c _ z
theorem Inv.tok (I:Inv X pins σ H s) (t:Nat):Inv X pins σ H {s with toks:=t}:=I.un (h':=s.heap) (t':=t) Un.refl I.hok
theorem Inv.kept {t':Nat} (I:Inv X pins σ H s) (k:∀b u,s.heap.get? b=some u->h'.get? b=some u):Inv X pins σ H {s with heap:=h',toks:=t'}:=I.un (Un.kept k) (I.hok.kept k)
theorem Inv.laid {a:Addr} {o:HO} {t':Nat} (I:Inv X pins σ H s) (k:∀b u,s.heap.get? b=some u->h'.get? b=some u) (hp:s.heap.objs.size<=a) (new:ObjOk X.prog X.w (upd H a o) h' a o):
 Inv X pins σ (upd H a o) {s with heap:=h',toks:=t'}:=I.un (Un.laid k hp (I.hok.fresh hp)) (I.hok.laid k hp new)
theorem Inv.write {x e:Addr} {o:HO} {t':Nat} (I:Inv X pins σ H s) (mu:Mut (H x)) (he:e=x\/H e=some (.own x)) (k:∀b u,b≠e->s.heap.get? b=some u->h'.get? b=some u) (heo:∃u,h'.get? e=some u)
 (new:ObjOk X.prog X.w (upd H x o) h' x o):Inv X pins σ (upd H x o) {s with heap:=h',toks:=t'}:=I.un (Un.write mu he k heo) (I.hok.write mu he k heo new)
theorem Inv.pins_of {pins':List (Addr × Obj)} (I:Inv X pins σ H s) (h:∀p∈pins',s.heap.get? p.1=some p.2/\H p.1=none/\p.1≠X.env.locals/\p.1∉X.fs/\∀v,p.2.data≠.cell v):Inv X pins' σ H s:=
 ⟨I.ok,I.os,I.bare,I.base,I.loc,I.cell,I.free,I.freeC,fun p hp=>(List.mem_append.mp hp).elim (fun z=>I.pin p (List.mem_append_left _ z)) (h p),I.hok,I.len⟩
theorem z52 {N:List Str} (hN:N.Nodup) {i j:Nat} {x:Str} (a:N[i]?=some x) (b:N[j]?=some x):i=j:=by
 obtain⟨h1,e1⟩:=List.getElem?_eq_some_iff.mp a
 obtain⟨h2,e2⟩:=List.getElem?_eq_some_iff.mp b
 exact(List.getElem_inj hN).mp (e1.trans e2.symm)
theorem z5m {M:Model} {A:Around} {E:Value->Shared->Prop} {i:Nat} {x:Str} {v:V} {u:Value} {Q:Unit->Shared->Prop} (I:Inv X pins σ H s) (hN:X.N.Nodup) (hi:X.N[i]?=some x) (hx:Loc X.env.scope x) (r:RelV v u)
 (h:∀s',Inv X pins (σ.set i (some v)) H s'->(∃a,Heap.SameBut a s.heap s'.heap/\(a=X.env.locals\/X.env.cells.lookup x=some a))->Q () s') (hf:X.fn x=true\/X.env.scope.names.lookup x=some .local:=by first|exact .inl rfl|exact .inr rfl|assumption):wpAny M A (storeName X.env x u) Q E s:=by
 obtain⟨m,hn,hl⟩:=id I.loc
 have hcls:(X.env.scope.kind==.class||(X.env.scope.kind==.module&&X.env.locals !=X.env.globals))=false:=by rw[I.ok.kind];rfl
 have hiσ:i<σ.length:=by rw[I.len];exact(List.getElem?_eq_some_iff.mp hi).1
 have cne:=I.cne
 have tracked:∀{a:Addr} {h':Heap},(∃o,s.heap.get? a=some o/\H a=none)->Heap.SameBut a s.heap h'->HOk X.prog X.w H h':=fun{a h'} ha hs b ob e=>by
  obtain⟨_,_,hfree⟩:=ha
  refine(I.hok b ob e).stay (fun c w' hc q=>(hs.2 c ?_).trans q) (fun _ q=>q) fun _ _ q=>q
  rintro rfl
  rcases hc with rfl|hc
  .rw[hfree]at e;cases e
  .rw[hfree]at hc;cases hc
 rcases hx with hk|hk
 .refine wpAny_storeName_local hk hn (fun h' hn' hs=>?_) hcls
  obtain⟨oL,_,_,hoL,_⟩:=id hn
  refine h _ ⟨I.ok,I.os,I.bare,⟨fun b o e n hb hx=>?_,fun b o e n hb hx=>?_,I.base.free,fun b o e hx=>?_,I.base.tups,I.base.frzs,I.base.tbls⟩,⟨_,hn',fun j y v' e1 e2 e3=>?_⟩,fun y c e=>?_,I.free,I.freeC,fun p hp=>?_,tracked ⟨oL,hoL,I.free⟩ hs,by simpa using I.len⟩ ⟨_,hs,.inl rfl⟩
  .exact(hs.2 b (Nat.ne_of_lt (Nat.lt_of_lt_of_le (Heap.lt_size e) I.ok.above))).trans (I.base.keep b o e n hb hx)
  .obtain⟨sl,e1⟩:=I.base.slot b o e n hb hx
   exact⟨sl,(hs.2 b (Nat.ne_of_lt (Nat.lt_of_lt_of_le (Heap.lt_size e) I.ok.above))).trans e1⟩
  .obtain⟨o',e1⟩:=I.base.there b o e hx
   exact⟨o',(hs.2 b (Nat.ne_of_lt (Nat.lt_of_lt_of_le (Heap.lt_size e) I.ok.above))).trans e1⟩
  .by_cases hj:j=i
   .subst hj
    rw[hi]at e1;cases e1
    rw[List.getElem?_set_self hiσ]at e2
    cases e2
    exact⟨u,r,.inl ⟨hk,by simp⟩⟩
   .rw[List.getElem?_set_ne (Ne.symm hj)]at e2
    obtain⟨u',r',q⟩:=hl j y v' e1 e2 e3
    refine⟨u',r',?_⟩
    rcases q with⟨k,e⟩|⟨k,c,e,z⟩
    .refine .inl ⟨k,?_⟩
     have:y≠x:=fun e=>hj (z52 hN e1 (e▸hi))
     simp[this,e]
    .exact .inr ⟨k,c,e,z.sameBut hs (cne y c e)⟩
  .obtain⟨w',z⟩:=I.cell y c e
   exact⟨w',z.sameBut hs (cne y c e)⟩
  .obtain⟨e,n,ne,nf,d⟩:=I.pin p hp
   exact⟨(hs.2 p.1 ne).trans e,n,ne,nf,d⟩
 .have hfn:X.fn x=true:=by
   rcases hf with z|z
   .exact z
   .rw[z]at hk;cases hk
  obtain⟨c,hc⟩:=I.ok.has x (.inl hk)
  obtain⟨w',z⟩:=I.cell x c hc
  refine wpAny_storeName_cell I.ok.kind hk hc z (fun h' hc' hs=>?_)
  obtain⟨oc,hoc,hocd⟩:=id z
  refine h {s with heap:=h'} ⟨I.ok,I.os,I.bare,⟨fun b o e n hb hx=>?_,fun b o e n hb hx=>?_,I.base.free,fun b o e hx=>?_,I.base.tups,I.base.frzs,I.base.tbls⟩,⟨m,hn.sameBut hs (Ne.symm (cne x c hc)),fun j y v' e1 e2 e3=>?_⟩,fun y c' e=>?_,I.free,I.freeC,fun p hp=>?_,tracked ⟨oc,hoc,I.freeC x c hc⟩ hs,by simpa using I.len⟩ ⟨c,hs,.inr hc⟩
  .exact(hs.2 b (Nat.ne_of_lt (Nat.lt_of_lt_of_le (Heap.lt_size e) (I.ok.cab x c hfn hc)))).trans (I.base.keep b o e n hb hx)
  .obtain⟨sl,e1⟩:=I.base.slot b o e n hb hx
   exact⟨sl,(hs.2 b (Nat.ne_of_lt (Nat.lt_of_lt_of_le (Heap.lt_size e) (I.ok.cab x c hfn hc)))).trans e1⟩
  .obtain⟨o',e1⟩:=I.base.there b o e hx
   exact⟨o',(hs.2 b (Nat.ne_of_lt (Nat.lt_of_lt_of_le (Heap.lt_size e) (I.ok.cab x c hfn hc)))).trans e1⟩
  .by_cases hj:j=i
   .subst hj
    rw[hi]at e1;cases e1
    rw[List.getElem?_set_self hiσ]at e2
    cases e2
    exact⟨u,r,.inr ⟨.inl hk,c,hc,hc'⟩⟩
   .rw[List.getElem?_set_ne (Ne.symm hj)]at e2
    obtain⟨u',r',q⟩:=hl j y v' e1 e2 e3
    refine⟨u',r',?_⟩
    rcases q with q|⟨k,c',e,z'⟩
    .exact .inl q
    .refine .inr ⟨k,c',e,z'.sameBut hs ?_⟩
     rintro rfl
     exact hj (z52 hN e1 (I.ok.inj _ _ _ e hc▸hi))
  .by_cases hcc:c'=c
   .subst hcc;exact⟨_,hc'⟩
   .obtain⟨w2,z2⟩:=I.cell y c' e
    exact⟨w2,z2.sameBut hs hcc⟩
  .obtain⟨e,n,ne,nf,d⟩:=I.pin p hp
   refine⟨(hs.2 p.1 ?_).trans e,n,ne,nf,d⟩
   intro q
   rw[q,hoc]at e
   have q':oc=p.2:=Option.some.inj e
   exact d w' (by rw[<-q'];exact hocd)
theorem z53 {M:Model} {A:Around} {E:Value->Shared->Prop} {i:Nat} {x:Str} {v:V} {u:Value} {Q:Unit->Shared->Prop} (I:Inv X pins σ H s) (hN:X.N.Nodup) (hi:X.N[i]?=some x) (hx:Loc X.env.scope x) (r:RelV v u)
 (h:∀s',Inv X pins (σ.set i (some v)) H s'->Q () s') (hf:X.fn x=true\/X.env.scope.names.lookup x=some .local:=by first|exact .inl rfl|exact .inr rfl|assumption):wpAny M A (storeName X.env x u) Q E s:=
 z5m I hN hi hx r (fun s' I' _=>h s' I') hf
theorem Inv.call' {s':Shared} {ch:List Addr} (I:Inv X pins σ H s) (ho:s'.os=s.os) (u:Un (frs X.stack) ch H H' s.heap s'.heap) (hok:HOk X.prog X.w H' s'.heap) (hg:AllBare s'.gens)
 (hch:∀b∈ch,(b∈X.ex\/X.s₀.heap.objs.size<=b)/\b≠X.env.locals/\(∀x c,X.env.cells.lookup x=some c->c≠b)/\∀p∈X.pn++pins,p.1≠b):Inv X pins σ H' s':=by
 obtain⟨h',g',d',t',o'⟩:=s'
 have e:o'=s.os:=ho
 subst e
 exact I.call (g':=g') (t':=t') (d':=d') u hok hg hch
end
abbrev XK:=Value->Option Addr->Hp->Prop
abbrev St:=List (Option V)
abbrev VK:=V->Hp->Prop
abbrev TE:=St->Hp->VK->Prop
abbrev TT:=St->Hp->(Bool->Hp->Prop)->Prop
abbrev TA:=St->Hp->(List V->Hp->Prop)->Prop
structure Ends where
 nx:St->Hp->Prop
 rt:VK
 bk:St->Hp->Prop:=fun _ _=>False
 ct:St->Hp->Prop:=fun _ _=>False
abbrev TS:=Ends->St->Hp->Prop
def EP (X:Cx) (pins:List (Addr × Obj)) (σ:St) (Q:VK) (u:Value) (s':Shared):Prop:=∃v H',Inv X pins σ H' s'/\RelV v u/\Q v H'
def TP (X:Cx) (pins:List (Addr × Obj)) (σ:St) (Q:Bool->Hp->Prop) (b:Bool) (s':Shared):Prop:=∃H',Inv X pins σ H' s'/\Q b H'
def AP (X:Cx) (pins:List (Addr × Obj)) (σ:St) (Q:List V->Hp->Prop) (us:List Value) (s':Shared):Prop:=∃vs H',Inv X pins σ H' s'/\Vals vs us/\Q vs H'
def SP (X:Cx) (pins:List (Addr × Obj)) (D:Ends) (f:Flow) (s':Shared):Prop:=
 match f with
 |.next=>∃σ' H',Inv X pins σ' H' s'/\D.nx σ' H'
 |.brk=>∃σ' H',Inv X pins σ' H' s'/\D.bk σ' H'
 |.cont=>∃σ' H',Inv X pins σ' H' s'/\D.ct σ' H'
 |.ret u=>∃v σ' H',Inv X pins σ' H' s'/\RelV v u/\D.rt v H'
def PE (X:Cx) (e:Expr) (t:TE):Prop:=
 ∀(pins:List (Addr × Obj)) (s:Shared) (σ:St) (H:Hp) (Q:VK),Inv X pins σ H s->t σ H Q->wpAny (model X.prog X.w) X.A (eval e X.env) (EP X pins σ Q) X.xe s
def PT (X:Cx) (e:Expr) (t:TT):Prop:=
 ∀(pins:List (Addr × Obj)) (s:Shared) (σ:St) (H:Hp) (Q:Bool->Hp->Prop),Inv X pins σ H s->t σ H Q->wpAny (model X.prog X.w) X.A (isTrue e X.env (eval e X.env)) (TP X pins σ Q) X.xe s
def PW (X:Cx) (e:Expr) (t:TT):Prop:=
 ∀(whole:Sem Value) (pins:List (Addr × Obj)) (s:Shared) (σ:St) (H:Hp) (Q:Bool->Hp->Prop),Inv X pins σ H s->t σ H Q->wpAny (model X.prog X.w) X.A (isTrue e X.env whole) (TP X pins σ Q) X.xe s
theorem PW.pt {X:Cx} {e:Expr} {t:TT} (h:PW X e t):PT X e t:=h _
def PA (X:Cx) (es:List Expr) (t:TA):Prop:=
 ∀(pos:Pos) (pins:List (Addr × Obj)) (s:Shared) (σ:St) (H:Hp) (Q:List V->Hp->Prop),Inv X pins σ H s->t σ H Q->wpAny (model X.prog X.w) X.A (spliced (backTo pos (starEach es X.env))) (AP X pins σ Q) X.xe s
def PS (X:Cx) (st:Stmt) (t:TS):Prop:=
 ∀(pins:List (Addr × Obj)) (s:Shared) (σ:St) (H:Hp) (D:Ends),Inv X pins σ H s->t D σ H->wpAny (model X.prog X.w) X.A (exec st X.env) (SP X pins D) X.xe s
def PSs (X:Cx) (st:List Stmt) (t:TS):Prop:=
 ∀(pins:List (Addr × Obj)) (s:Shared) (σ:St) (H:Hp) (D:Ends),Inv X pins σ H s->t D σ H->wpAny (model X.prog X.w) X.A (execs st X.env) (SP X pins D) X.xe s
theorem thn {α:Type} {t:Sem α} {Q Q':α->Shared->Prop} {M:Model} {A:Around} {E:Value->Shared->Prop} {s:Shared} (h:wpAny M A t Q E s) (hQ:∀a s,Q a s->Q' a s):wpAny M A t Q' E s:=wpAny_mono h hQ fun _ _ x=>x
section
variable {X:Cx}
def zE0 (i:Nat):TE:=fun σ H Q=>∃v,σ[i]?=some (some v)/\Q v H
def tC (v:V):TE:=fun _ H Q=>Q v H
theorem zDF {i:Nat} {x:Str} {pos:Pos} (hN:X.N[i]?=some x) (hv:Vis X.env.scope x) (hd:(x==("__debug__":Str))=false:=by decide) (hcd:(x==("__classdict__":Str))=false:=by decide):PE X (.Name x pos) (zE0 i):=by
 intro pins s σ H Q I h
 obtain⟨v,e,h⟩:=h
 obtain⟨m,hn,hl⟩:=I.loc
 obtain⟨u,r,l⟩:=hl i x v hN e hv
 have fin:EP X pins σ Q u s:=⟨v,H,I,r,h⟩
 rcases l with⟨hk,hm⟩|⟨hk,c,hc,hcell⟩
 .exact wpAny_Name (wpAny_loadName_local I.ok.kind hk hn hm fin) hd
 .rcases hk with hk|hk
  .exact wpAny_Name (wpAny_loadName_cell I.ok.kind hk hc hcell fin) hd
  .exact wpAny_Name (wpAny_loadName_free I.ok.kind hk hc hcell fin hcd) hd
theorem z01 {i j pos}:PE X (.Constant (.int i) j pos) (tC (.int i)):=fun _ _ _ H _ I h=>wpAny_Constant_int ⟨.int i,H,I.tok _,⟨_,rfl⟩,h⟩
theorem z2A {b j pos}:PE X (.Constant (.bool b) j pos) (tC (.bl b)):=fun _ _ _ H _ I h=>Constant_bool ⟨.bl b,H,I,rfl,h⟩
theorem z3c {j pos}:PE X (.Constant .none j pos) (tC .non):=fun _ _ _ H _ I h=>Constant_none ⟨.non,H,I,rfl,h⟩
theorem z2X {x j pos}:PE X (.Constant (.str x) j pos) (tC (.str x)):=fun _ _ _ H _ I h=>Calls.Constant_str ⟨.str x,H,I.tok _,⟨_,rfl⟩,h⟩
def Gl (X:Cx) (x:Str):Prop:=X.env.kindOf x=some .globalImplicit
theorem z2c {E:Value->Shared->Prop} {pins:List (Addr × Obj)} {s:Shared} {σ:St} {H:Hp} {x:Str} {u:Value} {pos:Pos} {Q:Value->Shared->Prop} (I:Inv X pins σ H s) (hg:Gl X x) (hm:X.mg x=some u) (h:Q u s)
 (hd:(x==("__debug__":Str))=false:=by decide):wpAny (model X.prog X.w) X.A (eval (.Name x pos) X.env) Q E s:=
 Calls.Name_function_global I.ok.kind hg (Calls.loadGlobal_global (by rw[I.ok.glob];exact I.mod.glob.keeps I.bk) hm h) hd
theorem z2r {E:Value->Shared->Prop} {pins:List (Addr × Obj)} {s:Shared} {σ:St} {H:Hp} {x:Str} {u:Value} {pos:Pos} {Q:Value->Shared->Prop} (I:Inv X pins σ H s) (hg:Gl X x) (hm:X.mg x=none) (hv:bootBuiltins x=some u) (h:Q u s)
 (hn:x≠"__name__":=by decide) (hd:(x==("__debug__":Str))=false:=by decide):wpAny (model X.prog X.w) X.A (eval (.Name x pos) X.env) Q E s:=by
 obtain⟨mb,h1,h2⟩:=I.mod.blt
 exact Calls.Name_function_global I.ok.kind hg (Calls.loadGlobal_builtin (by rw[I.ok.glob];exact I.mod.glob.keeps I.bk) hm (by rw[I.ok.blt];exact h1.keeps I.bk) ((h2 x hn).trans hv) h) hd
theorem z3R {x:Str} {v:V} {u:Value} {pos:Pos} (hg:Gl X x) (hm:X.mg x=some u) (r:RelV v u) (hd:(x==("__debug__":Str))=false:=by decide):PE X (.Name x pos) (tC v):=
 fun _ _ _ H _ I h=>z2c I hg hm ⟨v,H,I,r,h⟩ hd
theorem z1K {x:Str} {v:V} {u:Value} {pos:Pos} (hg:Gl X x) (hm:X.mg x=none) (hv:bootBuiltins x=some u) (r:RelV v u) (hn:x≠"__name__":=by decide) (hd:(x==("__debug__":Str))=false:=by decide):PE X (.Name x pos) (tC v):=
 fun _ _ _ H _ I h=>z2r I hg hm hv ⟨v,H,I,r,h⟩ hn hd
variable {a b:Expr} {ta tb:TE} {pos:Pos}
def PC (X:Cx) (op:CmpOp) (a b:Expr) (t:TE):Prop:=
 ∀(pins:List (Addr × Obj)) (s:Shared) (σ:St) (H:Hp) (Q:VK),Inv X pins σ H s->t σ H Q->
  wpAny (model X.prog X.w) X.A (eval a X.env) (fun v s₁=>wpAny (model X.prog X.w) X.A (eval b X.env) (fun u s₂=>wpAny (model X.prog X.w) X.A (compareOp op v u) (EP X pins σ Q) X.xe s₂) X.xe s₁) X.xe s
theorem zAz (b:Expr) {op:CmpOp} (h:op≠.In) (h2:op≠.NotIn):behindInMarks op b=false:=by
 have e1:(op==CmpOp.In)=false:=by cases op<;>first|rfl|exact absurd rfl h
 have e2:(op==CmpOp.NotIn)=false:=by cases op<;>first|rfl|exact absurd rfl h2
 cases b<;>simp[behindInMarks,e1,e2]
def tB (t:TE):TT:=fun σ H Q=>t σ H fun x H1=>∃c,x=.bl c/\Q c H1
theorem zDG {op:CmpOp} {t:TE} (h:PC X op a b t) (h1:behindInMarks op b=false:=by first|exact zAz _ (by decide) (by decide)|rfl):PT X (.Compare a [op] [b] pos) (tB t):=by
 intro pins s σ H Q I hw
 refine wpAny_isTrue_Compare1 (thn (h pins s σ H _ I hw) fun v s1 h1=>thn h1 fun u s2 h2=>thn h2 fun c s3 ⟨x,H1,I1,r1,q1⟩=>?_) h1
 obtain⟨d,rfl,q⟩:=q1
 cases r1
 exact wpAny_truthy_bool ⟨H1,I1,q⟩
theorem z0W {e:Expr} {t:TE} (h:PE X e t) (he:∀whole,isTrue e X.env whole=(do let v<-whole;standAt e.pos;holding [v] (truthy v)):=by intro _;rfl):PT X e (tB t):=by
 intro pins s σ H Q I hw
 refine isTrue_plain (thn (h pins s σ H _ I hw) fun v s1 ⟨x,H1,I1,r1,q1⟩=>?_) (he _)
 obtain⟨d,rfl,q⟩:=q1
 cases r1
 exact wpAny_truthy_bool ⟨H1,I1,q⟩
variable {tA tB':TT} {rest:List Expr}
def zF0 (t u:TT):TT:=fun σ H Q=>t σ H fun c H1=>if c=true then u σ H1 Q else Q false H1
def tOr (t u:TT):TT:=fun σ H Q=>t σ H fun c H1=>if c=true then Q true H1 else u σ H1 Q
def zF1 (t:TT):TT:=fun σ H Q=>t σ H fun c H1=>Q (!c) H1
theorem z54 (ha:PT X a tA):PW X (.BoolOp .And [a] pos) tA:=by
 intro wh pins s σ H Q I h
 refine isTrue_and (thn (ha pins s σ H Q I h) fun c s1 e=>?_)
 cases c with
 |true=>exact isTrue_and_nil e
 |false=>exact e
theorem z1c (ha:PT X a tA):PW X (.BoolOp .Or [a] pos) tA:=by
 intro wh pins s σ H Q I h
 refine isTrue_or (thn (ha pins s σ H Q I h) fun c s1 e=>?_)
 cases c with
 |false=>exact isTrue_or_nil e
 |true=>exact e
theorem z7g (ha:PT X a tA) (hb:PW X (.BoolOp .And (b::rest) pos) tB'):PW X (.BoolOp .And (a::b::rest) pos) (zF0 tA tB'):=by
 intro wh pins s σ H Q I h
 refine isTrue_and (thn (ha pins s σ H _ I h) fun c s1 ⟨H1,I1,q1⟩=>?_)
 cases c with
 |true=>exact hb wh pins s1 σ H1 Q I1 q1
 |false=>exact⟨H1,I1,q1⟩
theorem z2D (ha:PT X a tA) (hb:PW X (.BoolOp .Or (b::rest) pos) tB'):PW X (.BoolOp .Or (a::b::rest) pos) (tOr tA tB'):=by
 intro wh pins s σ H Q I h
 refine isTrue_or (thn (ha pins s σ H _ I h) fun c s1 ⟨H1,I1,q1⟩=>?_)
 cases c with
 |true=>exact⟨H1,I1,q1⟩
 |false=>exact hb wh pins s1 σ H1 Q I1 q1
theorem z0a (ha:PT X a tA):PT X (.UnaryOp .Not a pos) (zF1 tA):=by
 intro pins s σ H Q I h
 exact isTrue_not (ha pins s σ H (fun c H1=>Q (!c) H1) I h)
def zE7 (ta tb:TE):TE:=fun σ H Q=>ta σ H fun x H1=>∃c,x=.bl c/\if c=true then tb σ H1 Q else Q (.bl false) H1
def zE8 (ta:TE):TE:=fun σ H Q=>ta σ H fun x H1=>∃c,x=.bl c/\Q (.bl (!c)) H1
theorem z2s {op} {t:TE} (h:PE X a t):PE X (.BoolOp op [a] pos) t:=fun pins s σ H Q I hw=>BoolOp_one (h pins s σ H Q I hw)
theorem z2t (ha:PE X a ta) (hb:PE X (.BoolOp .And (b::rest) pos) tb):PE X (.BoolOp .And (a::b::rest) pos) (zE7 ta tb):=by
 intro pins s σ H Q I h
 refine BoolOp_and (thn (ha pins s σ H _ I h) fun v s1 ⟨x,H1,I1,r1,q1⟩=>?_)
 obtain⟨c,rfl,q1⟩:=q1
 cases r1
 refine wpAny_truthy_bool ?_
 cases c with
 |true=>exact hb pins s1 σ H1 Q I1 q1
 |false=>exact⟨.bl false,H1,I1,rfl,q1⟩
theorem zBr (ha:PE X a ta):PE X (.UnaryOp .Not a pos) (zE8 ta):=by
 intro pins s σ H Q I h
 refine UnaryOp_ (thn (ha pins s σ H _ I h) fun v s1 ⟨x,H1,I1,r1,q1⟩=>?_)
 obtain⟨c,rfl,q1⟩:=q1
 cases r1
 exact not_of (wpAny_truthy_bool ⟨.bl (!c),H1,I1,rfl,q1⟩)
def tIf (t:TT) (ta tb:TE):TE:=fun σ H Q=>t σ H fun c H1=>if c=true then ta σ H1 Q else tb σ H1 Q
theorem z35 {c:Expr} (hc:PT X c tA) (ha:PE X a ta) (hb:PE X b tb):PE X (.IfExp c a b pos) (tIf tA ta tb):=by
 intro pins s σ H Q I h
 refine wpAny_IfExp (thn (hc pins s σ H _ I h) fun d s1 ⟨H1,I1,q1⟩=>?_)
 cases d with
 |true=>exact ha pins s1 σ H1 Q I1 q1
 |false=>exact hb pins s1 σ H1 Q I1 q1
end
def SqL (K:PySem.W.Frag) (H:Hp) (a:Addr) (xs:List V):Prop:=
 Rd H a (.lst xs)\/
  ∃(o:Obj) (its:Array Value) (n:Nat),K.lookup a=some o/\o.cls=.type "list"/\o.dict=none/\o.data=.seq its n/\its.size<=sizeLine/\Vals xs its.toList
def SqT (K:PySem.W.Frag) (H:Hp) (a:Addr) (xs:List V):Prop:=
 Rd H a (.tup xs)\/
  ∃(o:Obj) (its:Array Value) (n:Nat),K.lookup a=some o/\o.cls=.type "tuple"/\o.data=.seq its n/\its.size<=sizeLine/\Vals xs its.toList
noncomputable def zF2:Value->Option V
 |.none=>some .non
 |.bool b=>some (.bl b)
 |.int i _=>some (.int i)
 |.str x _=>some (.str x)
 |.bytes b _=>some (.byt b)
 |.float b _=>some (.flt b)
 |.ref a=>some (.ref a)
 |.type n=>some (.ty n)
 |_=>none
theorem RelV.abs {x:V} {u:Value} (r:RelV x u):zF2 u=some x:=by
 cases x with
 |non=>cases r;rfl
 |bl _=>cases r;rfl
 |int _=>obtain⟨t,rfl⟩:=r;rfl
 |str _=>obtain⟨t,rfl⟩:=r;rfl
 |byt _=>obtain⟨t,rfl⟩:=r;rfl
 |flt _=>obtain⟨t,rfl⟩:=r;rfl
 |ref _=>cases r;rfl
 |ty _=>cases r;rfl
theorem RelV.inj {x y:V} {u:Value} (r:RelV x u) (q:RelV y u):x=y:=Option.some.inj (r.abs.symm.trans q.abs)
theorem Vals.inj:∀{xs ys:List V} {us:List Value},Vals xs us->Vals ys us->xs=ys
 |_,_,_,.nil,.nil=>rfl
 |_,_,_,.cons r t,.cons r' t'=>by rw[r.inj r',Vals.inj t t']
section
variable {X:Cx} {pins:List (Addr × Obj)} {σ:St} {H:Hp} {s:Shared} {a:Addr} {xs ys:List V}
theorem SqL.of {K:PySem.W.Frag} (h:H a=some (.lst xs)):SqL K H a xs:=.inl (.inl h)
theorem SqT.of {K:PySem.W.Frag} (h:H a=some (.tup xs)):SqT K H a xs:=.inl (.inl h)
theorem Inv.list (I:Inv X pins σ H s) (h:SqL X.K H a xs):∃its:List Value,Vals xs its/\PlainL s.heap a its.toArray/\xs.length<=sizeLine:=by
 rcases h with h|⟨o,its,n,hk,hc,hd,hs,hz,r⟩
 .obtain⟨z,its,n,r,e⟩:=h.ok I.hok
  exact⟨its,r,⟨_,n,e,rfl,rfl,rfl⟩,z⟩
 .refine⟨its.toList,r,⟨o,n,I.kIn a o hk,hc,hd,by simpa using hs⟩,?_⟩
  have e:=r.length
  simp only[Array.length_toList]at e
  omega
theorem Inv.tuple (I:Inv X pins σ H s) (h:SqT X.K H a xs):∃its:List Value,Vals xs its/\IsTup s.heap a its.toArray/\xs.length<=sizeLine:=by
 rcases h with h|⟨o,its,n,hk,hc,hs,hz,r⟩
 .obtain⟨z,its,r,p⟩:=h.ok I.hok
  exact⟨its,r,p,z⟩
 .refine⟨its.toList,r,⟨o,I.kIn a o hk,hc,n,by simpa using hs⟩,?_⟩
  have e:=r.length
  simp only[Array.length_toList]at e
  omega
theorem Inv.list_inj (I:Inv X pins σ H s) (h:SqL X.K H a xs) (h':SqL X.K H a ys):xs=ys:=by
 obtain⟨its,r,⟨o,n,e,_,_,d⟩,_⟩:=I.list h
 obtain⟨its',r',⟨o',n',e',_,_,d'⟩,_⟩:=I.list h'
 rw[e]at e';cases e'
 rw[d]at d'
 injection d' with d1 _
 have:its=its':=by simpa using congrArg Array.toList d1
 subst this
 exact r.inj r'
theorem Inv.tuple_inj (I:Inv X pins σ H s) (h:SqT X.K H a xs) (h':SqT X.K H a ys):xs=ys:=by
 obtain⟨its,r,⟨o,e,_,n,d⟩,_⟩:=I.tuple h
 obtain⟨its',r',⟨o',e',_,n',d'⟩,_⟩:=I.tuple h'
 rw[e]at e';cases e'
 rw[d]at d'
 injection d' with d1 _
 have:its=its':=by simpa using congrArg Array.toList d1
 subst this
 exact r.inj r'
end
noncomputable abbrev Cx.wish (X:Cx) (E:Value->Shared->Prop):Cx:={X with xe:=E}
noncomputable abbrev Cx.nox (X:Cx):Cx:=X.wish fun _ _=>False
theorem Cx.Ok.wish {X:Cx} (ok:X.Ok) (E:Value->Shared->Prop):(X.wish E).Ok:=
 ⟨ok.mod,ok.kind,ok.glob,ok.blt,ok.above,ok.inj,ok.has,ok.cab,ok.hd,ok.frames,ok.stk,ok.exf,ok.bs,ok.bsz,ok.noex,ok.exfs,ok.funs,ok.frf⟩
theorem Cx.Ok.unwish {X:Cx} {E:Value->Shared->Prop} (ok:(X.wish E).Ok):X.Ok:=
 ⟨ok.mod,ok.kind,ok.glob,ok.blt,ok.above,ok.inj,ok.has,ok.cab,ok.hd,ok.frames,ok.stk,ok.exf,ok.bs,ok.bsz,ok.noex,ok.exfs,ok.funs,ok.frf⟩
section
variable {X:Cx} {pins:List (Addr × Obj)} {σ:St} {H:Hp} {s:Shared} {E:Value->Shared->Prop}
theorem Inv.wish (I:Inv X pins σ H s) (E:Value->Shared->Prop):Inv (X.wish E) pins σ H s:=⟨I.ok.wish E,I.os,I.bare,I.base,I.loc,I.cell,I.free,I.freeC,I.pin,I.hok,I.len⟩
theorem Inv.unwish (I:Inv (X.wish E) pins σ H s):Inv X pins σ H s:=⟨I.ok.unwish,I.os,I.bare,I.base,I.loc,I.cell,I.free,I.freeC,I.pin,I.hok,I.len⟩
theorem SP.unwish {D:Ends} {f:Flow} {s':Shared} (h:SP (X.wish E) pins D f s'):SP X pins D f s':=by
 cases f with
 |next=>obtain⟨σ',H',I,q⟩:=h;exact⟨σ',H',I.unwish,q⟩
 |brk=>obtain⟨σ',H',I,q⟩:=h;exact⟨σ',H',I.unwish,q⟩
 |cont=>obtain⟨σ',H',I,q⟩:=h;exact⟨σ',H',I.unwish,q⟩
 |ret u=>obtain⟨v,σ',H',I,r,q⟩:=h;exact⟨v,σ',H',I.unwish,r,q⟩
theorem PSs.nox {st:List Stmt} {t:TS} (h:PSs X.nox st t):PSs X st t:=fun pins s σ H D I hw=>
 wpAny_mono (h pins s σ H D (I.wish _) hw) (fun _ _ q=>q.unwish) fun _ _ z=>False.elim z
end
section
variable {X:Cx} {st:Stmt} {rest:List Stmt} {t u:TS} {e:Expr} {te:TE} {pos:Pos}
def zE9:TS:=fun D σ H=>D.nx σ H
def zEA (t u:TS):TS:=fun D σ H=>t {D with nx:=u D} σ H
theorem z0L:PSs X [] zE9:=fun _ _ σ H _ I h=>wpAny_execs_nil ⟨σ,H,I,h⟩
theorem z04 (h1:PS X st t) (h2:PSs X rest u):PSs X (st::rest) (zEA t u):=by
 intro pins s σ H D I h
 refine wpAny_execs_cons (thn (h1 pins s σ H {D with nx:=u D} I h) fun f s1 q=>?_)
 cases f with
 |next=>
  obtain⟨σ',H',I',q⟩:=q
  exact h2 pins s1 σ' H' D I' q
 |ret v=>exact q
 |brk=>exact q
 |cont=>exact q
theorem z05 (h1:PS X st t):PSs X [st] t:=by
 intro pins s σ H D I h
 refine wpAny_execs_cons (thn (h1 pins s σ H D I h) fun f s1 q=>?_)
 cases f with
 |next=>exact wpAny_execs_nil q
 |ret v=>exact q
 |brk=>exact q
 |cont=>exact q
theorem Inv.quiet {pins:List (Addr × Obj)} {σ:St} {H:Hp} {s:Shared} (I:Inv X pins σ H s):interactive X.env=false:=by simp[interactive,I.ok.kind]
def zEB (te:TE):TS:=fun D σ H=>te σ H fun _ H1=>D.nx σ H1
theorem z0e (he:PE X e te) (hs:swapsWith e none pos.line X.env=pure false:=by rfl):PS X (.Expr e pos) (zEB te):=by
 intro pins s σ H D I h
 exact wpAny_Expr_any (thn (he pins s σ H _ I h) fun v s1 ⟨x,H1,I1,r1,q1⟩=>⟨σ,H1,I1,q1⟩) I.quiet hs
def zEo (te:TE):TS:=fun D σ H=>te σ H D.rt
theorem z0I (he:PE X e te):PS X (.Return (some e) pos) (zEo te):=by
 intro pins s σ H D I h
 exact wpAny_Return_some (thn (he pins s σ H _ I h) fun v s1 ⟨x,H1,I1,r1,q1⟩=>⟨x,σ,H1,I1,r1,q1⟩)
def zF3 (c:TT) (t u:TS):TS:=fun D σ H=>c σ H fun b H1=>if b=true then t D σ H1 else u D σ H1
theorem z0R {c:Expr} {a b:List Stmt} {tc:TT} (hc:PT X c tc) (ha:PSs X a t) (hb:PSs X b u):PS X (.If c a b pos) (zF3 tc t u):=by
 intro pins s σ H D I h
 refine wpAny_If (thn (hc pins s σ H _ I h) fun d s1 ⟨H1,I1,q1⟩=>?_)
 cases d with
 |true=>exact ha pins s1 σ H1 D I1 q1
 |false=>exact hb pins s1 σ H1 D I1 q1
end
abbrev TG:=V->St->Hp->(St->Hp->Prop)->Prop
abbrev TGs:=List V->St->Hp->(St->Hp->Prop)->Prop
def PG (X:Cx) (target:Expr) (t:TG):Prop:=
 ∀(pins:List (Addr × Obj)) (s:Shared) (σ:St) (H:Hp) (v:V) (u:Value) (Q:St->Hp->Prop),Inv X pins σ H s->RelV v u->t v σ H Q->
  wpAny (model X.prog X.w) X.A (assign target X.env u) (fun _ s'=>∃σ' H',Inv X pins σ' H' s'/\Q σ' H') X.xe s
def PGs (X:Cx) (ts:List Expr) (t:TGs):Prop:=
 ∀(pins:List (Addr × Obj)) (s:Shared) (σ:St) (H:Hp) (vs:List V) (us:List Value) (Q:St->Hp->Prop),Inv X pins σ H s->Vals vs us->t vs σ H Q->
  wpAny (model X.prog X.w) X.A (assignInOrder ((assignEach ts X.env).map (·.2)) us) (fun _ s'=>∃σ' H',Inv X pins σ' H' s'/\Q σ' H') X.xe s
abbrev zEC:=V->V->V->Hp->(Hp->Prop)->Prop
def zEp (X:Cx) (t:zEC):Prop:=
 ∀(pins:List (Addr × Obj)) (s:Shared) (σ:St) (H:Hp) (o i v:V) (ov iv u:Value) (Q:Hp->Prop),Inv X pins σ H s->RelV o ov->RelV i iv->RelV v u->t o i v H Q->
  wpAny (model X.prog X.w) X.A (setItem ov iv u) (fun _ s'=>∃H',Inv X pins σ H' s'/\Q H') X.xe s
section
variable {X:Cx} {pos:Pos}
def zCJ (i:Nat):TG:=fun v σ H Q=>Q (σ.set i (some v)) H
theorem z0K {i:Nat} {x:Str} (hN:X.N.Nodup) (hi:X.N[i]?=some x) (hx:Loc X.env.scope x) (hf:X.fn x=true\/X.env.scope.names.lookup x=some .local:=by first|exact .inl rfl|exact .inr rfl|assumption):PG X (.Name x pos) (zCJ i):=by
 intro pins s σ H v u Q I r h
 exact wpAny_assign_Name (z53 I hN hi hx r (fun s' I'=>⟨_,H,I',h⟩) hf)
def zF4:TGs:=fun vs σ H Q=>vs=[]/\Q σ H
def zED (t:TG) (u:TGs):TGs:=fun vs σ H Q=>∃v r,vs=v::r/\t v σ H fun σ' H'=>u r σ' H' Q
theorem z2d:PGs X [] zF4:=by
 intro pins s σ H vs us Q I r h
 obtain⟨e,h⟩:=h
 subst e
 cases r
 exact assignInOrder_nil ⟨σ,H,I,h⟩
theorem z0b {e:Expr} {es:List Expr} {t:TG} {u:TGs} (h1:PG X e t) (h2:PGs X es u)
 (hs:(assignEach (e::es) X.env).map (·.2)=assign e X.env::(assignEach es X.env).map (·.2):=by rfl):PGs X (e::es) (zED t u):=by
 intro pins s σ H vs us Q I r h
 obtain⟨v,vr,e1,h⟩:=h
 subst e1
 cases r with
 |cons r rr=>
  rw[hs]
  refine assignInOrder_cons (thn (h1 pins s σ H _ _ _ I r h) fun _ s1 ⟨σ1,H1,I1,q1⟩=>?_)
  exact h2 pins s1 σ1 H1 _ _ Q I1 rr q1
def zEq (K:PySem.W.Frag) (n:Nat) (t:TGs):TG:=fun v σ H Q=>∃a xs,v=.ref a/\SqT K H a xs/\xs.length=n/\t xs σ H Q
theorem z5n {es:List Expr} {k:Nat} {t:TGs} {n:Nat} (hc:X.calm=true) (h:PGs X es t)
 (hn:(assignEach es X.env).length=n:=by rfl) (hst:(assignEach es X.env).findIdx? (·.1)=none:=by rfl):PG X (.Tuple es k pos) (zEq X.K n t):=by
 intro pins s σ H v u Q I r hw
 obtain⟨a,xs,e1,hq,hl,hw⟩:=hw
 subst e1
 cases r
 obtain⟨its,rv,ht,hz⟩:=I.tuple hq
 refine assign_Tuple_tuple (I.ok.hd hc) ht (by simp[hn,<-hl,rv.length]) hst fun h' hx=>?_
 have I1:Inv X pins σ H {s with heap:=h'}:=I.kept (t':=s.toks) fun b o e=>hx b o (Nat.ne_of_lt (Heap.lt_size e)) e
 exact h pins _ σ H xs _ Q I1 (by simpa using rv) hw
def zF5 (to ti:TE) (t:zEC):TG:=fun v σ H Q=>to σ H fun o H1=>ti σ H1 fun i H2=>t o i v H2 fun H3=>Q σ H3
theorem z7h {o i:Expr} {to ti:TE} {t:zEC} (ho:PE X o to) (hi:PE X i ti) (hs:zEp X t)
 (ha:∀v,assign (.Subscript o i pos) X.env v=(do
  let ov<-holding [v] (eval o X.env)
  let iv<-holding [v,ov] (eval i X.env)
  standAt pos
  holding [v,ov,iv] (setItem ov iv v)
  release [v,ov,iv] []):=by intro _;rfl):PG X (.Subscript o i pos) (zF5 to ti t):=by
 intro pins s σ H v u Q I r h
 rw[ha]
 refine wpAny_bind (wpAny_holding (thn (ho pins s σ H _ I h) fun ov s1 ⟨x,H1,I1,r1,q1⟩=>?_))
 refine wpAny_bind (wpAny_holding (thn (hi pins s1 σ H1 _ I1 q1) fun iv s2 ⟨y,H2,I2,r2,q2⟩=>?_))
 refine wpAny_bind (wpAny_standAt (wpAny_bind (wpAny_holding (thn (hs pins s2 σ H2 x y v ov iv u _ I2 r1 r2 r q2) fun _ s3 ⟨H3,I3,q3⟩=>?_))))
 exact wpAny_release ⟨σ,H3,I3,q3⟩
def zEr (te:TE) (g:TG):TS:=fun D σ H=>te σ H fun x H1=>g x σ H1 D.nx
theorem z7i {tg e:Expr} {te:TE} {g:TG} (he:PE X e te) (hg:PG X tg g) (hs:swapsWithSole [tg] e pos.line X.env=pure false:=by rfl) (hw:swappedStores [tg] e X.env=pure none:=by rfl)
 (h1:(assignEach [tg] X.env).map (·.2)=[assign tg X.env]:=by rfl):PS X (.Assign [tg] e pos) (zEr te g):=by
 intro pins s σ H D I h
 refine wpAny_Assign_stores (thn (he pins s σ H _ I h) fun v s1 ⟨x,H1,I1,r1,q1⟩=>?_) hs hw
 rw[h1]
 exact thn (hg pins s1 σ H1 x v _ I1 r1 q1) fun _ s2 q=>q
theorem z0B {i:Nat} {x:Str} {e:Expr} {te:TE} {pos':Pos} (hN:X.N.Nodup) (hi:X.N[i]?=some x) (hx:Loc X.env.scope x) (he:PE X e te) (hs:swapsWith e (some (.Name x pos')) pos.line X.env=pure false:=by rfl) (hf:X.fn x=true\/X.env.scope.names.lookup x=some .local:=by first|exact .inl rfl|exact .inr rfl|assumption):
 PS X (.Assign [.Name x pos'] e pos) (zEr te (zCJ i)):=by
 intro pins s σ H D I h
 refine wpAny_Assign_Name (thn (he pins s σ H _ I h) fun v s1 ⟨y,H1,I1,r1,q1⟩=>?_) hs
 exact z53 I1 hN hi hx r1 (fun s2 I2=>⟨_,H1,I2,q1⟩) hf
end
section
variable {X:Cx} {pos:Pos}
end
structure It where
 go:Nat->Hp->Prop
 yld:Nat->Hp->V->Hp->Prop
 stop:Nat->Hp->Prop
def z93 (X:Cx) (pins:List (Addr × Obj)) (H:Hp) (b:Addr):Prop:=
 H b=none/\b≠X.env.locals/\b∉X.fs/\(b∈X.ex\/X.s₀.heap.objs.size<=b)/\(∀x c,X.env.cells.lookup x=some c->c≠b)/\∀p∈X.pn++pins,p.1≠b
theorem Inv.fpOk {X:Cx} {pins:List (Addr × Obj)} {σ:St} {H H':Hp} {s:Shared} {b:Addr} (I:Inv X pins σ H s) (hb:s.heap.objs.size<=b) (hn:H' b=none):z93 X pins H' b:=by
 refine⟨hn,Nat.ne_of_gt (Nat.lt_of_lt_of_le I.lt hb),I.nofs hb,.inr (Nat.le_trans I.sz hb),fun x c e z=>?_,fun p hp z=>?_⟩
 .obtain⟨v,q⟩:=I.cell x c e
  exact absurd (Nat.lt_of_lt_of_le q.lt (by rw[z];exact hb)) (Nat.lt_irrefl _)
 .exact absurd (Nat.lt_of_lt_of_le (Heap.lt_size (I.pin p hp).1) (by rw[z];exact hb)) (Nat.lt_irrefl _)
structure Turn (P:Program) (w:World) (K:PySem.W.Frag) (tg:Expr) (J:It) (fp:List Addr) (it:Addr) (tn:Nat->Heap->Prop):Prop where
 mem:it∈fp
 obj:∀i h,tn i h->∀b∈fp,∃o,h.get? b=some o/\∀v,o.data≠.cell v
 keep:∀i h h',tn i h->(∀b∈fp,∀o,h.get? b=some o->h'.get? b=some o)->tn i h'
 item:∀(X:Cx),X.prog=P->X.w=w->X.K=K->X.calm=true->∀(i:Nat) (pins:List (Addr × Obj)) (s:Shared) (σ:St) (H:Hp) (E:Value->Shared->Prop),Inv X pins σ H s->(∀b∈fp,z93 X pins H b)->tn i s.heap->J.go i H->
  wpAny (model P w) X.A (pyNext (.ref it)) (fun r s1=>∃u,r=some u/\
   wpAny (model P w) X.A (letOwnedTupleGo tg (.ref it) u) (fun _ s2=>∃x H',Inv X pins σ H' s2/\RelV x u/\J.yld i H x H'/\tn (i+1) s2.heap/\∀b∈fp,H' b=none) E s1) E s
 done:∀(X:Cx),X.prog=P->X.w=w->X.K=K->X.calm=true->∀(i:Nat) (pins:List (Addr × Obj)) (s:Shared) (σ:St) (H:Hp) (E:Value->Shared->Prop),Inv X pins σ H s->(∀b∈fp,z93 X pins H b)->tn i s.heap->J.stop i H->
  wpAny (model P w) X.A (pyNext (.ref it)) (fun r s1=>r=none/\Inv X pins σ H s1) E s
 self:∀(A:Around) (i:Nat) (s:Shared) (Q:Value->Shared->Prop) (E:Value->Shared->Prop),tn i s.heap->Q (.ref it) s->wpAny (model P w) A (pyIter (.ref it)) Q E s
abbrev TI:=St->Hp->(It->Hp->Prop)->Prop
def PIE (X:Cx) (pins:List (Addr × Obj)) (σ:St) (tg:Expr) (R:It->Hp->Prop) (itv:Value) (s2:Shared):Prop:=
 ∃(it:Addr) (fp:List Addr) (tn:Nat->Heap->Prop) (J:It) (H':Hp),itv=.ref it/\Inv X pins σ H' s2/\Turn X.prog X.w X.K tg J fp it tn/\tn 0 s2.heap/\(∀b∈fp,z93 X pins H' b)/\R J H'
def PI (X:Cx) (tg iter:Expr) (wi:TI):Prop:=
 ∀(pins:List (Addr × Obj)) (s:Shared) (σ:St) (H:Hp) (R:It->Hp->Prop),Inv X pins σ H s->wi σ H R->
  wpAny (model X.prog X.w) X.A (eval iter X.env) (fun v s1=>wpAny (model X.prog X.w) X.A (pyIter v) (PIE X pins σ tg R) X.xe s1) X.xe s
theorem z8K {M:Model} {A:Around} {E:Value->Shared->Prop} {s:Shared} {tg:Expr} {it:Addr} {u:Value} {o:Obj} {n:String} {vs:Array Value} {Q:Unit->Shared->Prop} (ho:s.heap.get? it=some o) (hc:o.cls=.type n) (hd:o.data=.fields vs)
 (hn:["enumerate","zip","dict_itemiterator","dict_reverseitemiterator","odict_iterator","itertools.zip_longest","itertools.pairwise"].contains n=false) (hQ:Q () s):wpAny M A (letOwnedTupleGo tg (.ref it) u) Q E s:=by
 unfold letOwnedTupleGo
 cases tg<;>first
  |exact wpAny_pure hQ
  |(cases u<;>first
   |exact wpAny_pure hQ
   |(refine wpAny_bind (wpAny_load ho ?_)
     rw[hc,hd]
     show wpAny M A (if(["enumerate","zip","dict_itemiterator","dict_reverseitemiterator","odict_iterator","itertools.zip_longest","itertools.pairwise"].contains n&&vs[0]?==some (rawInt _))=true then _ else _) Q E s
     rw[if_neg (by intro h;rw[hn,Bool.false_and]at h;cases h)]
     exact wpAny_pure hQ))
def Itl (K:PySem.W.Frag) (a:Addr):It:=
 ⟨fun i H=>∃xs x,SqL K H a xs/\xs[i]?=some x,fun i H x H'=>H'=H/\∀xs,SqL K H a xs->xs[i]?=some x,fun i H=>∃xs,SqL K H a xs/\xs.length<=i⟩
def Itt (K:PySem.W.Frag) (a:Addr):It:=
 ⟨fun i H=>∃xs x,SqT K H a xs/\xs[i]?=some x,fun i H x H'=>H'=H/\∀xs,SqT K H a xs->xs[i]?=some x,fun i H=>∃xs,SqT K H a xs/\xs.length<=i⟩
def Itr (lo:Int) (n:Nat):It:=⟨fun i _=>i<n,fun i H x H'=>H'=H/\x=.int (lo+i),fun i _=>n<=i⟩
theorem z98 {P:Program} {w:World} {K:PySem.W.Frag} {tg:Expr} (a it:Addr):Turn P w K tg (Itl K a) [it] it (fun i h=>h.IsListIter it a i) where
 mem:=by simp
 obj:=fun i h st b hb=>by
  have e:b=it:=by simpa using hb
  subst e
  obtain⟨o,e,c,d⟩:=st
  exact⟨o,e,fun v z=>by rw[d]at z;cases z⟩
 keep:=fun i h h' st k=>st.at fun o e=>k it (by simp) o e
 item:=by
  intro X hP hw hK hc i pins s σ H E I hf st hg
  subst hP hw hK
  obtain⟨xs,x,hq,hx⟩:=hg
  obtain⟨its,rv,p,hz⟩:=I.list hq
  obtain⟨u,hu,ru⟩:=rv.get hx
  obtain⟨f0,f1,f2,f3,f4,f5⟩:=hf it (by simp)
  refine wpAny_pyNext_list_item st p.isList (x:=u) (by simpa using hu) fun h' st' sb=>?_
  have I1:Inv X pins σ H {s with heap:=h'}:=I.turned (t':=s.toks) (fun b o hb e=>(sb.2 b hb).trans e) f0 f1 f3 f4 f5
  obtain⟨o,e,c,d⟩:=id st'
  exact⟨u,rfl,z8K (s:={s with heap:=h'}) e c d (by decide) ⟨x,H,I1,ru,⟨rfl,fun ys hy=>by rw[I.list_inj hy hq];exact hx⟩,st',fun b hb=>(hf b hb).1⟩⟩
 done:=by
  intro X hP hw hK hc i pins s σ H E I hf st hg
  subst hP hw hK
  obtain⟨xs,hq,hx⟩:=hg
  obtain⟨its,rv,p,hz⟩:=I.list hq
  obtain⟨f0,f1,f2,f3,f4,f5⟩:=hf it (by simp)
  have hl:=rv.length
  exact wpAny_pyNext_list_end (I.ok.hd hc) st p.isList (by simp;omega) fun h' eb=>⟨rfl,I.turned (t':=s.toks) (fun b o hb e=>eb b o hb e) f0 f1 f3 f4 f5⟩
 self:=fun _ _ _ _ _ st h=>wpAny_pyIter_listiter st h
theorem z8L {P:Program} {w:World} {K:PySem.W.Frag} {tg:Expr} (a it:Addr):Turn P w K tg (Itt K a) [it] it (fun i h=>h.IsTupleIter it a i) where
 mem:=by simp
 obj:=fun i h st b hb=>by
  have e:b=it:=by simpa using hb
  subst e
  obtain⟨o,e,c,d⟩:=st
  exact⟨o,e,fun v z=>by rw[d]at z;cases z⟩
 keep:=fun i h h' st k=>st.at fun o e=>k it (by simp) o e
 item:=by
  intro X hP hw hK hc i pins s σ H E I hf st hg
  subst hP hw hK
  obtain⟨xs,x,hq,hx⟩:=hg
  obtain⟨its,rv,p,hz⟩:=I.tuple hq
  obtain⟨u,hu,ru⟩:=rv.get hx
  obtain⟨f0,f1,f2,f3,f4,f5⟩:=hf it (by simp)
  refine wpAny_pyNext_tuple_item st (show s.heap.IsTuple a its.toArray from p) (x:=u) (by simpa using hu) fun h' st' sb=>?_
  have I1:Inv X pins σ H {s with heap:=h'}:=I.turned (t':=s.toks) (fun b o hb e=>(sb.2 b hb).trans e) f0 f1 f3 f4 f5
  obtain⟨o,e,c,d⟩:=id st'
  exact⟨u,rfl,z8K (s:={s with heap:=h'}) e c d (by decide) ⟨x,H,I1,ru,⟨rfl,fun ys hy=>by rw[I.tuple_inj hy hq];exact hx⟩,st',fun b hb=>(hf b hb).1⟩⟩
 done:=by
  intro X hP hw hK hc i pins s σ H E I hf st hg
  subst hP hw hK
  obtain⟨xs,hq,hx⟩:=hg
  obtain⟨its,rv,p,hz⟩:=I.tuple hq
  obtain⟨f0,f1,f2,f3,f4,f5⟩:=hf it (by simp)
  have hl:=rv.length
  exact wpAny_pyNext_tuple_end (I.ok.hd hc) st (show s.heap.IsTuple a its.toArray from p) (by simp;omega) fun h' eb=>⟨rfl,I.turned (t':=s.toks) (fun b o hb e=>eb b o hb e) f0 f1 f3 f4 f5⟩
 self:=fun _ _ _ _ _ st h=>wpAny_pyIter_tupleiter st h
theorem z8M {P:Program} {w:World} {K:PySem.W.Frag} {tg:Expr} (it:Addr) (lo:Int) (n:Nat):Turn P w K tg (Itr lo n) [it] it (fun i h=>IsRangeIter h it (lo+(i:Nat)*1) ((n:Int)-(i:Nat)) 1) where
 mem:=by simp
 obj:=fun i h st b hb=>by
  have e:b=it:=by simpa using hb
  subst e
  exact⟨_,st,fun v z=>by
   have z':Data.fields _=Data.cell v:=z
   cases z'⟩
 keep:=fun i h h' st k=>k it (by simp) _ st
 item:=by
  intro X hP hw hK hc i pins s σ H E I hf st hg
  subst hP hw hK
  obtain⟨f0,f1,f2,f3,f4,f5⟩:=hf it (by simp)
  have W:=Walks.range (prog:=X.prog) (w:=X.w) (I.ok.hd hc) it lo 1 n
  refine W.item i s _ _ hg st fun v h' tk hv st' kk=>?_
  obtain⟨t,rfl⟩:=hv
  have I1:Inv X pins σ H {s with heap:=h',toks:=tk}:=I.turned (fun b o hb e=>kk b o (by simpa using hb) e) f0 f1 f3 f4 f5
  refine⟨_,rfl,z8K (s:={s with heap:=h',toks:=tk}) (n:="range_iterator") st' rfl rfl (by decide) ⟨.int (lo+i),H,I1,⟨t,?_⟩,⟨rfl,rfl⟩,st',fun b hb=>(hf b hb).1⟩⟩
  rw[Int.mul_one]
 done:=by
  intro X hP hw hK hc i pins s σ H E I hf st hg
  subst hP hw hK
  obtain⟨f0,f1,f2,f3,f4,f5⟩:=hf it (by simp)
  exact wpAny_pyNext_range_end (I.ok.hd hc) st (by have:n<=i:=hg;omega) fun h' eb=>⟨rfl,I.turned (t':=s.toks) (fun b o hb e=>eb b o hb e) f0 f1 f3 f4 f5⟩
 self:=fun _ _ _ _ _ st h=>wpAny_pyIter_rangeiter st h
section
variable {X:Cx} {tg:Expr}
def zEE (K:PySem.W.Frag) (tl:TE):TI:=fun σ H R=>tl σ H fun x H1=>∃a,x=.ref a/\(∃xs,SqL K H1 a xs)/\R (Itl K a) H1
def zF6 (K:PySem.W.Frag) (tl:TE):TI:=fun σ H R=>tl σ H fun x H1=>∃a,x=.ref a/\(∃xs,SqT K H1 a xs)/\R (Itt K a) H1
theorem z1q {l:Expr} {tl:TE} (hl:PE X l tl):PI X tg l (zEE X.K tl):=by
 intro pins s σ H R I h
 refine thn (hl pins s σ H _ I h) fun v s1 ⟨x,H1,I1,r1,q1⟩=>?_
 obtain⟨a,e,⟨xs,hq⟩,q⟩:=q1
 subst e
 cases r1
 obtain⟨its,rv,p,hz⟩:=I1.list hq
 refine wpAny_pyIter_list p.isList ?_
 refine⟨s1.heap.objs.size,[s1.heap.objs.size],_,_,H1,rfl,I1.kept (t':=s1.toks) fun b o e=>Heap.get?_push_of_some _ e,z98 a _,⟨_,Heap.get?_push_size _ rfl,rfl,rfl⟩,fun b hb=>?_,q⟩
 have e:b=s1.heap.objs.size:=by simpa using hb
 subst e
 exact I1.fpOk (Nat.le_refl _) (I1.hok.fresh (Nat.le_refl _))
theorem zBs {l:Expr} {tl:TE} (hl:PE X l tl):PI X tg l (zF6 X.K tl):=by
 intro pins s σ H R I h
 refine thn (hl pins s σ H _ I h) fun v s1 ⟨x,H1,I1,r1,q1⟩=>?_
 obtain⟨a,e,⟨xs,hq⟩,q⟩:=q1
 subst e
 cases r1
 obtain⟨its,rv,p,hz⟩:=I1.tuple hq
 refine wpAny_pyIter_tuple (show s1.heap.IsTuple a its.toArray from p) ?_
 refine⟨s1.heap.objs.size,[s1.heap.objs.size],_,_,H1,rfl,I1.kept (t':=s1.toks) fun b o e=>Heap.get?_push_of_some _ e,z8L a _,⟨_,Heap.get?_push_size _ rfl,rfl,rfl⟩,fun b hb=>?_,q⟩
 have e:b=s1.heap.objs.size:=by simpa using hb
 subst e
 exact I1.fpOk (Nat.le_refl _) (I1.hok.fresh (Nat.le_refl _))
theorem z7j {pins:List (Addr × Obj)} {σ:St} {H:Hp} {s:Shared} {R:It->Hp->Prop} {E:Value->Shared->Prop} {lo hi:Int} {t u v:Tok} {tk:Nat} (I:Inv X pins σ H s) (h1: -(2^62)<=lo) (h2:lo<2^62) (h3: -(2^62)<=hi) (h4:hi<2^62)
 (q:R (Itr lo (hi-lo).toNat) H):wpAny (model X.prog X.w) X.A (pyIter (.ref s.heap.objs.size)) (PIE X pins σ tg R) E {s with heap:=s.heap.push {cls:=.type "range",data:=.fields #[.int lo t,.int hi u,.int 1 v]},toks:=tk}:=by
 refine wpAny_pyIter_range (IsRange.new ..) (small_one h1 h2 h3 h4) ?_
 have I1:Inv X pins σ H {s with heap:=s.heap.push {cls:=.type "range",data:=.fields #[.int lo t,.int hi u,.int 1 v]},toks:=tk}:=I.kept fun b o e=>Heap.get?_push_of_some _ e
 refine⟨(s.heap.push {cls:=.type "range",data:=.fields #[.int lo t,.int hi u,.int 1 v]}).objs.size,[(s.heap.push {cls:=.type "range",data:=.fields #[.int lo t,.int hi u,.int 1 v]}).objs.size],_,_,H,rfl,
  I1.kept (t':=tk) fun b o e=>Heap.get?_push_of_some _ e,z8M _ lo (hi-lo).toNat,?_,fun b hb=>?_,q⟩
 .have e1:lo+((0:Nat):Int)*1=lo:=by simp
  have e2:(((hi-lo).toNat:Nat):Int)-((0:Nat):Int)=Builtin.Range.rangeSize lo hi 1:=by rw[rangeSize_one];split<;>omega
  show IsRangeIter _ _ (lo+((0:Nat):Int)*1) ((((hi-lo).toNat:Nat):Int)-((0:Nat):Int)) 1
  rw[e1,e2]
  exact Heap.get?_push_size _ rfl
 .have e:b=(s.heap.push {cls:=.type "range",data:=.fields #[.int lo t,.int hi u,.int 1 v]}).objs.size:=by simpa using hb
  subst e
  exact I1.fpOk (Nat.le_refl _) (I1.hok.fresh (Nat.le_refl _))
def zEF (ta:TA):TI:=fun σ H R=>ta σ H fun vs H1=>∃j:Int,vs=[.int j]/\ -(2^62)<=j/\j<2^62/\R (Itr 0 j.toNat) H1
def zEG (ta:TA):TI:=fun σ H R=>ta σ H fun vs H1=>∃i j:Int,vs=[.int i,.int j]/\(-(2^62)<=i/\i<2^62/\ -(2^62)<=j/\j<2^62)/\R (Itr i (j-i).toNat) H1
theorem z0S {a:Expr} {ta:TA} {p pos:Pos} (hg:Gl X "range") (hm:X.mg "range"=none) (ha:PA X [a] ta) (hs:starEach [a] X.env=[(false,eval a X.env)]:=by rfl):PI X tg (.Call (.Name "range" p) [a] [] pos) (zEF ta):=by
 intro pins s σ H R I h
 refine Call_ (z2r I hg hm boot_range (PyProof.Rows.callWith_type1 (thn (ha pos pins s σ H _ I h) fun us s1 ⟨vs,H1,I1,r1,q1⟩=>?_) hs rfl))
 obtain⟨j,e,q1,q2,q⟩:=q1
 subst e
 cases r1 with
 |cons r rr=>
  cases rr
  obtain⟨t,rfl⟩:=r
  exact call_range_1 (z7j I1 (by omega) (by omega) q1 q2 (by simpa using q))
theorem z99 {a b:Expr} {ta:TA} {p pos:Pos} (hg:Gl X "range") (hm:X.mg "range"=none) (ha:PA X [a,b] ta) (hs:starEach [a,b] X.env=[(false,eval a X.env),(false,eval b X.env)]:=by rfl) (hs2:starEach [b] X.env=[(false,eval b X.env)]:=by rfl):
 PI X tg (.Call (.Name "range" p) [a,b] [] pos) (zEG ta):=by
 intro pins s σ H R I h
 refine Call_ (z2r I hg hm boot_range (PyProof.Rows.callWith_type1 (thn (ha pos pins s σ H _ I h) fun us s1 ⟨vs,H1,I1,r1,q1⟩=>?_) (by rw[hs,hs2]) (by rw[hs2];rfl)))
 obtain⟨i,j,e,⟨q1,q2,q3,q4⟩,q⟩:=q1
 subst e
 cases r1 with
 |cons r rr=>
  cases rr with
  |cons r' rr=>
   cases rr
   obtain⟨t,rfl⟩:=r
   obtain⟨t',rfl⟩:=r'
   exact call_range_2 (z7j I1 q1 q2 q3 q4 q)
def zF7 (wi:TI) (g:TG) (tb:TS):TS:=fun D σ H=>wi σ H fun J H1=>∃W:Nat->Nat->St->Hp->Prop,(∃m,W 0 m σ H1)/\∀i m σ H,W i m σ H->
 (J.stop i H/\D.nx σ H)\/(J.go i H/\∃N:St->Hp->Prop,(∀σ' H',N σ' H'->∃m',m'<m/\W (i+1) m' σ' H')/\∀x H',J.yld i H x H'->g x σ H' fun σ2 H2=>tb {D with nx:=N,ct:=N,bk:=D.nx} σ2 H2)
def z5o (fp:List Addr) (h:Heap):List (Addr × Obj):=fp.filterMap fun b=>(h.get? b).map fun o=>(b,o)
theorem z2k {fp:List Addr} {h:Heap} {b:Addr} {o:Obj} (hb:b∈fp) (e:h.get? b=some o):(b,o)∈z5o fp h:=List.mem_filterMap.mpr ⟨b,hb,by rw[e];rfl⟩
theorem z9A {fp:List Addr} {h:Heap} {p:Addr × Obj} (hp:p∈z5o fp h):p.1∈fp/\h.get? p.1=some p.2:=by
 obtain⟨b,hb,e⟩:=List.mem_filterMap.mp hp
 cases q:h.get? b with
 |none=>rw[q]at e;cases e
 |some o=>
  rw[q]at e
  have e':(b,o)=p:=Option.some.inj e
  subst e'
  exact⟨hb,q⟩
theorem Inv.pinned {pins:List (Addr × Obj)} {σ:St} {H:Hp} {s:Shared} {fp:List Addr} (I:Inv X pins σ H s) (hf:∀b∈fp,z93 X pins H b) (ho:∀b∈fp,∃o,s.heap.get? b=some o/\∀v,o.data≠.cell v):Inv X (pins++z5o fp s.heap) σ H s:=
 I.pins_of fun p hp=>(List.mem_append.mp hp).elim (fun z=>I.pin p (List.mem_append_right _ z)) fun z=>by
  obtain⟨hb,e⟩:=z9A z
  obtain⟨f0,f1,f2,_⟩:=hf p.1 hb
  obtain⟨o,e',d⟩:=ho p.1 hb
  rw[e]at e';cases e'
  exact⟨e,f0,f1,f2,d⟩
theorem Inv.unpinned {pins pl:List (Addr × Obj)} {σ:St} {H:Hp} {s:Shared} (I:Inv X (pins++pl) σ H s):Inv X pins σ H s:=I.pins_of fun p hp=>I.pin p (List.mem_append_right _ (List.mem_append_left _ hp))
theorem z1S {iter:Expr} {body:List Stmt} {wi:TI} {g:TG} {tb:TS} {pos:Pos} (hp:PassesOwn (model X.prog X.w) X.A X.env X.xe) (hc:X.calm=true) (hi:PI X tg iter wi) (hg:PG X tg g) (hb:PSs X body tb)
 (hs:∀x,foldedSetIterable iter X.env x=pure x:=by intro _;rfl):PS X (.For tg iter body [] pos) (zF7 wi g tb):=by
 intro pins s σ H D I h
 refine wpAny_For (thn (hi pins s σ H _ I h) fun v s1 h1=>thn h1 fun itv s2 h2=>?_) hs
 obtain⟨it,fp,tn,J,H2,e,I2,T,st2,f2,W,⟨m0,w0⟩,turn⟩:=h2
 subst e
 have stat:∀{H':Hp},(∀b∈fp,H' b=none)->∀b∈fp,z93 X pins H' b:=fun hn b hb=>⟨hn b hb,(f2 b hb).2⟩
 refine codeAny_forLoop_any (fun n s'=>∃i σ' H',Inv X pins σ' H' s'/\tn i s'.heap/\(∀b∈fp,H' b=none)/\W i n σ' H') ?_ m0 ⟨0,σ,H2,I2,st2,fun b hb=>(f2 b hb).1,w0⟩
 rintro n s3 ⟨i,σ3,H3,I3,st3,fr3,w3⟩
 rcases turn i n σ3 H3 w3 with⟨stop,qn⟩|⟨go,N,hN,step⟩
 .refine wpAny_passesOwn hp (thn (T.done X rfl rfl rfl hc i pins s3 σ3 H3 X.xe I3 (stat fr3) st3 stop) fun r s4 ⟨hr,I4⟩=>?_)
  subst hr
  exact wpAny_execs_nil ⟨σ3,H3,I4,qn⟩
 .refine wpAny_passesOwn hp (thn (T.item X rfl rfl rfl hc i pins s3 σ3 H3 X.xe I3 (stat fr3) st3 go) fun r s4 ⟨u,hr,h4⟩=>?_)
  subst hr
  refine wpAny_passesOwn hp (thn h4 fun _ s5 ⟨x,H5,I5,r5,y5,st5,fr5⟩=>?_)
  have I5':=I5.pinned (stat fr5) (T.obj _ _ st5)
  refine wpAny_passesOwn hp (thn (hg _ s5 σ3 H5 x u _ I5' r5 (step x H5 y5)) fun _ s6 ⟨σ6,H6,I6,q6⟩=>?_)
  refine wpAny_passesOwn hp (thn (hb _ s6 σ6 H6 _ I6 q6) fun f s7 q7=>?_)
  have again:∀{σ7:St} {H7:Hp},Inv X (pins++z5o fp s5.heap) σ7 H7 s7->N σ7 H7->∃m,m<n/\∃i σ' H',Inv X pins σ' H' s7/\tn i s7.heap/\(∀b∈fp,H' b=none)/\W i m σ' H':=fun{σ7 H7} I7 n7=>by
   obtain⟨m',hm,w7⟩:=hN σ7 H7 n7
   refine⟨m',hm,i+1,σ7,H7,I7.unpinned,T.keep _ _ _ st5 fun b hb o e=>(I7.pin (b,o) (List.mem_append_right _ (List.mem_append_right _ (z2k hb e)))).1,fun b hb=>?_,w7⟩
   obtain⟨o,e,d⟩:=T.obj _ _ st5 b hb
   exact(I7.pin (b,o) (List.mem_append_right _ (List.mem_append_right _ (z2k hb e)))).2.1
  cases f with
  |next=>obtain⟨σ7,H7,I7,n7⟩:=q7;exact again I7 n7
  |cont=>obtain⟨σ7,H7,I7,n7⟩:=q7;exact again I7 n7
  |brk=>obtain⟨σ7,H7,I7,q7⟩:=q7;exact⟨σ7,H7,I7.unpinned,q7⟩
  |ret v=>obtain⟨x7,σ7,H7,I7,r7,q7⟩:=q7;exact⟨x7,σ7,H7,I7.unpinned,r7,q7⟩
end
theorem z3m {K:PySem.W.Frag} {a:Addr} {xs:List V} {g:TG} {tb:TS} {D:Ends} {σ:St} {H:Hp} (Pv:Nat->St->Hp->Prop) (h0:Pv 0 σ H) (hl:∀i σ H,i<=xs.length->Pv i σ H->SqL K H a xs)
 (hs:∀i x σ H,xs[i]?=some x->Pv i σ H->g x σ H fun σ2 H2=>tb {D with nx:=Pv (i+1),ct:=Pv (i+1),bk:=D.nx} σ2 H2) (hd:∀σ H,Pv xs.length σ H->D.nx σ H):
 ∃W:Nat->Nat->St->Hp->Prop,(∃m,W 0 m σ H)/\∀i m σ H,W i m σ H->
  ((Itl K a).stop i H/\D.nx σ H)\/((Itl K a).go i H/\∃N:St->Hp->Prop,(∀σ' H',N σ' H'->∃m',m'<m/\W (i+1) m' σ' H')/\∀x H',(Itl K a).yld i H x H'->g x σ H' fun σ2 H2=>tb {D with nx:=N,ct:=N,bk:=D.nx} σ2 H2):=by
 refine⟨fun i m σ H=>m=xs.length-i/\i<=xs.length/\Pv i σ H,⟨xs.length,by simp,Nat.zero_le _,h0⟩,?_⟩
 rintro i m σ H ⟨rfl,hi,p⟩
 have q:=hl i σ H hi p
 by_cases hlt:i<xs.length
 .refine .inr ⟨⟨xs,xs[i],q,by simp[hlt]⟩,Pv (i+1),fun σ' H' p'=>⟨xs.length-(i+1),by omega,rfl,hlt,p'⟩,fun x H' y=>?_⟩
  obtain⟨e,y⟩:=y
  subst e
  exact hs i x σ _ (y xs q) p
 .have e:i=xs.length:=by omega
  subst e
  exact .inl ⟨⟨xs,q,Nat.le_refl _⟩,hd σ H p⟩
theorem z0v {lo:Int} {n:Nat} {g:TG} {tb:TS} {D:Ends} {σ:St} {H:Hp} (Pv:Nat->St->Hp->Prop) (h0:Pv 0 σ H)
 (hs:∀i σ H,i<n->Pv i σ H->g (.int (lo+i)) σ H fun σ2 H2=>tb {D with nx:=Pv (i+1),ct:=Pv (i+1),bk:=D.nx} σ2 H2) (hd:∀σ H,Pv n σ H->D.nx σ H):
 ∃W:Nat->Nat->St->Hp->Prop,(∃m,W 0 m σ H)/\∀i m σ H,W i m σ H->
  ((Itr lo n).stop i H/\D.nx σ H)\/((Itr lo n).go i H/\∃N:St->Hp->Prop,(∀σ' H',N σ' H'->∃m',m'<m/\W (i+1) m' σ' H')/\∀x H',(Itr lo n).yld i H x H'->g x σ H' fun σ2 H2=>tb {D with nx:=N,ct:=N,bk:=D.nx} σ2 H2):=by
 refine⟨fun i m σ H=>m=n-i/\i<=n/\Pv i σ H,⟨n,by simp,Nat.zero_le _,h0⟩,?_⟩
 rintro i m σ H ⟨rfl,hi,p⟩
 by_cases hlt:i<n
 .refine .inr ⟨hlt,Pv (i+1),fun σ' H' p'=>⟨n-(i+1),by omega,rfl,hlt,p'⟩,fun x H' y=>?_⟩
  obtain⟨e,y⟩:=y
  subst e y
  exact hs i σ _ hlt p
 .have e:i=n:=by omega
  subst e
  exact .inl ⟨Nat.le_refl _,hd σ H p⟩
abbrev R2:=V->V->Hp->VK->Prop
def OpR (X:Cx) (f:Value->Value->Sem Value) (r:R2):Prop:=
 ∀(pins:List (Addr × Obj)) (s:Shared) (σ:St) (H:Hp) (x y:V) (v u:Value) (Q:VK),Inv X pins σ H s->RelV x v->RelV y u->r x y H Q->
  wpAny (model X.prog X.w) X.A (f v u) (EP X pins σ Q) X.xe s
def UnR (X:Cx) (f:Value->Sem Value) (r:V->Hp->VK->Prop):Prop:=
 ∀(pins:List (Addr × Obj)) (s:Shared) (σ:St) (H:Hp) (x:V) (v:Value) (Q:VK),Inv X pins σ H s->RelV x v->r x H Q->
  wpAny (model X.prog X.w) X.A (f v) (EP X pins σ Q) X.xe s
def z2a (X:Cx) (f:Value) (r:List V->Hp->VK->Prop):Prop:=
 ∀(pins:List (Addr × Obj)) (s:Shared) (σ:St) (H:Hp) (xs:List V) (us:List Value) (Q:VK),Inv X pins σ H s->Vals xs us->r xs H Q->
  wpAny (model X.prog X.w) X.A (call f us) (EP X pins σ Q) X.xe s
def tOp (r:R2) (ta tb:TE):TE:=fun σ H Q=>ta σ H fun x H1=>tb σ H1 fun y H2=>r x y H2 Q
def tUn (r:V->Hp->VK->Prop) (ta:TE):TE:=fun σ H Q=>ta σ H fun x H1=>r x H1 Q
def rI (C:Int->Int->Prop) (g:Int->Int->V):R2:=fun x y H Q=>∃i j,x=.int i/\y=.int j/\C i j/\Q (g i j) H
def rI0 (g:Int->Int->V):R2:=fun x y H Q=>∃i j,x=.int i/\y=.int j/\Q (g i j) H
def rU (g:Int->V):V->Hp->VK->Prop:=fun x H Q=>∃i,x=.int i/\Q (g i) H
section
variable {X:Cx} {a b c:Expr} {ta tb tc:TE} {pos:Pos}
theorem zEH (ha:PE X a ta) (hb:PE X b tb) {pins:List (Addr × Obj)} {s:Shared} {σ:St} {H:Hp} {R:V->V->Hp->Prop} (I:Inv X pins σ H s)
 (h:ta σ H fun x H1=>tb σ H1 fun y H2=>R x y H2) {Q:Value->Shared->Prop} {f:Value->Value->Sem Value}
 (hf:∀v u s2 x y H2,Inv X pins σ H2 s2->RelV x v->RelV y u->R x y H2->wpAny (model X.prog X.w) X.A (f v u) Q X.xe s2):
 wpAny (model X.prog X.w) X.A (eval a X.env) (fun v s₁=>wpAny (model X.prog X.w) X.A (eval b X.env) (fun u s₂=>wpAny (model X.prog X.w) X.A (f v u) Q X.xe s₂) X.xe s₁) X.xe s:=by
 refine thn (ha pins s σ H _ I h) fun v s1 ⟨x,H1,I1,r1,q1⟩=>?_
 refine thn (hb pins s1 σ H1 _ I1 q1) fun u s2 ⟨y,H2,I2,r2,q2⟩=>?_
 exact hf v u s2 x y H2 I2 r1 r2 q2
theorem z08 {op:Operator} {r:R2} (ho:OpR X (binaryOp op) r) (ha:PE X a ta) (hb:PE X b tb):PE X (.BinOp a op b pos) (tOp r ta tb):=by
 intro pins s σ H Q I h
 exact wpAny_BinOp (zEH ha hb I h fun v u s2 x y H2 I2 rx ry q=>ho pins s2 σ H2 x y v u Q I2 rx ry q)
theorem z2x {op:UnaryOp} {r:V->Hp->VK->Prop} (ho:UnR X (unaryOp op) r) (ha:PE X a ta):PE X (.UnaryOp op a pos) (tUn r ta):=by
 intro pins s σ H Q I h
 exact UnaryOp_ (thn (ha pins s σ H _ I h) fun v s1 ⟨x,H1,I1,r1,q1⟩=>ho pins s1 σ H1 x v Q I1 r1 q1)
theorem opI {f:Value->Value->Sem Value} {C:Int->Int->Prop} {g:Int->Int->Int}
 (rule:∀(i j:Int) (t u:Tok) (s:Shared) (Q:Value->Shared->Prop) (E:Value->Shared->Prop),C i j->Q (.int (g i j) s.toks) {s with toks:=s.toks+1}->wpAny (model X.prog X.w) X.A (f (.int i t) (.int j u)) Q E s):
 OpR X f (rI C fun i j=>.int (g i j)):=by
 intro pins s σ H x y v u Q I rx ry h
 obtain⟨i,j,rfl,rfl,hc,q⟩:=h
 obtain⟨t,rfl⟩:=rx
 obtain⟨t',rfl⟩:=ry
 exact rule i j t t' s _ _ hc ⟨.int (g i j),H,I.tok _,⟨_,rfl⟩,q⟩
theorem zE1 {f:Value->Value->Sem Value} {g:Int->Int->Int}
 (rule:∀(i j:Int) (t u:Tok) (s:Shared) (Q:Value->Shared->Prop) (E:Value->Shared->Prop),Q (.int (g i j) s.toks) {s with toks:=s.toks+1}->wpAny (model X.prog X.w) X.A (f (.int i t) (.int j u)) Q E s):
 OpR X f (rI0 fun i j=>.int (g i j)):=by
 intro pins s σ H x y v u Q I rx ry h
 obtain⟨i,j,rfl,rfl,q⟩:=h
 obtain⟨t,rfl⟩:=rx
 obtain⟨t',rfl⟩:=ry
 exact rule i j t t' s _ _ ⟨.int (g i j),H,I.tok _,⟨_,rfl⟩,q⟩
theorem zE2 {f:Value->Value->Sem Value} {g:Int->Int->Bool}
 (rule:∀(i j:Int) (t u:Tok) (s:Shared) (Q:Value->Shared->Prop) (E:Value->Shared->Prop),Q (.bool (g i j)) s->wpAny (model X.prog X.w) X.A (f (.int i t) (.int j u)) Q E s):
 OpR X f (rI0 fun i j=>.bl (g i j)):=by
 intro pins s σ H x y v u Q I rx ry h
 obtain⟨i,j,rfl,rfl,q⟩:=h
 obtain⟨t,rfl⟩:=rx
 obtain⟨t',rfl⟩:=ry
 exact rule i j t t' s _ _ ⟨.bl (g i j),H,I,rfl,q⟩
def zF8 (i j:Int):Prop:=0<j/\j<1073741824
def zEI (i j:Int):Prop:=0<=j/\j<=1000000/\i.natAbs<2^64
def CMul (i j:Int):Prop:=(-(2^64)<i/\i<2^64)\/(-(2^64)<j/\j<2^64)
theorem CMul.ok {i j:Int} (h:CMul i j):IntMulOk i j:=by
 rcases h with⟨h1,h2⟩|⟨h1,h2⟩
 .exact .of_left (intBits_le_64 h1 h2)
 .exact .of_right (intBits_le_64 h1 h2)
theorem z8N (k:Nat):(0:Int)<=2^k:=by
 rw[two_pow_cast]
 exact Int.natCast_nonneg _
theorem z0P:OpR X (binaryOp .Add) (rI0 fun i j=>.int (i+j)):=zE1 fun _ _ _ _ _ _ _ q=>add_int q
theorem z1g:OpR X (binaryOp .Sub) (rI0 fun i j=>.int (i-j)):=zE1 fun _ _ _ _ _ _ _ q=>sub_int q
theorem z0s:OpR X (binaryOp .Mult) (rI CMul fun i j=>.int (i*j)):=opI fun _ _ _ _ _ _ _ hc q=>mul_int q hc.ok
theorem z0f:OpR X (binaryOp .FloorDiv) (rI zF8 fun i j=>.int (i/j)):=opI fun i j _ _ _ _ _ hc q=>by
 have h1:(0:Int)<j:=hc.1
 have h2:j<1073741824:=hc.2
 exact floordiv_int (by omega) (by rw[Int.fdiv_eq_ediv_of_nonneg i (by omega)];exact q) (.inl (PyProof.noPylong_small (by omega)))
theorem z0g:OpR X (binaryOp .Mod) (rI (fun _ j=>0<j) fun i j=>.int (i%j)):=opI fun i j _ _ _ _ _ hc q=>by
 have h1:(0:Int)<j:=hc
 exact mod_int' (by omega) (by rw[Int.fmod_eq_emod_of_nonneg i (by omega)];exact q)
theorem z2E:OpR X (binaryOp .Pow) (rI zEI fun i j=>.int (i^j.toNat)):=opI fun _ _ _ _ _ _ _ hc q=>pow_int_small hc.1 hc.2.1 hc.2.2 q
theorem z7k:OpR X (binaryOp .LShift) (rI zEI fun i j=>.int (i*2^j.toNat)):=opI fun _ _ _ _ _ _ _ hc q=>lshift_int_small hc.1 hc.2.1 hc.2.2 q
theorem z9B:OpR X (binaryOp .RShift) (rI (fun _ j=>0<=j) fun i j=>.int (i/2^j.toNat)):=opI fun i j _ _ _ _ _ hc q=>
 rshift_int hc (by rw[Int.fdiv_eq_ediv_of_nonneg i (z8N _)];exact q)
theorem z7l:OpR X (binaryOp .BitAnd) (rI0 fun i j=>.int (Builtin.bitAnd i j)):=zE1 fun _ _ _ _ _ _ _ q=>and_int q
theorem z9C:OpR X (binaryOp .BitOr) (rI0 fun i j=>.int (Builtin.bitOr i j)):=zE1 fun _ _ _ _ _ _ _ q=>or_int q
theorem unI {f:Value->Sem Value} {g:Int->Int}
 (rule:∀(i:Int) (t:Tok) (s:Shared) (Q:Value->Shared->Prop) (E:Value->Shared->Prop),Q (.int (g i) s.toks) {s with toks:=s.toks+1}->wpAny (model X.prog X.w) X.A (f (.int i t)) Q E s):
 UnR X f (rU fun i=>.int (g i)):=by
 intro pins s σ H x v Q I rx h
 obtain⟨i,rfl,q⟩:=h
 obtain⟨t,rfl⟩:=rx
 exact rule i t s _ _ ⟨.int (g i),H,I.tok _,⟨_,rfl⟩,q⟩
theorem z2F:UnR X (unaryOp .USub) (rU fun i=>.int (-i)):=unI fun _ _ _ _ _ q=>neg_int q
theorem zBt:UnR X (unaryOp .Invert) (rU fun i=>.int (Builtin.bitNot i)):=unI fun _ _ _ _ _ q=>invert_int q
end
noncomputable def zDH:V->V->Bool
 |.non,.non=>true|.non,.int _=>true|.int _,.non=>true|.non,.bl _=>true|.bl _,.non=>true|.non,.str _=>true|.str _,.non=>true
 |.int _,.int _=>true|.bl _,.bl _=>true|.str _,.str _=>true|.byt _,.byt _=>true
 |.int _,.str _=>true|.str _,.int _=>true|.bl _,.str _=>true|.str _,.bl _=>true
 |_,_=>false
def rEq:R2:=fun x y H Q=>zDH x y=true/\Q (.bl (decide (x=y))) H
def rNe:R2:=fun x y H Q=>zDH x y=true/\Q (.bl (!decide (x=y))) H
theorem z9D {i j:Int}:decide (V.int i=V.int j)=(i==j):=by
 rw[Bool.eq_iff_iff]
 simp
theorem zBu {i j:Bool}:decide (V.bl i=V.bl j)=(i==j):=by
 rw[Bool.eq_iff_iff]
 simp
theorem z9E {i j:Str}:decide (V.str i=V.str j)=(i==j):=by
 rw[Bool.eq_iff_iff]
 simp
theorem z9F {i j:Array UInt8}:decide (V.byt i=V.byt j)=(i.toList==j.toList):=by
 rw[Bool.eq_iff_iff]
 cases i
 cases j
 simp
section
variable {X:Cx} {a b c:Expr} {ta tb tc:TE} {pos:Pos}
theorem z0Z {pins:List (Addr × Obj)} {σ:St} {H:Hp} {s:Shared} {Q:VK} {k k':Bool} (I:Inv X pins σ H s) (q:Q (.bl k) H) (e:k=k'):EP X pins σ Q (.bool k') s:=by
 subst e
 exact⟨.bl k,H,I,rfl,q⟩
theorem z36:OpR X (compareOp .Eq) rEq:=by
 intro pins s σ H x y v u Q I rx ry h
 obtain⟨hs,q⟩:=h
 cases x with
 |non=>
  cases rx
  cases y with
  |non=>cases ry;exact PySem.EqNone.eq_none_none (z0Z I q (by simp))
  |bl j=>cases ry;exact PySem.EqNone.eq_none_bool (z0Z I q (by simp))
  |int j=>obtain⟨t',rfl⟩:=ry;exact PySem.EqNone.eq_none_int (z0Z I q (by simp))
  |str j=>obtain⟨t',rfl⟩:=ry;exact PySem.EqNone.eq_none_str (z0Z I q (by simp))
  |_=>exact absurd (show false=true from hs) Bool.false_ne_true
 |bl i=>
  cases rx
  cases y with
  |non=>cases ry;exact PySem.EqNone.eq_bool_none (z0Z I q (by simp))
  |bl j=>cases ry;exact eq_bool (z0Z I q zBu)
  |str j=>obtain⟨t',rfl⟩:=ry;exact PySem.EqMixed.eq_bool_str (z0Z I q (by simp))
  |_=>exact absurd (show false=true from hs) Bool.false_ne_true
 |int i=>
  obtain⟨t,rfl⟩:=rx
  cases y with
  |non=>cases ry;exact PySem.EqNone.eq_int_none (z0Z I q (by simp))
  |int j=>obtain⟨t',rfl⟩:=ry;exact eq_int (z0Z I q z9D)
  |str j=>obtain⟨t',rfl⟩:=ry;exact PySem.EqMixed.eq_int_str (z0Z I q (by simp))
  |_=>exact absurd (show false=true from hs) Bool.false_ne_true
 |str i=>
  obtain⟨t,rfl⟩:=rx
  cases y with
  |non=>cases ry;exact PySem.EqNone.eq_str_none (z0Z I q (by simp))
  |bl j=>cases ry;exact PySem.EqMixed.eq_str_bool (z0Z I q (by simp))
  |int j=>obtain⟨t',rfl⟩:=ry;exact PySem.EqMixed.eq_str_int (z0Z I q (by simp))
  |str j=>obtain⟨t',rfl⟩:=ry;exact eq_str (z0Z I q z9E)
  |_=>exact absurd (show false=true from hs) Bool.false_ne_true
 |byt i=>
  obtain⟨t,rfl⟩:=rx
  cases y with
  |byt j=>obtain⟨t',rfl⟩:=ry;exact PySem.W.eq_bytes (z0Z I q z9F)
  |_=>exact absurd (show false=true from hs) Bool.false_ne_true
 |_=>cases y<;>exact absurd (show false=true from hs) Bool.false_ne_true
theorem z41:OpR X (compareOp .NotEq) rNe:=by
 intro pins s σ H x y v u Q I rx ry h
 obtain⟨hs,q⟩:=h
 cases x with
 |non=>
  cases rx
  cases y with
  |non=>cases ry;exact PySem.EqNone.ne_none_none (z0Z I q (by simp))
  |bl j=>cases ry;exact PySem.EqNone.ne_none_bool (z0Z I q (by simp))
  |int j=>obtain⟨t',rfl⟩:=ry;exact PySem.EqNone.ne_none_int (z0Z I q (by simp))
  |str j=>obtain⟨t',rfl⟩:=ry;exact PySem.EqNone.ne_none_str (z0Z I q (by simp))
  |_=>exact absurd (show false=true from hs) Bool.false_ne_true
 |bl i=>
  cases rx
  cases y with
  |non=>cases ry;exact PySem.EqNone.ne_bool_none (z0Z I q (by simp))
  |bl j=>cases ry;exact ne_bool (z0Z I q (congrArg not zBu))
  |str j=>obtain⟨t',rfl⟩:=ry;exact PySem.EqMixed.ne_bool_str (z0Z I q (by simp))
  |_=>exact absurd (show false=true from hs) Bool.false_ne_true
 |int i=>
  obtain⟨t,rfl⟩:=rx
  cases y with
  |non=>cases ry;exact PySem.EqNone.ne_int_none (z0Z I q (by simp))
  |int j=>obtain⟨t',rfl⟩:=ry;exact ne_int (z0Z I q (congrArg not z9D))
  |str j=>obtain⟨t',rfl⟩:=ry;exact PySem.EqMixed.ne_int_str (z0Z I q (by simp))
  |_=>exact absurd (show false=true from hs) Bool.false_ne_true
 |str i=>
  obtain⟨t,rfl⟩:=rx
  cases y with
  |non=>cases ry;exact PySem.EqNone.ne_str_none (z0Z I q (by simp))
  |bl j=>cases ry;exact PySem.EqMixed.ne_str_bool (z0Z I q (by simp))
  |int j=>obtain⟨t',rfl⟩:=ry;exact PySem.EqMixed.ne_str_int (z0Z I q (by simp))
  |str j=>obtain⟨t',rfl⟩:=ry;exact ne_str (z0Z I q (congrArg not z9E))
  |_=>exact absurd (show false=true from hs) Bool.false_ne_true
 |byt i=>
  obtain⟨t,rfl⟩:=rx
  cases y with
  |byt j=>obtain⟨t',rfl⟩:=ry;exact PySem.W.ne_bytes (z0Z I q (congrArg not z9F))
  |_=>exact absurd (show false=true from hs) Bool.false_ne_true
 |_=>cases y<;>exact absurd (show false=true from hs) Bool.false_ne_true
theorem z37:OpR X (compareOp .Lt) (rI0 fun i j=>.bl (decide (i<j))):=zE2 fun _ _ _ _ _ _ _ q=>lt_int q
theorem z55:OpR X (compareOp .LtE) (rI0 fun i j=>.bl (decide (i<=j))):=zE2 fun _ _ _ _ _ _ _ q=>le_int q
theorem z6n:OpR X (compareOp .Gt) (rI0 fun i j=>.bl (decide (j<i))):=zE2 fun _ _ _ _ _ _ _ q=>gt_int q
theorem z8O:OpR X (compareOp .GtE) (rI0 fun i j=>.bl (decide (j<=i))):=zE2 fun _ _ _ _ _ _ _ q=>ge_int q
theorem z6o:OpR X (compareOp .IsNot) (fun x y H Q=>y=.non/\Q (.bl (!decide (x=.non))) H):=by
 intro pins s σ H x y v u Q I rx ry h
 obtain⟨rfl,q⟩:=h
 cases ry
 refine isnot_none_gen (z0Z I q ?_)
 cases x<;>first
  |(cases rx;rfl)
  |(obtain⟨t,rfl⟩:=rx;rfl)
theorem z0O (b:Expr) {op:CmpOp} (h:op≠.In:=by decide) (h2:op≠.NotIn:=by decide):behindInMarks op b=false:=by
 have e1:(op==CmpOp.In)=false:=by cases op<;>first|rfl|exact absurd rfl h
 have e2:(op==CmpOp.NotIn)=false:=by cases op<;>first|rfl|exact absurd rfl h2
 cases b<;>simp[behindInMarks,e1,e2]
theorem z1y {op:CmpOp} {r:R2} (ho:OpR X (compareOp op) r) (ha:PE X a ta) (hb:PE X b tb) (hm:behindInMarks op b=false):PE X (.Compare a [op] [b] pos) (tOp r ta tb):=by
 intro pins s σ H Q I h
 exact wpAny_Compare1 (zEH ha hb I h fun v u s2 x y H2 I2 rx ry q=>ho pins s2 σ H2 x y v u Q I2 rx ry q) hm
def zDI (t:TE):TT:=fun σ H Q=>t σ H fun x H'=>∃k,x=.bl k/\Q k H'
theorem z0N {op:CmpOp} {r:R2} (ho:OpR X (compareOp op) r) (ha:PE X a ta) (hb:PE X b tb) (hm:behindInMarks op b=false):PT X (.Compare a [op] [b] pos) (zDI (tOp r ta tb)):=by
 intro pins s σ H Q I h
 refine wpAny_isTrue_Compare1 (thn (ha pins s σ H _ I h) fun v s1 ⟨x,H1,I1,r1,q1⟩=>thn (hb pins s1 σ H1 _ I1 q1) fun u s2 ⟨y,H2,I2,r2,q2⟩=>
  thn (ho pins s2 σ H2 x y v u _ I2 r1 r2 q2) fun c s3 ⟨z,H3,I3,r3,k,e,q3⟩=>?_) hm
 subst e
 cases r3
 exact wpAny_truthy_bool ⟨H3,I3,q3⟩
def zBv (r r':R2) (ta tb tc:TE):TE:=fun σ H Q=>ta σ H fun x H1=>tb σ H1 fun y H2=>r x y H2 fun z H3=>∃k,z=.bl k/\
 (if k=true then tc σ H3 fun w' H4=>r' y w' H4 Q else Q (.bl false) H3)
theorem z7m {op op':CmpOp} {r r':R2} (ho:OpR X (compareOp op) r) (ho':OpR X (compareOp op') r') (ha:PE X a ta) (hb:PE X b tb) (hc:PE X c tc)
 (hm:lastMarks [op,op'] [b,c]=false:=by with_unfolding_all rfl):PE X (.Compare a [op,op'] [b,c] pos) (zBv r r' ta tb tc):=by
 intro pins s σ H Q I h
 refine Compare_chain (thn (ha pins s σ H _ I h) fun v s1 ⟨x,H1,I1,r1,q1⟩=>chain_link (thn (hb pins s1 σ H1 _ I1 q1) fun u s2 ⟨y,H2,I2,r2,q2⟩=>
  thn (ho pins s2 σ H2 x y v u _ I2 r1 r2 q2) fun d s3 ⟨z,H3,I3,r3,k,e,q3⟩=>?_)) hm
 subst e
 cases r3
 refine wpAny_truthy_bool ?_
 cases k with
 |false=>exact ite_ff ⟨.bl false,H3,I3,rfl,q3⟩
 |true=>exact ite_tt (chain_last (thn (hc pins s3 σ H3 _ I3 q3) fun w' s4 ⟨z',H4,I4,r4,q4⟩=>ho' pins s4 σ H4 y z' u w' Q I4 r2 r4 q4))
theorem z2l {op op':CmpOp} {r r':R2} (ho:OpR X (compareOp op) r) (ho':OpR X (compareOp op') r') (ha:PE X a ta) (hb:PE X b tb) (hc:PE X c tc)
 (hm:lastMarks [op,op'] [b,c]=false:=by with_unfolding_all rfl):PT X (.Compare a [op,op'] [b,c] pos) (zDI (zBv r r' ta tb tc)):=by
 intro pins s σ H Q I h
 refine isTrue_chain (thn (ha pins s σ H _ I h) fun v s1 ⟨x,H1,I1,r1,q1⟩=>test_link (thn (hb pins s1 σ H1 _ I1 q1) fun u s2 ⟨y,H2,I2,r2,q2⟩=>
  thn (ho pins s2 σ H2 x y v u _ I2 r1 r2 q2) fun d s3 ⟨z,H3,I3,r3,k,e,q3⟩=>?_)) hm
 subst e
 cases r3
 refine wpAny_truthy_bool ?_
 cases k with
 |false=>
  obtain⟨k',e',q'⟩:=q3
  cases e'
  exact ite_ff ⟨H3,I3,q'⟩
 |true=>
  refine ite_tt (test_last (thn (hc pins s3 σ H3 _ I3 q3) fun w' s4 ⟨z',H4,I4,r4,q4⟩=>thn (ho' pins s4 σ H4 y z' u w' _ I4 r2 r4 q4) fun d' s5 ⟨z2,H5,I5,r5,k2,e2,q5⟩=>?_))
  subst e2
  cases r5
  exact wpAny_truthy_bool ⟨H5,I5,q5⟩
theorem z4i:(sizeLine:Nat)<2^63:=by rw[sizeLine_eq];decide
theorem z2G:OpR X (binaryOp .Add) (fun x y H Q=>∃i j,x=.str i/\y=.str j/\i.length+j.length<=sizeLine/\Q (.str (i++j)) H):=by
 intro pins s σ H x y v u Q I rx ry h
 obtain⟨i,j,rfl,rfl,hz,q⟩:=h
 obtain⟨t,rfl⟩:=rx
 obtain⟨t',rfl⟩:=ry
 exact add_str (fun t' tk=>⟨.str (i++j),H,I.tok _,⟨_,rfl⟩,q⟩) hz
theorem vals1 {x:V} {us:List Value} (r:Vals [x] us):∃u,us=[u]/\RelV x u:=by
 cases r with
 |cons r1 r2=>cases r2;exact⟨_,rfl,r1⟩
theorem vals2 {x y:V} {us:List Value} (r:Vals [x,y] us):∃u w',us=[u,w']/\RelV x u/\RelV y w':=by
 cases r with
 |cons r1 r2=>
  cases r2 with
  |cons r3 r4=>cases r4;exact⟨_,_,rfl,r1,r3⟩
theorem z3n:z2a X (.builtin "abs") (fun xs H Q=>∃i,xs=[.int i]/\Q (.int (if i<0 then-i else i)) H):=by
 intro pins s σ H xs us Q I r h
 obtain⟨i,rfl,q⟩:=h
 obtain⟨u,rfl,t,rfl⟩:=vals1 r
 exact call_abs_int fun u tk=>⟨.int (if i<0 then-i else i),H,I.tok _,⟨_,rfl⟩,q⟩
theorem z2H (hc:X.calm=true):z2a X (.builtin "max") (fun xs H Q=>∃i j,xs=[.int i,.int j]/\Q (.int (if j>i then j else i)) H):=by
 intro pins s σ H xs us Q I r h
 obtain⟨i,j,rfl,q⟩:=h
 obtain⟨u,w',rfl,⟨t,rfl⟩,⟨t',rfl⟩⟩:=vals2 r
 refine max_two_ints (I.ok.hd hc) fun h' tk k=>⟨_,H,I.kept k,?_,q⟩
 by_cases hj:j>i
 .rw[if_pos hj,if_pos hj];exact⟨_,rfl⟩
 .rw[if_neg hj,if_neg hj];exact⟨_,rfl⟩
theorem z42 (hc:X.calm=true):z2a X (.builtin "min") (fun xs H Q=>∃i j,xs=[.int i,.int j]/\Q (.int (if j<i then j else i)) H):=by
 intro pins s σ H xs us Q I r h
 obtain⟨i,j,rfl,q⟩:=h
 obtain⟨u,w',rfl,⟨t,rfl⟩,⟨t',rfl⟩⟩:=vals2 r
 refine min_two_ints (I.ok.hd hc) fun h' tk k=>⟨_,H,I.kept k,?_,q⟩
 by_cases hj:j<i
 .rw[if_pos hj,if_pos hj];exact⟨_,rfl⟩
 .rw[if_neg hj,if_neg hj];exact⟨_,rfl⟩
theorem z7n:z2a X (.builtin "ord") (fun xs H Q=>∃x,xs=[.str x]/\x.length=1/\Q (.int (x.cps.getD 0 0:Nat)) H):=by
 intro pins s σ H xs us Q I r h
 obtain⟨x,rfl,hz,q⟩:=h
 obtain⟨u,rfl,t,rfl⟩:=vals1 r
 exact ord_of_one hz ⟨.int _,H,I.tok _,⟨_,rfl⟩,q⟩
end
structure ObjM (h:Heap) (x dx C:Addr) (mA:Str->Option Value):Prop where
 obj:h.get? x=some (PySem.W.instObj C dx)
 ns:h.Ns1 dx mA
 ne:dx≠x
theorem z9G {h:Heap} {dx:Addr} {mA:Str->Option Value} (n:h.Ns1 dx mA):∃od,h.get? dx=some od/\∀name,PySem.W.lookIn name od=some (mA name):=by
 obtain⟨o,es,ep,ho,hd,hk,_,hm⟩:=n
 refine⟨o,ho,fun name=>?_⟩
 have e:=hm name
 unfold nsFind findBy at e
 rw[<-Array.find?_toList]at e
 unfold PySem.W.lookIn
 rw[hd]
 dsimp only
 split
 .rename_i y q
  rw[q]at e
  exact congrArg some e
 .rename_i q
  rw[q]at e
  have a:es.toList.any (·.refKey)=false:=by
   rw[List.any_eq_false]
   intro y hy
   obtain⟨z,t,hkey⟩:=hk y (Array.mem_toList_iff.mp hy)
   simp[DictEntry.refKey,hkey]
  have a':¬es.toList.any (·.refKey)=true:=by rw[a];exact Bool.false_ne_true
  rw[if_neg a']
  exact congrArg some e
theorem ObjM.look {h:Heap} {x dx C:Addr} {mA:Str->Option Value} (I:ObjM h x dx C mA):∃od,PySem.W.InstAt h x (PySem.W.instObj C dx) C (some od)/\∀name,PySem.W.lookIn name od=some (mA name):=
 let ⟨od,ho,hl⟩:=z9G I.ns
 ⟨od,⟨I.obj,rfl,rfl,ho⟩,hl⟩
section
variable {prog:Program} {w:World} {A:Around} {E:Value->Shared->Prop} {s:Shared} {K:PySem.W.Frag} {x dx C f:Addr} {mA:Str->Option Value} {name:Str} {v:Value}
theorem zCK {expr:Bool} {Q:Value->Shared->Prop} (X:K.In s.heap) (I:ObjM s.heap x dx C mA) (hg:PySem.W.plainGet K C name=true) (hh:PySem.W.hasDictIn K C=true)
 (ha:PySem.W.findIn K (.ref C) name=some none) (hv:mA name=some v) (hv':PySem.W.handedIn v=true) (h:Q v {s with toks:=s.toks+1}):
 wpAny (model prog w) A (getAttr (.ref x) name expr) Q E s:=by
 obtain⟨od,J,hl⟩:=I.look
 exact PySem.W.get_value X J (PySem.W.plainGet_of hg).1 (PySem.W.findObj_own hh ha rfl (by rw[hl,hv])) hv' h
theorem zB0 {pl:Sem Bool} {Q:Value × List Value->Shared->Prop} (X:K.In s.heap) (I:ObjM s.heap x dx C mA) (hg:PySem.W.plainGet K C name=true)
 (hf:PySem.W.findIn K (.ref C) name=some (some (.ref f))) (ht:PySem.W.isFn K (.ref f)=true) (hv:mA name=none) (h:Q (.ref f,[.ref x]) s):
 wpAny (model prog w) A (getMethod (.ref x) name pl) Q E s:=by
 obtain⟨od,J,hl⟩:=I.look
 exact PySem.W.method_fn X J (PySem.W.plainGet_of hg).1 (PySem.W.plainGet_of hg).2 hf (beq_iff_eq.mp ht) (by show(PySem.W.lookIn name od).map (·.isSome)=some false;rw[hl,hv];rfl) h
theorem zCL {ns:List Str} {Q:Unit->Shared->Prop} (X:K.In s.heap) (I:ObjM s.heap x dx C mA)
 (hs:PySem.W.findIn K (.ref C) "__setattr__"=some (some (.builtin "object.__setattr__"))) (hp:PySem.W.plainOver K C=true) (ht:PySem.W.takerIn K C name=some none) (hh:PySem.W.hasDictIn K C=true)
 (hw:PySem.Within mA ns) (hsz:ns.length<=sizeLine)
 (h:∀h',ObjM h' x dx C (fun y=>if y=name then some v else mA y)->Heap.SameBut dx s.heap h'->Q () {s with heap:=h',toks:=s.toks+2}):
 wpAny (model prog w) A (setAttr (.ref x) name v) Q E s:=by
 obtain⟨od,J,hl⟩:=I.look
 refine PySem.W.set_plain X J hs (PySem.W.osa_open (s:={s with toks:=s.toks+1}) (r:=none) X J hp ht fun b=>?_)
 obtain⟨cd,hc,hd'⟩:=PySem.W.any_some hh
 have hx:s.heap.get? x=some ⟨.ref C,some dx,.plain,#[]⟩:=I.obj
 refine wpAny_bind (wpAny_pure (wpAny_bind (wpAny_bind (wpAny_loadPart hx (wpAny_bind (PySem.W.Looks.here (s:={s with toks:=s.toks+1}) (PySem.W.looks_clsIn X hc) ?_))))))
 rw[hd']
 refine wpAny_pure (a:=some dx) (wpAny_bind (wpAny_pure (wpAny_bind ?_)))
 refine wpAny_nsSet1 (s:={s with toks:=s.toks+1}) I.ns fun h' hn2 hs2=>?_
 obtain⟨oD,esD,epD,hoD,hdD,hcD⟩:=hn2.count (PySem.Within.cons name v hw)
 refine wpAny_bind (wpAny_lookBehind hoD (by rw[hdD];exact pastItsLine_dict (Nat.le_trans hcD (by rw[List.length_cons];omega))) ?_)
 exact wpAny_pure (h _ ⟨(hs2.2 _ (Ne.symm I.ne)).trans I.obj,hn2,I.ne⟩ hs2)
theorem z7o {R:Result->Shared->Prop} {vs:List Value} {kw:List (Str × Value)} (X:K.In s.heap) (hm:PySem.W.makesIn K C=true)
 (hi:PySem.W.findIn K (.ref C) "__init__"=some (some (.ref f))) (hf:PySem.W.typeIn K (.ref f)=some (.type "function"))
 (h:codeAny (model prog w) (A.under (.builtin "type.__call__" ⟨.ref C::vs,kw⟩)) (.call (.ref f) ⟨.ref (s.heap.objs.size+1)::vs,kw⟩) (PySem.W.InitBack (s.heap.objs.size+1) R)
  {s with heap:=(s.heap.push PySem.W.emptyDict).push (PySem.W.instObj C s.heap.objs.size)}):
 codeAny (model prog w) A (.call (.ref C) ⟨vs,kw⟩) R s:=by
 obtain⟨hh,g,d,t,os⟩:=s
 exact PySem.W.make_core (PySem.W.makes_of X hm) (PySem.W.looks_findIn X hi) (fun self=>PySem.W.bind_fn X self hf) (.inl rfl) h
end
noncomputable def z43 (f:Str) (v:V):List (Str × V)->List (Str × V)
 |[]=>[(f,v)]
 |(g,x)::r=>if g=f then(g,v)::r else(g,x)::z43 f v r
theorem z44 (f g:Str) (v:V):∀fs:List (Str × V),(z43 f v fs).lookup g=if g=f then some v else fs.lookup g
 |[]=>by
  show List.lookup g [(f,v)]=_
  by_cases h:g=f
  .have hb:(g==f)=true:=beq_iff_eq.mpr h
   simp only[List.lookup,hb,if_pos h]
  .have hb:(g==f)=false:=beq_eq_false_iff_ne.mpr h
   simp only[List.lookup,hb,if_neg h]
 |(k,x)::r=>by
  have ih:=z44 f g v r
  rw[show z43 f v ((k,x)::r)=(if k=f then(k,v)::r else(k,x)::z43 f v r)from rfl]
  by_cases hk:k=f
  .rw[if_pos hk]
   by_cases h:g=k
   .have hb:(g==k)=true:=beq_iff_eq.mpr h
    simp only[List.lookup,hb,if_pos (h.trans hk)]
   .have hb:(g==k)=false:=beq_eq_false_iff_ne.mpr h
    simp only[List.lookup,hb,if_neg (fun e:g=f=>h (e.trans hk.symm))]
  .rw[if_neg hk]
   by_cases h:g=k
   .have hb:(g==k)=true:=beq_iff_eq.mpr h
    simp only[List.lookup,hb,if_neg (fun e:g=f=>hk (h.symm.trans e))]
   .have hb:(g==k)=false:=beq_eq_false_iff_ne.mpr h
    simp only[List.lookup,hb]
    exact ih
theorem z45 (f:Str) (v:V):∀fs:List (Str × V),f∈(z43 f v fs).map (·.1)/\∀g,g∈fs.map (·.1)->g∈(z43 f v fs).map (·.1)
 |[]=>⟨by simp[z43],fun g h=>by simp at h⟩
 |(k,x)::r=>by
  obtain⟨i1,i2⟩:=z45 f v r
  rw[show z43 f v ((k,x)::r)=(if k=f then(k,v)::r else(k,x)::z43 f v r)from rfl]
  by_cases hk:k=f
  .rw[if_pos hk]
   subst hk
   exact⟨by simp,fun g h=>by simpa using h⟩
  .rw[if_neg hk]
   refine⟨?_,fun g h=>?_⟩
   .rw[List.map_cons]
    exact List.mem_cons_of_mem _ i1
   .rw[List.map_cons]at h⊢
    rcases List.mem_cons.mp h with e|e
    .exact List.mem_cons.mpr (.inl e)
    .exact List.mem_cons_of_mem _ (i2 g e)
theorem z46 (f:Str) (v:V):∀fs:List (Str × V),(z43 f v fs).length<=fs.length+1
 |[]=>by simp[z43]
 |(k,x)::r=>by
  have ih:=z46 f v r
  rw[show z43 f v ((k,x)::r)=(if k=f then(k,v)::r else(k,x)::z43 f v r)from rfl]
  by_cases hk:k=f
  .rw[if_pos hk,List.length_cons,List.length_cons];omega
  .rw[if_neg hk,List.length_cons,List.length_cons];omega
theorem RelO.some_of {v:V} {o:Option Value} (r:RelO (some v) o):∃u,o=some u/\RelV v u:=by
 cases o with
 |none=>exact(show False from r).elim
 |some u=>exact⟨u,rfl,r⟩
theorem RelO.none_of {o:Option Value} (r:RelO none o):o=none:=by
 cases o with
 |none=>rfl
 |some u=>exact(show False from r).elim
theorem z5p {v:V} {u:Value} (r:RelV v u):PySem.W.handedIn u=true:=by
 cases v with
 |non=>cases (show u=Value.none from r);rfl
 |bl b=>cases (show u=Value.bool b from r);rfl
 |int i=>obtain⟨t,e⟩:=(show∃t,u=Value.int i t from r);cases e;rfl
 |str x=>obtain⟨t,e⟩:=(show∃t,u=Value.str x t from r);cases e;rfl
 |byt b=>obtain⟨t,e⟩:=(show∃t,u=Value.bytes b t from r);cases e;rfl
 |flt b=>obtain⟨t,e⟩:=(show∃t,u=Value.float b t from r);cases e;rfl
 |ref a=>cases (show u=Value.ref a from r);rfl
 |ty n=>cases (show u=Value.type n from r);rfl
section
variable {P:Program} {w:World} {H H':Hp} {h h':Heap} {a C dx:Addr} {fs fs':List (Str × V)}
theorem z56 (hok:HOk P w H h) (e:H a=some (.ins C dx fs)):∃mA,ObjM h a dx C mA/\(∀f,RelO (fs.lookup f) (mA f))/\PySem.Within mA (fs.map (·.1))/\fs.length<=1000/\H dx=some (.own a):=by
 obtain⟨d,z,ne,ob,mA,n,r,q⟩:=(show ObjOk P w H h a (.ins C dx fs)from hok a _ e)
 exact⟨mA,⟨ob,n,ne⟩,r,q,z,d⟩
end
structure Cls (K:PySem.W.Frag) (C:Addr):Prop where
 pg:PySem.W.plainGet K C Str.empty=true
 hd:PySem.W.hasDictIn K C=true
 po:PySem.W.plainOver K C=true
 sa:PySem.W.findIn K (.ref C) "__setattr__"=some (some (.builtin "object.__setattr__"))
theorem Cls.get {K:PySem.W.Frag} {C:Addr} (c:Cls K C) (f:Str):PySem.W.plainGet K C f=true:=c.pg
def NoAttr (K:PySem.W.Frag) (C:Addr) (f:Str):Prop:=PySem.W.findIn K (.ref C) f=some none
theorem NoAttr.taker {K:PySem.W.Frag} {C:Addr} {f:Str} (n:NoAttr K C f):PySem.W.takerIn K C f=some none:=by
 unfold PySem.W.takerIn
 rw[show PySem.W.findIn K (.ref C) f=some none from n]
 rfl
structure Con (K:PySem.W.Frag) (C:Addr) (f:Str) (v:V) (u:Value):Prop where
 at_:PySem.W.findIn K (.ref C) f=some (some u)
 rel:RelV v u
 get:PySem.W.specialIn K u "__get__"=some none
 cp:PySem.W.copiedNames.contains f=false
structure Meth (K:PySem.W.Frag) (C:Addr) (m:Str) (f:Addr):Prop where
 at_:PySem.W.findIn K (.ref C) m=some (some (.ref f))
 fn:PySem.W.isFn K (.ref f)=true
 kp:PySem.W.keepIn K (.ref f)=true
section
variable {X:Cx} {pins:List (Addr × Obj)} {σ:St} {H:Hp} {s:Shared} {a C dx:Addr} {fs:List (Str × V)} {f:Str} {v:V} {A:Around} {E:Value->Shared->Prop}
theorem z8P {b:Bool} {Q:Value->Shared->Prop} (I:Inv X pins σ H s) (e:H a=some (.ins C dx fs)) (c:Cls X.K C) (n:NoAttr X.K C f) (l:fs.lookup f=some v)
 (h:∀u s',Inv X pins σ H s'->RelV v u->Q u s'):wpAny (model X.prog X.w) A (getAttr (.ref a) f b) Q E s:=by
 obtain⟨mA,O,r,_,_,_⟩:=z56 I.hok e
 obtain⟨u,hu,ru⟩:=RelO.some_of (v:=v) (o:=mA f) (by rw[<-l];exact r f)
 exact zCK I.kIn O (c.get f) c.hd n hu (z5p ru) (h u _ (I.tok _) ru)
theorem z3S {m:Str} {g:Addr} {pl:Sem Bool} {Q:Value × List Value->Shared->Prop} (I:Inv X pins σ H s) (e:H a=some (.ins C dx fs)) (c:Cls X.K C) (k:Meth X.K C m g) (l:fs.lookup m=none)
 (h:Q (.ref g,[.ref a]) s):wpAny (model X.prog X.w) A (getMethod (.ref a) m pl) Q E s:=by
 obtain⟨mA,O,r,_,_,_⟩:=z56 I.hok e
 have hn:mA m=none:=RelO.none_of (by rw[<-l];exact r m)
 exact zB0 I.kIn O (c.get m) k.at_ k.fn hn h
theorem z8Q {y:V} {u:Value} {Q:Unit->Shared->Prop} (I:Inv X pins σ H s) (e:H a=some (.ins C dx fs)) (c:Cls X.K C) (n:NoAttr X.K C f) (hl:fs.length<1000) (ry:RelV y u)
 (h:∀s',Inv X pins σ (upd H a (.ins C dx (z43 f y fs))) s'->Q () s'):wpAny (model X.prog X.w) A (setAttr (.ref a) f u) Q E s:=by
 obtain⟨mA,O,r,wi,_,ho⟩:=z56 I.hok e
 have hz:(fs.map (·.1)).length<=sizeLine:=by rw[List.length_map,sizeLine_eq];omega
 refine zCL I.kIn O c.sa c.po n.taker c.hd wi hz fun h' O' sb=>h _ ?_
 have hd:∃o,h'.get? dx=some o:=let ⟨o,_,_,e',_⟩:=O'.ns;⟨o,e'⟩
 refine I.write (x:=a) (e:=dx) (by rw[e];exact True.intro) (.inr ho) (fun b q hb z=>(sb.2 b hb).trans z) hd ?_
 refine⟨by rw[z06 O.ne];exact ho,?_,O.ne,O'.obj,_,O'.ns,fun g=>?_,fun g hg=>?_⟩
 .have:=z46 f y fs;omega
 .show RelO ((z43 f y fs).lookup g) (if g=f then some u else mA g)
  rw[z44]
  by_cases q:g=f
  .rw[if_pos q,if_pos q];exact ry
  .rw[if_neg q,if_neg q];exact r g
 .by_cases q:g=f
  .rw[q];exact(z45 f y fs).1
  .refine(z45 f y fs).2 g (wi g fun z=>hg ?_)
   show(if g=f then some u else mA g)=none
   rw[if_neg q];exact z
theorem Inv.made (I:Inv X pins σ H s):Inv X pins σ (upd (upd H s.heap.objs.size (.own (s.heap.objs.size+1))) (s.heap.objs.size+1) (.ins C s.heap.objs.size []))
 {s with heap:=(s.heap.push PySem.W.emptyDict).push (PySem.W.instObj C s.heap.objs.size)}:=by
 have e1:(s.heap.push PySem.W.emptyDict).get? s.heap.objs.size=some PySem.W.emptyDict:=Heap.get?_push_size s.heap rfl
 have e2:((s.heap.push PySem.W.emptyDict).push (PySem.W.instObj C s.heap.objs.size)).get? (s.heap.objs.size+1)=some (PySem.W.instObj C s.heap.objs.size):=by
  have:=Heap.get?_push_size (s.heap.push PySem.W.emptyDict) (o:=PySem.W.instObj C s.heap.objs.size) rfl
  rwa [Heap.size_push]at this
 have e3:(s.heap.push PySem.W.emptyDict).Ns s.heap.objs.size (fun _=>none):=⟨PySem.W.emptyDict,#[],_,e1,rfl,(fun e he=>absurd he (by simp)),fun _=>rfl⟩
 have I1:=I.laid (a:=s.heap.objs.size) (o:=.own (s.heap.objs.size+1)) (h':=s.heap.push PySem.W.emptyDict) (t':=s.toks) (fun b u q=>Heap.get?_push_of_some _ q) (Nat.le_refl _) ⟨_,e1⟩
 refine I1.laid (a:=s.heap.objs.size+1) (o:=.ins C s.heap.objs.size []) (t':=s.toks) (fun b u q=>Heap.get?_push_of_some _ q) (Nat.le_of_eq (Heap.size_push _ _)) ?_
 have ne:s.heap.objs.size≠s.heap.objs.size+1:=Nat.ne_of_lt (Nat.lt_succ_self _)
 refine⟨by rw[z06 ne,upd_same],Nat.zero_le _,ne,e2,fun _=>none,(Heap.Ns1.of_empty e3).at fun o q=>Heap.get?_push_of_some _ q,fun _=>True.intro,fun y hy=>absurd rfl hy⟩
theorem z9H {prog:Program} {w:World} {env:Env} {e:Expr} {f:Str} {pos:Pos} {s:Shared} {Q:Value->Shared->Prop} (hb:attributeBase e f env (eval e env)=eval e env)
 (h:wpAny (model prog w) A (eval e env) (fun o s₁=>wpAny (model prog w) A (getAttr o f true) Q E s₁) E s):wpAny (model prog w) A (eval (.Attribute e f pos) env) Q E s:=
 Attribute_any_ h (by rw[arm_eval_Attribute,hb])
end
def zEs (K:PySem.W.Frag) (ta:TE) (f:Str):TE:=fun σ H Q=>ta σ H fun x H1=>∃a C dx fs v,x=.ref a/\H1 a=some (.ins C dx fs)/\Cls K C/\NoAttr K C f/\fs.lookup f=some v/\Q v H1
def zF9 (K:PySem.W.Frag) (ta tv:TE) (f:Str):TS:=fun D σ H=>tv σ H fun y H1=>ta σ H1 fun x H2=>∃a C dx fs,x=.ref a/\H2 a=some (.ins C dx fs)/\Cls K C/\NoAttr K C f/\fs.length<1000/\
 D.nx σ (upd H2 a (.ins C dx (z43 f y fs)))
section
variable {X:Cx} {o e value:Expr} {f:Str} {pos pos' tpos:Pos} {ta tv:TE}
theorem z0d (he:PE X e ta) (hb:attributeBase e f X.env (eval e X.env)=eval e X.env):PE X (.Attribute e f pos) (zEs X.K ta f):=by
 intro pins s σ H Q I h
 refine z9H hb (thn (he pins s σ H _ I h) fun u s1 ⟨x,H1,I1,rx,a,C,dx,fs,v,ex,ea,c,n,l,q⟩=>?_)
 subst ex
 obtain rfl:u=Value.ref a:=rx
 exact z8P I1 ea c n l fun u' s2 I2 ru=>⟨v,H1,I2,ru,q⟩
theorem z2Y (ha:PE X o ta) (hv:PE X value tv) (hs:swapsWith value (some (.Attribute o f pos')) pos.line X.env=pure false):PS X (.Assign [.Attribute o f pos'] value pos) (zF9 X.K ta tv f):=by
 intro pins s σ H D I h
 refine plainObj_wpAny_Assign_Attribute (thn (hv pins s σ H _ I h) fun u s1 ⟨y,H1,I1,ry,q⟩=>thn (ha pins s1 σ H1 _ I1 q) fun ov s2 ⟨x,H2,I2,rx,a,C,dx,fs,ex,ea,c,n,l,q2⟩=>?_) hs
 subst ex
 obtain rfl:ov=Value.ref a:=rx
 exact z8Q I2 ea c n l ry fun s3 I3=>⟨σ,_,I3,q2⟩
end
section
variable {X:Cx} {pins:List (Addr × Obj)} {σ:St} {H:Hp} {s:Shared} {A:Around} {E:Value->Shared->Prop} {Q:Value->Shared->Prop} {c:Value} {b:Bool}
inductive TyOf (K:PySem.W.Frag) (H:Hp):V->Value->Prop where
 |non:TyOf K H .non (.type "NoneType")
 |bl (x:Bool):TyOf K H (.bl x) (.type "bool")
 |int (i:Int):TyOf K H (.int i) (.type "int")
 |str (x:Str):TyOf K H (.str x) (.type "str")
 |flt (x:UInt64):TyOf K H (.flt x) (.type "float")
 |lst {a:Addr} {xs:List V} (e:H a=some (.lst xs)):TyOf K H (.ref a) (.type "list")
 |frz {a:Addr} {o:Obj} {xs:List V} (e:H a=some (.frz o (.lst xs))):TyOf K H (.ref a) (.type "list")
 |tup {a:Addr} {xs:List V} (e:H a=some (.tup xs)):TyOf K H (.ref a) (.type "tuple")
 |dK {a:Addr} {kvs:List (Key × V)} (e:H a=some (.dK kvs)):TyOf K H (.ref a) (.type "dict")
 |dT {a:Addr} {kvs:List (List Key × V)} (e:H a=some (.dT kvs)):TyOf K H (.ref a) (.type "dict")
 |ins {a C dx:Addr} {fs:List (Str × V)} (e:H a=some (.ins C dx fs)) (cl:Cls K C) (ha:PySem.W.findIn K (.ref C) "__class__"=some (some (.builtin "object.__class__")))
  (hn:PySem.W.specialIn K (.builtin "object.__class__") "__get__"=some (some (.builtin "getset_descriptor.__get__"))) (htk:PySem.W.takesIn K (.builtin "object.__class__")=some true)
  (hm:PySem.W.mroIn K C (.type "object")=some true):TyOf K H (.ref a) (.ref C)
theorem z9I {x:V} {u t:Value} (I:Inv X pins σ H s) (rx:RelV x u) (ty:TyOf X.K H x t) (e:PySem.W.kitOne X.K t c=some b) (h:∀tk,Q (.bool b) {s with toks:=tk}):
 wpAny (model X.prog X.w) A (call (.builtin "isinstance") [u,c]) Q E s:=by
 cases ty with
 |non=>cases (show u=Value.none from rx);exact PySem.W.kia_one PySem.W.kitx_none I.kIn True.intro e (fun z=>nomatch z) h
 |bl y=>cases (show u=Value.bool y from rx);exact PySem.W.kia_one PySem.W.kitx_bool I.kIn True.intro e (fun z=>nomatch z) h
 |int i=>obtain⟨t,q⟩:=(show∃t,u=Value.int i t from rx);cases q;exact PySem.W.kia_one PySem.W.kitx_int I.kIn True.intro e (fun z=>nomatch z) h
 |str y=>obtain⟨t,q⟩:=(show∃t,u=Value.str y t from rx);cases q;exact PySem.W.kia_one PySem.W.kitx_str I.kIn True.intro e (fun z=>nomatch z) h
 |flt y=>obtain⟨t,q⟩:=(show∃t,u=Value.float y t from rx);cases q;exact PySem.W.kia_one PySem.W.kitx_float I.kIn True.intro e (fun z=>nomatch z) h
 |@lst a xs ea=>
  cases (show u=Value.ref a from rx)
  obtain⟨_,_,n,_,h1⟩:=(show ObjOk X.prog X.w H s.heap a (.lst xs)from I.hok a _ ea)
  exact PySem.W.kia_one PySem.W.kitx_list I.kIn ⟨_,h1,rfl⟩ e (fun z=>nomatch z) h
 |@frz a ob xs ea=>
  cases (show u=Value.ref a from rx)
  obtain⟨_,_,_,n,_,h1⟩:=(show ObjOk X.prog X.w H s.heap a (.frz ob (.lst xs))from I.hok a _ ea)
  exact PySem.W.kia_one PySem.W.kitx_list I.kIn ⟨_,h1,rfl⟩ e (fun z=>nomatch z) h
 |@tup a xs ea=>
  cases (show u=Value.ref a from rx)
  obtain⟨_,_,_,p⟩:=(show ObjOk X.prog X.w H s.heap a (.tup xs)from I.hok a _ ea)
  obtain⟨o,h1,h2,_⟩:=p
  exact PySem.W.kia_one PySem.W.kitx_tuple I.kIn ⟨o,h1,h2⟩ e (fun z=>nomatch z) h
 |@dK a kvs ea=>
  cases (show u=Value.ref a from rx)
  obtain⟨_,_,vs,_,p⟩:=(show ObjOk X.prog X.w H s.heap a (.dK kvs)from I.hok a _ ea)
  obtain⟨o,es,ep,h1,h2,_⟩:=p
  exact PySem.W.kia_one PySem.W.kitx_dict I.kIn ⟨o,h1,h2.1⟩ e (fun z=>nomatch z) h
 |@dT a kvs ea=>
  cases (show u=Value.ref a from rx)
  obtain⟨_,_,xs,_,o,es,ep,h1,h2,_⟩:=(show ObjOk X.prog X.w H s.heap a (.dT kvs)from I.hok a _ ea)
  exact PySem.W.kia_one PySem.W.kitx_dict I.kIn ⟨o,h1,h2.1⟩ e (fun z=>nomatch z) h
 |@ins a C dx fs ea cl ha hn htk hm=>
  cases (show u=Value.ref a from rx)
  obtain⟨mA,O,_⟩:=z56 I.hok ea
  obtain⟨od,J,_⟩:=O.look
  exact PySem.W.kia_one (PySem.W.kitx_own (cl.get _) cl.hd ha hn htk hm) I.kIn J e (fun z=>nomatch z) h
end
structure Room (k:Nat) (A:Around):Prop where
 hd:A.handled=none
 dp:A.depth+3*k+5<recursionLimit
 un:A.units+16*k+200<cLine
theorem Room.mono {j k:Nat} {A:Around} (r:Room k A) (h:j<=k):Room j A:=⟨r.hd,by have:=r.dp;omega,by have:=r.un;omega⟩
theorem Room.deeper {k:Nat} {A:Around} (r:Room (k+1) A) (env:Env):Room k (A.deeper env):=
 ⟨r.hd,by have:=r.dp;show A.depth+1+3*k+5<_;omega,by have:=r.un;show A.units+3+16*k+200<_;omega⟩
theorem z8R {A:Around} {C:Addr} {us:List Value} {kw:List (Str × Value)}:(A.under (.builtin "type.__call__" ⟨.ref C::us,kw⟩)).depth=A.depth+1:=by
 first|rfl|simp[Around.under,Code.weight,Code.isCreation,Code.isGuard,Code.isCaller,Code.frames,Code.isFrame,guardIds]
theorem z8S {A:Around} {C:Addr} {us:List Value} {kw:List (Str × Value)}:(A.under (.builtin "type.__call__" ⟨.ref C::us,kw⟩)).units=A.units+1:=by
 first|rfl|simp[Around.under,Code.cUnits,Code.frames,Code.isFrame]
theorem Room.make {k:Nat} {A:Around} (r:Room (k+1) A) (C:Addr) (us:List Value) (kw:List (Str × Value)):Room k (A.under (.builtin "type.__call__" ⟨.ref C::us,kw⟩)):=
 ⟨r.hd,by have:=r.dp;rw[z8R];omega,by have:=r.un;rw[z8S];omega⟩
theorem Room.depth {k:Nat} {A:Around} (r:Room k A):A.depth<recursionLimit:=by have:=r.dp;omega
theorem Room.units {k:Nat} {A:Around} (r:Room k A):A.units+64<cLine:=by have:=r.un;omega
def zE3:TA:=fun _ H Q=>Q [] H
def zCM (ta:TE) (tr:TA):TA:=fun σ H Q=>ta σ H fun x H1=>tr σ H1 fun xs H2=>Q (x::xs) H2
section
variable {X:Cx} {e:Expr} {es:List Expr} {te:TE} {t:TA} {pos:Pos}
theorem z02:PA X [] zE3:=fun _ _ _ _ H Q I h=>Calls.spliced_nil ⟨[],H,I,.nil,h⟩
theorem z00 (ha:PE X e te) (hr:PA X es t) (hs:starEach (e::es) X.env=(false,eval e X.env)::starEach es X.env:=by rfl):PA X (e::es) (zCM te t):=by
 intro pos pins s σ H Q I h
 rw[hs]
 show wpAny _ _ (spliced ((false,eval e X.env)::backTo pos (starEach es X.env))) _ _ s
 refine Calls.spliced_cons (thn (ha pins s σ H _ I h) fun u s1 ⟨x,H1,I1,r1,q1⟩=>?_)
 exact thn (hr pos pins s1 σ H1 _ I1 q1) fun us s2 ⟨xs,H2,I2,r2,q2⟩=>⟨x::xs,H2,I2,.cons r1 r2,q2⟩
def zFA (t:TA):TE:=fun σ H Q=>t σ H fun xs H1=>xs.length<=sizeLine/\∀p,H1 p=none->Q (.ref p) (upd H1 p (.tup xs))
def zFB (t:TA):TE:=fun σ H Q=>t σ H fun xs H1=>xs.length<=sizeLine/\∀p,H1 p=none->Q (.ref p) (upd H1 p (.lst xs))
theorem z0t {x1} (h:PA X es t):PE X (.Tuple es x1 pos) (zFA t):=by
 intro pins s σ H Q I hq
 refine wpAny_Tuple_spliced (thn (h pos pins s σ H _ I hq) fun us s1 ⟨xs,H1,I1,r,z,q⟩=>⟨by rw[<-r.length];exact z,?_⟩)
 have hf:H1 s1.heap.objs.size=none:=I1.hok.fresh (Nat.le_refl _)
 refine⟨.ref s1.heap.objs.size,upd H1 s1.heap.objs.size (.tup xs),I1.laid (t':=s1.toks) (fun b u e=>Heap.get?_push_of_some _ e) (Nat.le_refl _) ?_,rfl,q _ hf⟩
 exact⟨z,us,r,⟨_,Heap.get?_push_size _ rfl,rfl,_,rfl⟩⟩
theorem z1o (h:PA X es t):PE X (.List es pos) (zFB t):=by
 intro pins s σ H Q I hq
 refine wpAny_List_spliced (thn (h pos pins s σ H _ I hq) fun us s1 ⟨xs,H1,I1,r,z,q⟩=>⟨by rw[<-r.length];exact z,?_⟩)
 have hf:H1 s1.heap.objs.size=none:=I1.hok.fresh (Nat.le_refl _)
 refine⟨.ref s1.heap.objs.size,upd H1 s1.heap.objs.size (.lst xs),I1.laid (t':=s1.toks) (fun b u e=>Heap.get?_push_of_some _ e) (Nat.le_refl _) ?_,rfl,q _ hf⟩
 exact⟨z,us,0,r,Heap.get?_push_size _ rfl⟩
end
abbrev Sp:=List V->Hp->VK->XK->Prop
abbrev CXT:=List Env->Hp->Shared->XK->Value->Shared->Prop
structure Env0 (P:Program) (w:World) (K:PySem.W.Frag) (mg:Str->Option Value) (base:Heap) (A:Around) (outer:List Env) (s:Shared) (H:Hp):Prop where
 frames:A.frames=some outer
 mod:Mod K mg base
 bs:∀b o,base.get? b=some o->s.heap.get? b=some o/\H b=none
 bsz:base.objs.size<=s.heap.objs.size
 funs:s.heap.FunFrames base outer
 frf:∀b∈frs outer,H b=none
 hok:HOk P w H s.heap
 bare:AllBare s.gens
def CE (outer:List Env) (P:Program) (w:World) (H:Hp) (s:Shared) (Q:VK) (u:Value) (s':Shared):Prop:=
 ∃v H',s'.os=s.os/\AllBare s'.gens/\Un (frs outer) [] H H' s.heap s'.heap/\HOk P w H' s'.heap/\RelV v u/\Q v H'
def CR (CX:CXT) (outer:List Env) (P:Program) (w:World) (H:Hp) (s:Shared) (Q:VK) (E:XK) (r:Result) (s':Shared):Prop:=
 match r with
 |.ok (.ret u)=>CE outer P w H s Q u s'
 |.ok _=>False
 |.error e=>CX outer H s E e s'
structure FnOk (P:Program) (w:World) (K:PySem.W.Frag) (mg:Str->Option Value) (base:Heap) (CX:CXT) (k:Nat) (f:Addr) (fd:FuncData) (ps:List Str) (sp:Sp):Prop where
 len:∀vs H Q E,sp vs H Q E->vs.length=ps.length
 run:∀(A:Around) (outer:List Env) (s:Shared) (H:Hp) (args:Args) (us:List Value) (vs:List V) (Q:VK) (E:XK),Room k A->Env0 P w K mg base A outer s H->BindsTo s fd args (ps.zip us)->Vals vs us->sp vs H Q E->
  codeAny (model P w) A (.call (.ref f) args) (CR CX outer P w H s Q E) s
theorem Env0.make {P:Program} {w:World} {K:PySem.W.Frag} {mg:Str->Option Value} {base:Heap} {A:Around} {outer:List Env} {s:Shared} {H:Hp} (e:Env0 P w K mg base A outer s H) (C:Addr) (us:List Value) (kw:List (Str × Value)):
 Env0 P w K mg base (A.under (.builtin "type.__call__" ⟨.ref C::us,kw⟩)) outer s H:=⟨by first|exact e.frames|(simpa [Around.under,Code.envs,Code.isFrame,pushEnvs]using e.frames),e.mod,e.bs,e.bsz,e.funs,e.frf,e.hok,e.bare⟩
section
variable {X:Cx} {pins:List (Addr × Obj)} {σ:St} {H:Hp} {s s':Shared}
theorem Inv.env0 (I:Inv X pins σ H s):Env0 X.prog X.w X.K X.mg X.base X.A X.stack s H:=
 ⟨I.ok.frames,I.ok.mod,I.bs,Nat.le_trans I.ok.bsz I.sz,I.stack,I.stkFree,I.hok,I.bare⟩
theorem Inv.after {Q:VK} {u:Value} (I:Inv X pins σ H s) (h:CE X.stack X.prog X.w H s Q u s'):EP X pins σ Q u s':=by
 obtain⟨v,H',os,bare,un,hok,r,q⟩:=h
 obtain⟨hh,g,d,t,os'⟩:=s'
 obtain rfl:os'=s.os:=os
 exact⟨v,H',I.call (h':=hh) (g':=g) (d':=d) (t':=t) (ch:=[]) un hok bare (fun b z=>absurd z (by simp)),r,q⟩
end
def z8T (sp:Sp) (dvs:List V) (E:XK) (t:TA):TE:=fun σ H Q=>t σ H fun vs H1=>sp (vs++dvs) H1 Q E
def zB1 (C:Addr) (m:Str) (sp:Sp) (dvs:List V) (E:XK) (ta:TE) (t:TA):TE:=fun σ H Q=>ta σ H fun x H1=>∃a dx fs,x=.ref a/\H1 a=some (.ins C dx fs)/\fs.lookup m=none/\
 t σ H1 fun vs H2=>sp (x::(vs++dvs)) H2 Q E
def zDJ (C:Addr) (sp:Sp) (dvs:List V) (E:XK) (t:TA):TE:=fun σ H Q=>t σ H fun vs H1=>∀x dx,H1 x=none->H1 dx=none->dx≠x->
 sp (.ref x::(vs++dvs)) (upd (upd H1 dx (.own x)) x (.ins C dx [])) (fun v H2=>v=.non/\Q (.ref x) H2) E
def Binds (K:PySem.W.Frag) (fd:FuncData) (ps:List Str) (ds:List Value):Prop:=
 ∀(s:Shared) (us:List Value),K.In s.heap->(us++ds).length=ps.length->BindsTo s fd ⟨us,[]⟩ (ps.zip (us++ds))
theorem Binds.all {K:PySem.W.Frag} {fd:FuncData} {ps:List Str} (h:∀us:List Value,us.length=ps.length->bindArgs fd ⟨us,[]⟩=pure (ps.zip us)):Binds K fd ps []:=fun s us _ hl=>by
 rw[List.append_nil]at hl⊢
 exact .of_eq (h us hl)
def z2I (CX:CXT) (X:Cx) (E:XK):Prop:=∀(pins:List (Addr × Obj)) (σ:St) (H:Hp) (s:Shared) (e:Value) (s':Shared),Inv X pins σ H s->CX X.stack H s E e s'->X.xe e s'
section
variable {X:Cx} {CX:CXT} {k:Nat} {f C:Addr} {fd:FuncData} {ps:List Str} {sp:Sp} {dvs:List V} {ds:List Value} {E:XK} {x m:Str} {p pos apos:Pos} {e o:Expr} {es:List Expr} {ta:TE} {t:TA}
theorem z9J {pins:List (Addr × Obj)} {σ:St} {H:Hp} {s:Shared} {Q:VK} {us:List Value} {vs:List V} (F:FnOk X.prog X.w X.K X.mg X.base CX k f fd ps sp) (hr:Room k X.A) (hb:Binds X.K fd ps ds) (hd:Vals dvs ds) (hx:z2I CX X E)
 (I:Inv X pins σ H s) (r:Vals vs us) (h:sp (vs++dvs) H Q E):wpAny (model X.prog X.w) X.A (call (.ref f) us) (EP X pins σ Q) X.xe s:=by
 have r2:Vals (vs++dvs) (us++ds):=r.append hd
 have hl:(us++ds).length=ps.length:=by rw[<-r2.length];exact F.len _ _ _ _ h
 refine wpAny_call (codeAny_mono (F.run X.A X.stack s H ⟨us,[]⟩ (us++ds) (vs++dvs) Q E hr I.env0 (hb s us I.kIn hl) r2 h) fun r s' hq=>?_)
 cases r with
 |error e=>exact hx pins σ H s e s' I hq
 |ok fl=>
  cases fl with
  |ret u=>exact I.after hq
  |next=>exact False.elim hq
  |brk=>exact False.elim hq
  |cont=>exact False.elim hq
theorem z57 (F:FnOk X.prog X.w X.K X.mg X.base CX k f fd ps sp) (hr:Room k X.A) (hg:Gl X x) (hm:X.mg x=some (.ref f)) (hk:PySem.W.keepIn X.K (.ref f)=true) (hb:Binds X.K fd ps ds) (hd:Vals dvs ds) (hx:z2I CX X E)
 (ha:PA X (e::es) t) (hdb:(x==("__debug__":Str))=false:=by decide) (he:starEach (e::es) X.env=(false,eval e X.env)::starEach es X.env:=by rfl) (hpl:(backTo pos (starEach es X.env)).any (·.1)=false:=by rfl):
 PE X (.Call (.Name x p) (e::es) [] pos) (z8T sp dvs E t):=by
 intro pins s σ H Q I h
 refine wpAny_Call_Name_kw (z2c I hg hm ?_ hdb)
 refine PySem.W.callWith_K (h₀:=X.base) I.ok.mod.kin hk (thn (ha pos pins s σ H _ I h) fun us s1 ⟨vs,H1,I1,r,q⟩=>⟨I1.kIn,?_⟩) he hpl
 exact z9J F hr hb hd hx I1 r q
theorem zCN {pl:Sem Bool} (he:PE X o ta) (c:Cls X.K C) (hm:Meth X.K C m f) (F:FnOk X.prog X.w X.K X.mg X.base CX k f fd ps sp) (hr:Room k X.A) (hb:Binds X.K fd ps ds) (hd:Vals dvs ds) (hx:z2I CX X E) (ha:PA X (e::es) t)
 (hst:starEach (e::es) X.env=(false,eval e X.env)::starEach es X.env:=by rfl) (hpl:(backTo pos (starEach es X.env)).any (·.1)=false:=by rfl)
 (ht:eval (.Call (.Attribute o m apos) (e::es) [] pos) X.env=(do
  let ov<-eval o X.env
  standAt apos.atName
  let (f,first)<-holding [ov] (getMethod ov m pl)
  callWith pos f first (backTo pos (starEach (e::es) X.env)) (backToKw pos (keywordEach [] X.env))):=by rfl):
 PE X (.Call (.Attribute o m apos) (e::es) [] pos) (zB1 C m sp dvs E ta t):=by
 intro pins s σ H Q I h
 refine PySem.W.methodCall_KW (pl:=pl) (thn (he pins s σ H _ I h) fun u s1 ⟨x,H1,I1,rx,a,dx,fs,ex,ea,l,q⟩=>?_) ht
 subst ex
 obtain rfl:u=Value.ref a:=rx
 refine z3S I1 ea c hm l ?_
 refine PySem.W.callWith_K (first:=[.ref a]) (h₀:=X.base) I.ok.mod.kin hm.kp (thn (ha pos pins s1 σ H1 _ I1 q) fun us s2 ⟨vs,H2,I2,r,q2⟩=>⟨I2.kIn,?_⟩) hst hpl
 exact z9J (us:=.ref a::us) (vs:=.ref a::vs) F hr hb hd hx I2 (.cons rfl r) q2
theorem zB2 {pl:Sem Bool} (he:PE X o ta) (c:Cls X.K C) (hm:Meth X.K C m f) (F:FnOk X.prog X.w X.K X.mg X.base CX k f fd ps sp) (hr:Room k X.A) (hb:Binds X.K fd ps ds) (hd:Vals dvs ds) (hx:z2I CX X E)
 (ht:eval (.Call (.Attribute o m apos) [] [] pos) X.env=(do
  let ov<-eval o X.env
  standAt apos.atName
  let (f,first)<-holding [ov] (getMethod ov m pl)
  callWith pos f first (backTo pos (starEach [] X.env)) (backToKw pos (keywordEach [] X.env))):=by rfl):
 PE X (.Call (.Attribute o m apos) [] [] pos) (zB1 C m sp dvs E ta zE3):=by
 intro pins s σ H Q I h
 refine PySem.W.methodCall_KW (pl:=pl) (thn (he pins s σ H _ I h) fun u s1 ⟨x,H1,I1,rx,a,dx,fs,ex,ea,l,q⟩=>?_) ht
 subst ex
 obtain rfl:u=Value.ref a:=rx
 refine z3S I1 ea c hm l ?_
 exact PySem.W.callWith_K0 (first:=[.ref a]) I1.kIn hm.kp (z9J (us:=[.ref a]) (vs:=[.ref a]) F hr hb hd hx I1 (.cons rfl .nil) q)
structure Mk (K:PySem.W.Frag) (C f:Addr):Prop where
 makes:PySem.W.makesIn K C=true
 init:PySem.W.findIn K (.ref C) "__init__"=some (some (.ref f))
 fn:PySem.W.isFn K (.ref f)=true
 kp:PySem.W.keepIn K (.ref C)=true
theorem zB3 {pins:List (Addr × Obj)} {σ:St} {H:Hp} {s:Shared} {Q:VK} {us:List Value} {vs:List V} (M:Mk X.K C f) (F:FnOk X.prog X.w X.K X.mg X.base CX k f fd ps sp) (hr:Room (k+1) X.A) (hb:Binds X.K fd ps ds) (hd:Vals dvs ds)
 (hx:z2I CX X E) (I:Inv X pins σ H s) (r:Vals vs us)
 (h:∀x dx,H x=none->H dx=none->dx≠x->sp (.ref x::(vs++dvs)) (upd (upd H dx (.own x)) x (.ins C dx [])) (fun v H2=>v=.non/\Q (.ref x) H2) E):
 wpAny (model X.prog X.w) X.A (call (.ref C) us) (EP X pins σ Q) X.xe s:=by
 have hq:=h (s.heap.objs.size+1) s.heap.objs.size (I.hok.fresh (Nat.le_succ _)) (I.hok.fresh (Nat.le_refl _)) (Nat.ne_of_lt (Nat.lt_succ_self _))
 have I2:=Inv.made (C:=C) I
 have r2:Vals (V.ref (s.heap.objs.size+1)::(vs++dvs)) (Value.ref (s.heap.objs.size+1)::(us++ds)):=.cons rfl (r.append hd)
 have hl:(Value.ref (s.heap.objs.size+1)::us++ds).length=ps.length:=by
  have e:=r2.length
  rw[F.len _ _ _ _ hq]at e
  exact e.symm
 refine wpAny_call (z7o (f:=f) I.kIn M.makes M.init (beq_iff_eq.mp M.fn) (codeAny_mono (F.run _ X.stack _ _ ⟨Value.ref (s.heap.objs.size+1)::us,[]⟩ (Value.ref (s.heap.objs.size+1)::(us++ds)) _ _ E (hr.make C us [])
  (I2.env0.make C us []) (hb _ (Value.ref (s.heap.objs.size+1)::us) I2.kIn hl) r2 hq) fun r s' hq'=>?_))
 cases r with
 |error e=>exact hx pins σ _ _ e s' I2 hq'
 |ok fl=>
  cases fl with
  |ret u=>
   obtain⟨v,H',I3,rv,ev,q3⟩:=I2.after hq'
   subst ev
   exact⟨rv,⟨V.ref (s.heap.objs.size+1),H',I3,rfl,q3⟩⟩
  |next=>exact False.elim hq'
  |brk=>exact False.elim hq'
  |cont=>exact False.elim hq'
theorem zCO (M:Mk X.K C f) (F:FnOk X.prog X.w X.K X.mg X.base CX k f fd ps sp) (hr:Room (k+1) X.A) (hg:Gl X x) (hm:X.mg x=some (.ref C)) (hb:Binds X.K fd ps ds) (hd:Vals dvs ds) (hx:z2I CX X E)
 (ha:PA X (e::es) t) (hdb:(x==("__debug__":Str))=false:=by decide) (he:starEach (e::es) X.env=(false,eval e X.env)::starEach es X.env:=by rfl) (hpl:(backTo pos (starEach es X.env)).any (·.1)=false:=by rfl):
 PE X (.Call (.Name x p) (e::es) [] pos) (zDJ C sp dvs E t):=by
 intro pins s σ H Q I h
 refine wpAny_Call_Name_kw (z2c I hg hm ?_ hdb)
 refine PySem.W.callWith_K (h₀:=X.base) I.ok.mod.kin M.kp (thn (ha pos pins s σ H _ I h) fun us s1 ⟨vs,H1,I1,r,q⟩=>⟨I1.kIn,?_⟩) he hpl
 exact zB3 M F hr hb hd hx I1 r q
end
def PK (X:Cx) (kws:List Keyword) (t:TA):Prop:=
 ∀(pos:Pos) (pins:List (Addr × Obj)) (s:Shared) (σ:St) (H:Hp) (Q:List V->Hp->Prop),Inv X pins σ H s->t σ H Q->wpAny (model X.prog X.w) X.A (evalAll ((backToKw pos (keywordEach kws X.env)).map (·.2))) (AP X pins σ Q) X.xe s
section
variable {X:Cx} {CX:CXT} {k:Nat} {f C:Addr} {fd:FuncData} {ps ks:List Str} {sp:Sp} {E:XK} {x m:Str} {p pos apos kpos:Pos} {e o:Expr} {es:List Expr} {kws:List Keyword} {te ta:TE} {t tk:TA} {nm:Option Str}
structure KBinds (K:PySem.W.Frag) (fd:FuncData) (ps ks:List Str) (g:List Value->List Value->List Value) (gV:List V->List V->List V):Prop where
 to:∀(s:Shared) (us ws:List Value),K.In s.heap->(g us ws).length=ps.length->BindsTo s fd ⟨us,ks.zip ws⟩ (ps.zip (g us ws))
 rel:∀{vs:List V} {us:List Value} {zs:List V} {ws:List Value},Vals vs us->Vals zs ws->Vals (gV vs zs) (g us ws)
variable {g:List Value->List Value->List Value} {gV:List V->List V->List V}
end
structure FnScope (N P:List Str) (sc:Scope):Prop where
 kind:sc.kind=.function
 co:sc.isCoroutine=false
 gen:sc.isGenerator=false
 nd:N.Nodup
 pre:N.take P.length=P
 par:∀x∈P,sc.names.lookup x=some .local\/sc.names.lookup x=some .cell
 nofree:∀y∈sc.names,y.2≠.free
theorem z5q {kindOf:Str->Option NameKind} {x:Str}:∀{binds:List (Str × Value)} {m:Str->Option Value},(∀v,(x,v)∉binds)->bindL kindOf binds m x=m x
 |[],_,_=>rfl
 |(n,v)::r,m,h=>by
  unfold bindL
  rw[z5q fun w hw=>h w (List.mem_cons_of_mem _ hw)]
  split
  .have:x≠n:=by rintro rfl;exact h v List.mem_cons_self
   simp[this]
  .rfl
theorem z5r {kindOf:Str->Option NameKind} {x:Str}:∀{binds:List (Str × Value)} {m:Str->Option Value},(∀v,(x,v)∉binds)->bindC kindOf binds m x=m x
 |[],_,_=>rfl
 |(n,v)::r,m,h=>by
  unfold bindC
  rw[z5r fun w hw=>h w (List.mem_cons_of_mem _ hw)]
  split
  .rfl
  .have:x≠n:=by rintro rfl;exact h v List.mem_cons_self
   simp[this]
theorem z5s {kindOf:Str->Option NameKind} {x:Str} {v:Value}:∀{P:List Str} {vs:List Value} {i:Nat} {m:Str->Option Value},P.Nodup->P[i]?=some x->vs[i]?=some v->kindOf x=some .local->
 bindL kindOf (P.zip vs) m x=some v
 |[],_,_,_,_,h,_,_=>by simp at h
 |_::_,[],_,_,_,_,h,_=>by simp at h
 |p::P,w::vs,0,m,nd,h1,h2,hk=>by
  simp at h1 h2;subst h1;subst h2
  show bindL kindOf ((p,w)::P.zip vs) m p=_
  unfold bindL
  rw[z5q fun v hv=>(List.nodup_cons.mp nd).1 (List.of_mem_zip hv).1,if_pos hk]
  simp
 |p::P,w::vs,i+1,m,nd,h1,h2,hk=>by
  show bindL kindOf ((p,w)::P.zip vs) m x=_
  unfold bindL
  exact z5s (i:=i) (List.nodup_cons.mp nd).2 (by simpa using h1) (by simpa using h2) hk
theorem z5t {kindOf:Str->Option NameKind} {x:Str} {v:Value}:∀{P:List Str} {vs:List Value} {i:Nat} {m:Str->Option Value},P.Nodup->P[i]?=some x->vs[i]?=some v->kindOf x≠some .local->
 bindC kindOf (P.zip vs) m x=some v
 |[],_,_,_,_,h,_,_=>by simp at h
 |_::_,[],_,_,_,_,h,_=>by simp at h
 |p::P,w::vs,0,m,nd,h1,h2,hk=>by
  simp at h1 h2;subst h1;subst h2
  show bindC kindOf ((p,w)::P.zip vs) m p=_
  unfold bindC
  rw[z5r fun v hv=>(List.nodup_cons.mp nd).1 (List.of_mem_zip hv).1,if_neg hk]
  simp
 |p::P,w::vs,i+1,m,nd,h1,h2,hk=>by
  show bindC kindOf ((p,w)::P.zip vs) m x=_
  unfold bindC
  exact z5t (i:=i) (List.nodup_cons.mp nd).2 (by simpa using h1) (by simpa using h2) hk
noncomputable def start (N:List Str) (vs:List V):St:=vs.map some++List.replicate (N.length-vs.length) none
noncomputable def z9K (CX:CXT) (P:Program) (w:World) (K:PySem.W.Frag) (mg:Str->Option Value) (base:Heap) (N:List Str) (qual:Str) (scope:Scope) (f:Addr) (cd:Value) (A:Around) (outer:List Env) (s:Shared) (H:Hp) (E:XK):Cx where
 prog:=P
 w:=w
 K:=K
 mg:=mg
 base:=base
 A:=A.deeper (envOfC qual scope s.heap.objs.size f cd)
 N:=N
 s₀:=s
 H₀:=H
 env:=envOfC qual scope s.heap.objs.size f cd
 outer:=outer
 stack:=envOfC qual scope s.heap.objs.size f cd::outer
 ex:=[]
 calm:=true
 fn:=fun _=>true
 pn:=[]
 xe:=fun e s'=>wpAny (model P w) (A.deeper (envOfC qual scope s.heap.objs.size f cd)) (leaving (envOfC qual scope s.heap.objs.size f cd) e) (fun _ s''=>CX outer H s E e s'') (fun e' s''=>CX outer H s E e' s'') s'
theorem z7p {sc:Scope} {n:Nat} {x:Str} (h:sc.names.lookup x=some .cell):∃c,(cellsFrom n sc.names []).lookup x=some c:=by
 have q:=PySem.W.cellsFrom_some sc.names n [] (.inl h)
 exact Option.isSome_iff_exists.mp q
theorem z9L {CX:CXT} {P:Program} {w:World} {K:PySem.W.Frag} {mg:Str->Option Value} {base:Heap} {N ps:List Str} {qual:Str} {scope:Scope} {f:Addr} {cd:Value} {A:Around} {outer:List Env} {s s1:Shared} {H:Hp} {E:XK} {us:List Value} {vs:List V}
 (S:FnScope N ps scope) (hd:A.handled=none) (e0:Env0 P w K mg base A outer s H) (hl:vs.length=ps.length) (r:Vals vs us)
 (x:InCallC s s.heap.objs.size (bindL (envOfC qual scope s.heap.objs.size f cd).kindOf (ps.zip us) fun _=>none) (cellsFrom (s.heap.objs.size+1) scope.names []) (bindC (envOfC qual scope s.heap.objs.size f cd).kindOf (ps.zip us) fun _=>none) s1):
 Inv (z9K CX P w K mg base N qual scope f cd A outer s H E) [] (start N vs) H s1:=by
 have hpl:ps.length<=N.length:=by have:=congrArg List.length S.pre;rw[List.length_take]at this;omega
 obtain⟨h1,tk,rfl,hk⟩:=x.done
 have noA:∀b:Addr,b∉(z9K CX P w K mg base N qual scope f cd A outer s H E).ex:=fun b z=>absurd (show b∈([]:List Addr)from z) (by simp)
 refine⟨⟨e0.mod,S.kind,rfl,rfl,Nat.le_refl _,fun y z c h1 h2=>?_,fun y hy=>?_,fun y c _ h=>?_,fun _=>hd,Around.frames_deeper e0.frames,.inr ⟨rfl,rfl⟩,fun b z=>absurd z (noA b),e0.bs,e0.bsz,fun b _ _=>noA b,fun b z=>absurd z (noA b),e0.funs,e0.frf⟩,
  rfl,e0.bare,Un.kept hk,⟨_,x.toInCall.ns,fun i y v h1 h2 h3=>?_⟩,fun y c h=>⟨_,x.cell y c h⟩,e0.hok.fresh (Nat.le_refl _),fun y c h=>?_,fun p hp=>absurd (show p∈([]:List (Addr × Obj))from hp) (by simp),e0.hok.kept hk,?_⟩
 .exact name_of_addr x.apart (PySem.mem_of_lookup h1) (PySem.mem_of_lookup h2)
 .have hy:scope.names.lookup y=some .cell\/scope.names.lookup y=some .free:=hy
  rcases hy with hy|hy
  .exact z7p hy
  .exact absurd rfl (S.nofree _ (PySem.mem_of_lookup hy))
 .exact Nat.le_of_lt (x.above y c (PySem.mem_of_lookup h))
 .have hi:i<vs.length:=by
   unfold start at h2
   by_cases hi:i<vs.length
   .exact hi
   .rw[List.getElem?_append_right (by simpa using hi)]at h2
    rw[List.getElem?_replicate]at h2
    split at h2<;>cases h2
  have ha:vs[i]?=some v:=by
   unfold start at h2
   rw[List.getElem?_append_left (by simpa using hi),List.getElem?_map]at h2
   cases e:vs[i]? with
   |none=>rw[e]at h2;cases h2
   |some a=>rw[e]at h2;cases h2;rfl
  obtain⟨u,hu,rv⟩:=r.get ha
  have hp:ps[i]?=some y:=by
   rw[<-S.pre,List.getElem?_take_of_lt (by omega)];exact h1
  have ndP:ps.Nodup:=by rw[<-S.pre];exact S.nd.sublist (List.take_sublist _ _)
  refine⟨u,rv,?_⟩
  rcases S.par y (List.mem_of_getElem? hp)with k|k
  .exact .inl ⟨k,z5s ndP hp hu k⟩
  .obtain⟨c,e⟩:=z7p (n:=s.heap.objs.size+1) k
   refine .inr ⟨.inl k,c,e,?_⟩
   have q:=x.cell y c e
   rw[z5t ndP hp hu (by show scope.names.lookup y≠_;rw[k];decide)]at q
   exact q
 .exact e0.hok.fresh (Nat.le_of_lt (x.above y c (PySem.mem_of_lookup h)))
 .unfold start
  show _=N.length
  rw[List.length_append,List.length_map,List.length_replicate]
  omega
theorem zB4 {CX:CXT} {P:Program} {w:World} {K:PySem.W.Frag} {mg:Str->Option Value} {base:Heap} {k:Nat} {f:Addr} {name qual:Str} {params:Arguments} {body:List Stmt} {scope:Scope} {dV kV doc pm cdv ct oc:Value} {an od:Option Addr}
 {osl:Array (Option Value)} {N ps:List Str} {sp:Sp} (lk:K.lookup f=some ⟨oc,od,.func (PySem.W.fnOf name qual params body scope dV kV doc pm an cdv ct),osl⟩) (hcd:PySem.W.codeIn K cdv qual=true) (S:FnScope N ps scope)
 (len:∀vs H Q E,sp vs H Q E->vs.length=ps.length)
 (hbody:∀(A:Around) (outer:List Env) (s:Shared) (H:Hp) (vs:List V) (Q:VK) (E:XK),Room k (A.deeper (envOfC qual scope s.heap.objs.size f cdv))->sp vs H Q E->
  ∃t,PSs (z9K CX P w K mg base N qual scope f cdv A outer s H E) body t/\t {nx:=fun _ H'=>Q .non H',rt:=Q} (start N vs) H):
 FnOk P w K mg base CX (k+1) f (PySem.W.fnOf name qual params body scope dV kV doc pm an cdv ct) ps sp:=by
 refine⟨len,fun A outer s H args us vs Q E hr e0 hb r hsp=>?_⟩
 have hl:=len _ _ _ _ hsp
 have KX:K.In s.heap:=e0.mod.kin.keeps fun b o e=>(e0.bs b o e).1
 have lim:s.heap.NoLimit:=e0.mod.nolimit.keeps fun b o e=>(e0.bs b o e).1
 have hkind:∀y∈ps.zip us,scope.names.lookup y.1=some .local\/(scope.names.lookup y.1=some .cell/\((cellsFrom (s.heap.objs.size+1) scope.names []).lookup y.1).isSome=true):=fun⟨n,v⟩ hy=>by
  rcases S.par n (List.of_mem_zip hy).1 with q|q
  .exact .inl q
  .exact .inr ⟨q,PySem.W.cellsFrom_some _ _ _ (.inl q)⟩
 refine codeAny_call_function hr.depth (KX _ _ lk) rfl S.co S.gen rfl (PySem.W.codeRec_of KX hcd) (hb _ _ _ _ ?_)
 refine wpAny_newFunctionEnv_cells S.kind hkind fun env he s1 x=>?_
 subst he
 refine⟨lim.keeps x.toInCall.keep,codeAny_func ?_⟩
 obtain⟨t,ht,hq⟩:=hbody A outer s H vs Q E (hr.deeper _) hsp
 have I:Inv (z9K CX P w K mg base N qual scope f cdv A outer s H E) [] (start N vs) H s1:=z9L S hr.hd e0 hl r x
 refine wpAny_mono (ht [] s1 (start N vs) H _ I hq) (fun fl s' hs=>?_) fun e s' hs=>hs
 have fin:∀{σ':St} {H':Hp} {v:V} {u:Value},Inv (z9K CX P w K mg base N qual scope f cdv A outer s H E) [] σ' H' s'->RelV v u->Q v H'->CE outer P w H s Q u s':=
  fun{σ' H' v u} J rv q=>⟨v,H',J.os,J.bare,J.base,J.hok,rv,q⟩
 cases fl with
 |ret u=>
  obtain⟨v,σ',H',J,rv,q⟩:=hs
  exact fin J rv q
 |next=>
  obtain⟨σ',H',J,q⟩:=hs
  exact fin (v:=V.non) (u:=Value.none) J rfl q
 |brk=>
  obtain⟨_,_,_,q⟩:=hs
  exact False.elim q
 |cont=>
  obtain⟨_,_,_,q⟩:=hs
  exact False.elim q
section
variable {X:Cx} {x:Str} {p pos:Pos} {e:Expr} {es:List Expr} {t:TA} {id T:String} {r:List V->Hp->VK->Prop}
def tCB (r:List V->Hp->VK->Prop) (t:TA):TE:=fun σ H Q=>t σ H fun vs H1=>r vs H1 Q
theorem z07 (hc:z2a X (.builtin id) r) (hg:Gl X x) (hm:X.mg x=none) (hv:bootBuiltins x=some (.builtin id)) (ha:PA X (e::es) t) (hn:x≠"__name__":=by decide) (hdb:(x==("__debug__":Str))=false:=by decide)
 (he:starEach (e::es) X.env=(false,eval e X.env)::starEach es X.env:=by rfl) (hpl:(backTo pos (starEach es X.env)).any (·.1)=false:=by rfl):PE X (.Call (.Name x p) (e::es) [] pos) (tCB r t):=by
 intro pins s σ H Q I h
 refine wpAny_Call_Name_kw (z2r I hg hm hv ?_ hn hdb)
 exact PyProof.Rows.callWith_builtin1 (thn (ha pos pins s σ H _ I h) fun us s1 ⟨vs,H1,I1,r1,q1⟩=>hc pins s1 σ H1 vs us Q I1 r1 q1) he hpl
theorem z0w (hc:z2a X (.type T) r) (hg:Gl X x) (hm:X.mg x=none) (hv:bootBuiltins x=some (.type T)) (ha:PA X (e::es) t) (hn:x≠"__name__":=by decide) (hdb:(x==("__debug__":Str))=false:=by decide)
 (he:starEach (e::es) X.env=(false,eval e X.env)::starEach es X.env:=by rfl) (hpl:(backTo pos (starEach es X.env)).any (·.1)=false:=by rfl):PE X (.Call (.Name x p) (e::es) [] pos) (tCB r t):=by
 intro pins s σ H Q I h
 refine wpAny_Call_Name_kw (z2r I hg hm hv ?_ hn hdb)
 exact PyProof.Rows.callWith_type1 (thn (ha pos pins s σ H _ I h) fun us s1 ⟨vs,H1,I1,r1,q1⟩=>hc pins s1 σ H1 vs us Q I1 r1 q1) he hpl
end
end L2
namespace HT
open PySem PyProof.Rows
section
open PySem.SeqAt
open PySem.AutoSeq1 (wpAny_loadPart')
open PySem.MeetsSeq PySem.MeetsSeq2 PySem.MeetsSeq3
end
section
variable {prog:Program} {w:World} {A:Around} {E:Value->Shared->Prop} {s:Shared}
theorem cat_tup {t b:Addr} {vs ws:List Value} {Q:Value->Shared->Prop} (ht:IsTup s.heap t vs.toArray) (hb:IsTup s.heap b ws.toArray) (hv:vs≠[])
 (h1:ws=[]->Q (.ref t) s) (h2:ws≠[]->Q (.ref s.heap.objs.size) {s with heap:=s.heap.push {cls:=.type "tuple",data:=.seq (vs++ws).toArray}})
 (hsz:vs.length+ws.length<=sizeLine):wpAny (model prog w) A (binaryOp .Add (.ref t) (.ref b)) Q E s:=by
 obtain⟨⟨cls,dd,data,sl⟩,ho,hc,n,hd⟩:=id ht
 obtain⟨⟨cls2,dd2,data2,sl2⟩,ho2,hc2,n2,hd2⟩:=id hb
 simp only at hc hd hc2 hd2
 subst hc hd hc2 hd2
 have e:vs.toArray++ws.toArray=(vs++ws).toArray:=by simp
 by_cases hw:ws=[]
 .exact concat_meets ⟨_,ho,rfl⟩ ⟨_,ho2,rfl⟩ noFill_tuple_add seq_tuple_add PySem.F.slot_tuple_add PySem.F.entry_tuple_add (PySem.F.args_tuple_add_2 _ _)
   (tuple_addW1 t b vs.toArray ws.toArray n n2 dd dd2 sl sl2 (by simpa using hv) (by simp[hw])) ⟨ho,ho2,h1 hw⟩
 .refine concat_meets ⟨_,ho,rfl⟩ ⟨_,ho2,rfl⟩ noFill_tuple_add seq_tuple_add PySem.F.slot_tuple_add PySem.F.entry_tuple_add (PySem.F.args_tuple_add_2 _ _)
   (tuple_addW2 t b vs.toArray ws.toArray n n2 dd dd2 sl sl2 (by simpa using hv) (by simpa using hw) (by rw[List.size_toArray,List.size_toArray];exact hsz)) ⟨ho,ho2,?_⟩
  rw[e]
  exact h2 hw
noncomputable def sIx (n d:Nat):Option Int->Nat
 |none=>d
 |some v=>if v<0 then(v+(n:Int)).toNat else min v.toNat n
theorem sIx_le (n d:Nat) (hd:d<=n) (o:Option Int):sIx n d o<=n:=by
 cases o with
 |none=>exact hd
 |some v=>
  show(if v<0 then(v+(n:Int)).toNat else min v.toNat n)<=n
  by_cases hv:v<0
  .rw[if_pos hv];omega
  .rw[if_neg hv];exact Nat.min_le_right _ _
end
end HT
namespace L2
open PySem PySem.Spec PyProof.Rows
abbrev TO:=St->Hp->(Option Int->Hp->Prop)->Prop
def PO (X:Cx) (e:Option Expr) (t:TO):Prop:=
 ∀(pins:List (Addr × Obj)) (s:Shared) (σ:St) (H:Hp) (Q:Option Int->Hp->Prop),Inv X pins σ H s->t σ H Q->
  wpAny (model X.prog X.w) X.A (evalPart e X.env) (fun u s'=>∃o H',Inv X pins σ H' s'/\IsPart u o/\Q o H') X.xe s
def zCP:TO:=fun _ H Q=>Q none H
def zEJ (t:TE):TO:=fun σ H Q=>t σ H fun x H1=>∃i,x=.int i/\Q (some i) H1
section
variable {X:Cx} {e:Expr} {te:TE} {lo hi:Option Expr} {tl th:TO} {pos p2:Pos}
theorem z6p:PO X none zCP:=by
 intro pins s σ H Q I h
 rw[evalPart_none]
 exact wpAny_pure ⟨none,H,I,.none,h⟩
theorem z47 (h:PE X e te):PO X (some e) (zEJ te):=by
 intro pins s σ H Q I hw
 rw[evalPart_some]
 refine thn (h pins s σ H _ I hw) fun u s1 ⟨x,H1,I1,r1,q1⟩=>?_
 obtain⟨i,rfl,q⟩:=q1
 obtain⟨t,rfl⟩:=r1
 exact⟨some i,H1,I1,.int i t,q⟩
def SlR (X:Cx) (r:V->Option Int->Option Int->Hp->VK->Prop):Prop:=
 ∀(pins:List (Addr × Obj)) (s:Shared) (σ:St) (H:Hp) (x:V) (v vl vu:Value) (lo hi:Option Int) (sl:Addr) (Q:VK),Inv X pins σ H s->RelV x v->s.heap.IsSliceOf sl vl vu .none->IsPart vl lo->IsPart vu hi->r x lo hi H Q->
  ∃T id,typeLookup (.type T) "__getitem__"=pure (some (.builtin id))/\s.TypeIs v T/\wpAny (model X.prog X.w) X.A (getItem v (.ref sl)) (EP X pins σ Q) X.xe s
def tSl (r:V->Option Int->Option Int->Hp->VK->Prop) (te:TE) (tl th:TO):TE:=fun σ H Q=>te σ H fun x H1=>tl σ H1 fun l H2=>th σ H2 fun u H3=>r x l u H3 Q
theorem z3o {r:V->Option Int->Option Int->Hp->VK->Prop} (hr:SlR X r) (he:PE X e te) (hl:PO X lo tl) (hu:PO X hi th):PE X (.Subscript e (.Slice lo hi none p2) pos) (tSl r te tl th):=by
 intro pins s σ H Q I h
 refine Subscript_ (thn (he pins s σ H _ I h) fun v s1 ⟨x,H1,I1,r1,q1⟩=>?_)
 refine wpAny_Slice (thn (hl pins s1 σ H1 _ I1 q1) fun vl s2 ⟨l,H2,I2,pl,q2⟩=>thn (hu pins s2 σ H2 _ I2 q2) fun vu s3 ⟨u,H3,I3,pu,q3⟩=>?_)
 rw[evalPart_none]
 refine wpAny_pure ?_
 have I4:Inv X pins σ H3 {s3 with heap:=s3.heap.push {cls:=.type "slice",data:=.fields #[vl,vu,.none]}}:=I3.kept (t':=s3.toks) fun b ob q=>Heap.get?_push_of_some _ q
 obtain⟨T,id,hT,ht,hg⟩:=hr pins {s3 with heap:=s3.heap.push {cls:=.type "slice",data:=.fields #[vl,vu,.none]}} σ H3 x v vl vu l u s3.heap.objs.size Q I4 r1 (Heap.IsSliceOf.new ..) pl pu q3
 show wpAny (model X.prog X.w) X.A (subscriptTail e (.Slice lo hi none p2) v (.ref s3.heap.objs.size)) (EP X pins σ Q) X.xe {s3 with heap:=s3.heap.push {cls:=.type "slice",data:=.fields #[vl,vu,.none]}}
 exact tail_any (ops:=[.ref s3.heap.objs.size,v]) ht hT hg (by with_unfolding_all rfl)
noncomputable def zD9 (xs:List V) (lo hi:Option Int):List V:=(xs.drop (HT.sIx xs.length 0 lo)).take (HT.sIx xs.length xs.length hi-HT.sIx xs.length 0 lo)
theorem z6q (xs:List V) (lo hi:Option Int):(zD9 xs lo hi).length<=xs.length:=by
 unfold zD9
 rw[List.length_take,List.length_drop]
 omega
def zEK (K:PySem.W.Frag):R2:=fun x y H Q=>∃a b xs ys,x=.ref a/\y=.ref b/\SqT K H a xs/\SqT K H b ys/\xs≠[]/\xs.length+ys.length<=sizeLine/\
 (ys=[]->Q (.ref a) H)/\(ys≠[]->∀p,H p=none->Q (.ref p) (upd H p (.tup (xs++ys))))
theorem Vals.nil_iff {xs:List V} {us:List Value} (r:Vals xs us):us=[]↔xs=[]:=by
 cases r with
 |nil=>simp
 |cons _ _=>simp
theorem zCQ:OpR X (binaryOp .Add) (zEK X.K):=by
 intro pins s σ H x y v u Q I rx ry h
 obtain⟨a,b,xs,ys,rfl,rfl,ha,hb,hx,hz,q1,q2⟩:=h
 cases rx
 cases ry
 obtain⟨its,r1,p1,_⟩:=I.tuple ha
 obtain⟨its2,r2,p2,_⟩:=I.tuple hb
 refine HT.cat_tup p1 p2 (fun z=>hx (r1.nil_iff.mp z)) (fun z=>⟨.ref a,H,I,rfl,q1 (r2.nil_iff.mp z)⟩) (fun z=>?_) (by rw[<-r1.length,<-r2.length];exact hz)
 refine⟨.ref s.heap.objs.size,_,I.laid (t':=s.toks) (o:=.tup (xs++ys)) (fun b ob q=>Heap.get?_push_of_some _ q) (Nat.le_refl _) ?_,rfl,q2 (fun w=>z (r2.nil_iff.mpr w)) _ (I.hok.fresh (Nat.le_refl _))⟩
 exact⟨by rw[List.length_append];exact hz,_,r1.append r2,IsTup.new _ _⟩
end
noncomputable def ixN (n:Nat) (i:Int):Option Nat:=if 0<=i then(if i<n then some i.toNat else none)else if-(n:Int)<=i then some (i+n).toNat else none
noncomputable def atI {α:Type} (xs:List α) (i:Int):Option α:=(ixN xs.length i).bind fun j=>xs[j]?
theorem z9M {n:Nat} {i:Int} {j:Nat} (h:ixN n i=some j):seqIndex? i n=some j/\j<n/\ -(n:Int)<=i/\i<n:=by
 unfold ixN at h
 by_cases h0:0<=i
 .rw[if_pos h0]at h
  by_cases h1:i<n
  .rw[if_pos h1]at h
   have e:i.toNat=j:=Option.some.inj h
   exact⟨by rw[seqIndex_of h0 h1,e],by omega,by omega,h1⟩
  .rw[if_neg h1]at h;cases h
 .rw[if_neg h0]at h
  by_cases h1: -(n:Int)<=i
  .rw[if_pos h1]at h
   have e:(i+n).toNat=j:=Option.some.inj h
   exact⟨by rw[seqIndex_neg (by omega) h1,e],by omega,h1,by omega⟩
  .rw[if_neg h1]at h;cases h
theorem z6r {α:Type} {xs:List α} {i:Int} {v:α} (h:atI xs i=some v):∃j,seqIndex? i xs.length=some j/\xs[j]?=some v/\j<xs.length/\ -(xs.length:Int)<=i/\i<xs.length:=by
 unfold atI at h
 cases e:ixN xs.length i with
 |none=>rw[e]at h;cases h
 |some j=>
  rw[e]at h
  obtain⟨h1,h2,h3,h4⟩:=z9M e
  exact⟨j,h1,h,h2,h3,h4⟩
theorem z0x {α:Type} {xs:List α} {j:Nat} {v:α} (h:xs[j]?=some v):atI xs (j:Int)=some v:=by
 have hj:j<xs.length:=(List.getElem?_eq_some_iff.mp h).1
 have e:ixN xs.length (j:Int)=some j:=by
  unfold ixN
  rw[if_pos (by omega),if_pos (by omega)];simp
 unfold atI;rw[e];exact h
def zCR (b:Expr):Prop:=∀o i,subscripted b false o i=operate [o,i] (getItem o i)
def IxR (X:Cx) (r:R2):Prop:=
 ∀(value slice:Expr) (pins:List (Addr × Obj)) (s:Shared) (σ:St) (H:Hp) (x y:V) (v u:Value) (Q:VK),Inv X pins σ H s->RelV x v->RelV y u->r x y H Q->
  subscripted slice false v u=operate [v,u] (getItem v u)->wpAny (model X.prog X.w) X.A (subscriptTail value slice v u) (EP X pins σ Q) X.xe s
def MtR (X:Cx) (id:String) (r:V->List V->Hp->VK->Prop):Prop:=
 ∀(pins:List (Addr × Obj)) (s:Shared) (σ:St) (H:Hp) (x:V) (xs:List V) (v:Value) (us:List Value) (Q:VK),Inv X pins σ H s->RelV x v->Vals xs us->r x xs H Q->
  wpAny (model X.prog X.w) X.A (call (.builtin id) (v::us)) (EP X pins σ Q) X.xe s
section
variable {X:Cx} {a b:Expr} {ta tb:TE} {pos:Pos}
theorem IxR.or {r r':R2} (h:IxR X r) (h':IxR X r'):IxR X (fun x y H Q=>r x y H Q\/r' x y H Q):=by
 intro value slice pins s σ H x y v u Q I rx ry q hs
 rcases q with q|q
 .exact h value slice pins s σ H x y v u Q I rx ry q hs
 .exact h' value slice pins s σ H x y v u Q I rx ry q hs
theorem z0C {r:R2} (hr:IxR X r) (ha:PE X a ta) (hb:PE X b tb) (hs:zCR b):PE X (.Subscript a b pos) (tOp r ta tb):=by
 intro pins s σ H Q I h
 exact Subscript_ (zEH ha hb I h fun v u s2 x y H2 I2 rx ry q=>hr a b pins s2 σ H2 x y v u Q I2 rx ry q (hs _ _))
def zEL (K:PySem.W.Frag):R2:=fun x y H Q=>∃p xs i v,x=.ref p/\y=.int i/\SqL K H p xs/\atI xs i=some v/\Q v H
def zEM (K:PySem.W.Frag):R2:=fun x y H Q=>∃p xs i v,x=.ref p/\y=.int i/\SqT K H p xs/\atI xs i=some v/\Q v H
def zEt:R2:=fun x y H Q=>∃z i c,x=.str z/\y=.int i/\z.length<=sizeLine/\atI z.cps.toList i=some c/\Q (.str ⟨#[c]⟩) H
theorem ix_list:IxR X (zEL X.K):=by
 intro value slice pins s σ H x y v u Q I rx ry h hs
 obtain⟨p,xs,i,z,rfl,rfl,hq,he,q⟩:=h
 cases rx
 obtain⟨t,rfl⟩:=ry
 obtain⟨its,r,pl,hz⟩:=I.list hq
 obtain⟨j,h1,h2,h3,h4,h5⟩:=z6r he
 obtain⟨w,ew,rw'⟩:=r.get h2
 have hl:=r.length
 have hn:=z4i
 have fin:EP X pins σ Q w s:=⟨z,H,I,rw',q⟩
 by_cases h0:0<=i
 .have hj:i.toNat=j:=by
   rw[seqIndex_of h0 h5]at h1
   exact Option.some.inj h1
  exact item_listR pl.isList h0 (by omega) (by rw[hj];simpa using ew) fin hs
 .have hj:(i+(its.toArray.size:Int)).toNat=j:=by
   rw[seqIndex_neg (by omega) h4]at h1
   rw[List.size_toArray,<-hl]
   exact Option.some.inj h1
  exact subscriptTail_builtinR (x:=w) pl.isList.typeIs slot_list_getitem.lookup
   (wpAny_getItem_list_neg (Q:=fun r s'=>r=w/\EP X pins σ Q r s') pl.isList (by omega) (by rw[List.size_toArray]<;>omega) (by omega) (by rw[hj];simpa using ew) ⟨rfl,fin⟩) hs
theorem ix_tup:IxR X (zEM X.K):=by
 intro value slice pins s σ H x y v u Q I rx ry h hs
 obtain⟨p,xs,i,z,rfl,rfl,hq,he,q⟩:=h
 cases rx
 obtain⟨t,rfl⟩:=ry
 obtain⟨its,r,pl,hz⟩:=I.tuple hq
 obtain⟨j,h1,h2,h3,h4,h5⟩:=z6r he
 obtain⟨w,ew,rw'⟩:=r.get h2
 have hl:=r.length
 have hn:=z4i
 have fin:EP X pins σ Q w s:=⟨z,H,I,rw',q⟩
 exact subscriptTail_builtinR (x:=w) pl.typeIs slot_tuple_getitem.lookup
  (getItem_tuple (j:=j) (Q:=fun r s'=>r=w/\EP X pins σ Q r s') pl (by omega) (by omega) (by rw[List.size_toArray,<-hl];exact h1) (by simpa using ew) ⟨rfl,fin⟩) hs
theorem z9N:IxR X zEt:=by
 intro value slice pins s σ H x y v u Q I rx ry h hs
 obtain⟨z,i,c,rfl,rfl,hz,he,q⟩:=h
 obtain⟨t,rfl⟩:=rx
 obtain⟨t',rfl⟩:=ry
 obtain⟨j,h1,h2,h3,h4,h5⟩:=z6r he
 have hl:z.cps.toList.length=z.length:=by simp[Str.length]
 rw[hl]at h1 h4 h5
 have hn:=z4i
 exact tail_any (typeIs_str s z t) slot_str_getitem.lookup (getItem_str (c:=c) (by
  have e1:decide (i< -(2^63:Int))=false:=decide_eq_false (by omega)
  have e2:decide (i≥2^63)=false:=decide_eq_false (by omega)
  rw[e1,e2,Bool.or_false]) (by rw[h1];simpa using h2) ⟨.str ⟨#[c]⟩,H,I.tok _,⟨_,rfl⟩,q⟩) hs
def rIx (K:PySem.W.Frag):R2:=fun x y H Q=>zEL K x y H Q\/zEM K x y H Q\/zEt x y H Q
theorem z48:IxR X (rIx X.K):=ix_list.or (ix_tup.or z9N)
theorem z8U (its:List Value) (n j:Nat) (u:Value):Obj.mapSeq (·.setIfInBounds j u) {cls:=.type "list",data:=.seq its.toArray n}={cls:=.type "list",data:=.seq (its.set j u).toArray n}:=by
 simp[Obj.mapSeq]
theorem Inv.lst {pins:List (Addr × Obj)} {σ:St} {H:Hp} {s:Shared} {p:Addr} {xs:List V} (I:Inv X pins σ H s) (h:H p=some (.lst xs)):
 ∃(its:List Value) (n:Nat),Vals xs its/\s.heap.get? p=some {cls:=.type "list",data:=.seq its.toArray n}/\xs.length<=sizeLine:=by
 obtain⟨z,its,n,r,e⟩:=I.hok p _ h
 exact⟨its,n,r,e,z⟩
theorem Inv.lstUpd {pins:List (Addr × Obj)} {σ:St} {H:Hp} {s:Shared} {p:Addr} {xs ys:List V} {its its':List Value} {n n':Nat} {f:Obj->Obj} (I:Inv X pins σ H s) (h:H p=some (.lst xs))
 (ho:s.heap.get? p=some {cls:=.type "list",data:=.seq its.toArray n}) (hf:f {cls:=.type "list",data:=.seq its.toArray n}={cls:=.type "list",data:=.seq its'.toArray n'}) (r:Vals ys its') (hz:ys.length<=sizeLine) (t:Nat):
 Inv X pins σ (upd H p (.lst ys)) {s with heap:=s.heap.update p f,toks:=t}:=by
 have e:(s.heap.update p f).get? p=some {cls:=.type "list",data:=.seq its'.toArray n'}:=by
  rw[Heap.get?_update_self f ho (by rw[hf]<;>rfl),hf]
 refine I.write (x:=p) (e:=p) (by rw[h];trivial) (.inl rfl) (fun b u hb q=>(Heap.get?_update_other _ _ (Ne.symm hb)).trans q) ⟨_,e⟩ ?_
 exact⟨hz,its',n',r,e⟩
def zEN:V->V->V->Hp->(Hp->Prop)->Prop:=fun o i v H Q=>∃p xs k j,o=.ref p/\i=.int k/\H p=some (.lst xs)/\ixN xs.length k=some j/\Q (upd H p (.lst (xs.set j v)))
theorem set_list:zEp X zEN:=by
 intro pins s σ H o i v ov iv u Q I ro ri rv h
 obtain⟨p,xs,k,j,rfl,rfl,hp,hj,q⟩:=h
 cases ro
 obtain⟨t,rfl⟩:=ri
 obtain⟨its,n,r,ho,hz⟩:=I.lst hp
 obtain⟨h1,h2,h3,h4⟩:=z9M hj
 have hl:=r.length
 have hn:=z4i
 have I':Inv X pins σ (upd H p (.lst (xs.set j v))) {s with heap:=s.heap.update p (Obj.mapSeq (·.setIfInBounds j u))}:=
  I.lstUpd hp ho (z8U its n j u) (r.set rv j) (by rw[List.length_set];exact hz) s.toks
 by_cases h0:0<=k
 .have hk:k.toNat=j:=by
   rw[seqIndex_of h0 h4]at h1
   exact Option.some.inj h1
  exact PySem.W.ki_setAt ho h0 (by omega) (by rw[List.size_toArray,<-hl];exact h4) (by rw[hk];exact⟨_,I',q⟩)
 .have hk:(k+(its.toArray.size:Int)).toNat=j:=by
   rw[seqIndex_neg (by omega) h3]at h1
   rw[List.size_toArray,<-hl]
   exact Option.some.inj h1
  exact PySem.W.ki_setBack ho (by omega) (by rw[List.size_toArray,<-hl];exact h3) (by omega) (by rw[hk];exact⟨_,I',q⟩)
theorem z5u (lo hi:Option Int) (n:Nat):(sliceBounds lo hi none n).1=((HT.sIx n 0 lo:Nat):Int)/\(sliceBounds lo hi none n).2.1=((HT.sIx n n hi:Nat):Int)/\(sliceBounds lo hi none n).2.2=1:=by
 refine⟨?_,?_,rfl⟩
 .cases lo with
  |none=>simp[sliceBounds,HT.sIx]
  |some i=>
   simp only[sliceBounds,HT.sIx,Option.getD_none,show(1:Int)>0 by decide,if_true]
   by_cases h:i<0
   .simp only[h,if_true]<;>omega
   .simp only[h,if_false]<;>omega
 .cases hi with
  |none=>simp[sliceBounds,HT.sIx]
  |some i=>
   simp only[sliceBounds,HT.sIx,Option.getD_none,show(1:Int)>0 by decide,if_true]
   by_cases h:i<0
   .simp only[h,if_true]<;>omega
   .simp only[h,if_false]<;>omega
theorem z58 (its:List Value) (lo hi:Option Int):slicePick its.toArray lo hi none=((its.drop (HT.sIx its.length 0 lo)).take (HT.sIx its.length its.length hi-HT.sIx its.length 0 lo)).toArray:=by
 obtain⟨h1,h2,h3⟩:=z5u lo hi its.toArray.size
 unfold slicePick
 rw[h1,h2,h3]
 simp only[sliceRange_one,pick_run,List.size_toArray]<;>rfl
def zFC (K:PySem.W.Frag):V->Option Int->Option Int->Hp->VK->Prop:=fun x lo hi H Q=>∃a xs,x=.ref a/\SqL K H a xs/\∀p,H p=none->Q (.ref p) (upd H p (.lst (zD9 xs lo hi)))
theorem z9O:SlR X (zFC X.K):=by
 intro pins s σ H x v vl vu lo hi sl Q I rx hs pl pu h
 obtain⟨a,xs,rfl,hx,q⟩:=h
 cases rx
 obtain⟨its,r,ht,hz⟩:=I.list hx
 have hlen:=r.length
 refine⟨"list",_,slot_list_getitem.lookup,ht.isList.typeIs,?_⟩
 refine wpAny_getItem_list_slice ht.isList hs pl pu .none (by simp) ?_ (by rw[List.size_toArray]<;>omega)
 rw[z58,<-hlen]
 refine⟨.ref s.heap.objs.size,_,I.laid (t':=s.toks) (o:=.lst (zD9 xs lo hi)) (fun b ob q=>Heap.get?_push_of_some _ q) (Nat.le_refl _) ?_,rfl,q _ (I.hok.fresh (Nat.le_refl _))⟩
 exact⟨Nat.le_trans (z6q xs lo hi) hz,_,0,(r.drop (HT.sIx xs.length 0 lo)).take (HT.sIx xs.length xs.length hi-HT.sIx xs.length 0 lo),Heap.get?_push_size _ rfl⟩
theorem z0F:z2a X (.builtin "len") (fun xs H Q=>∃p ys,xs=[.ref p]/\(SqL X.K H p ys\/SqT X.K H p ys)/\Q (.int ys.length) H):=by
 intro pins s σ H xs us Q I r h
 obtain⟨p,ys,rfl,hq,q⟩:=h
 obtain⟨u,rfl,rx⟩:=vals1 r
 cases rx
 have hn:=z4i
 rcases hq with hq|hq
 .obtain⟨its,r',pl,hz⟩:=I.list hq
  have hlen:=r'.length
  exact Calls.call_len_list pl.isList (by simp only[List.size_toArray]<;>omega) ⟨.int ys.length,H,I.tok _,⟨s.toks+1,by rw[List.size_toArray,hlen]⟩,q⟩
 .obtain⟨its,r',pl,hz⟩:=I.tuple hq
  have hlen:=r'.length
  exact len_tuple pl (by simp only[List.size_toArray]<;>omega) ⟨.int ys.length,H,I.tok _,⟨s.toks+1,by rw[List.size_toArray,hlen]⟩,q⟩
theorem z2e:z2a X (.builtin "len") (fun xs H Q=>∃z,xs=[.str z]/\z.length<=sizeLine/\Q (.int z.length) H):=by
 intro pins s σ H xs us Q I r h
 obtain⟨z,rfl,hz,q⟩:=h
 obtain⟨u,rfl,t,rfl⟩:=vals1 r
 have hn:=z4i
 exact len_str (by omega) ⟨.int z.length,H,I.tok _,⟨_,rfl⟩,q⟩
theorem z3d:z2a X (.type "list") (fun xs H Q=>∃p ys,xs=[.ref p]/\(SqL X.K H p ys\/SqT X.K H p ys)/\∀l,H l=none->Q (.ref l) (upd H l (.lst ys))):=by
 intro pins s σ H xs us Q I r h
 obtain⟨p,ys,rfl,hq,q⟩:=h
 obtain⟨u,rfl,rx⟩:=vals1 r
 cases rx
 have fin:∀(its:List Value),Vals ys its->ys.length<=sizeLine->∀(h':Heap) (c':Nat),(∀b o',s.heap.get? b=some o'->h'.get? b=some o')->
  h'.get? s.heap.objs.size=some {cls:=.type "list",dict:=none,data:=.seq its.toArray c',slots:=#[]}->EP X pins σ Q (.ref s.heap.objs.size) {s with heap:=h'}:=fun its r' hz h' c' kp e=>
  ⟨.ref s.heap.objs.size,_,I.laid (t':=s.toks) kp (Nat.le_refl _) (show ObjOk X.prog X.w _ h' _ (.lst ys)from⟨hz,its,c',r',e⟩),rfl,q _ (I.hok.fresh (Nat.le_refl _))⟩
 rcases hq with hq|hq
 .obtain⟨its,r',pl,hz⟩:=I.list hq
  have hlen:=r'.length
  obtain⟨o,ho,hc,n,hd⟩:=pl.isList
  exact call_list_seq p (.inl rfl) ho hc hd (fun h' c' kp e=>fin its r' hz h' c' kp e) (by simp only[List.size_toArray]<;>omega)
 .obtain⟨its,r',pl,hz⟩:=I.tuple hq
  have hlen:=r'.length
  obtain⟨o,ho,hc,n,hd⟩:=pl
  exact call_list_seq p (.inr rfl) ho hc hd (fun h' c' kp e=>fin its r' hz h' c' kp e) (by simp only[List.size_toArray]<;>omega)
theorem z1E:z2a X (.type "tuple") (fun xs H Q=>∃p ys,xs=[.ref p]/\((SqL X.K H p ys/\∀l,H l=none->Q (.ref l) (upd H l (.tup ys)))\/(SqT X.K H p ys/\Q (.ref p) H))):=by
 intro pins s σ H xs us Q I r h
 obtain⟨p,ys,rfl,h⟩:=h
 obtain⟨u,rfl,rx⟩:=vals1 r
 cases rx
 rcases h with⟨hq,q⟩|⟨hq,q⟩
 .obtain⟨its,r',pl,hz⟩:=I.list hq
  have hlen:=r'.length
  refine call_tuple_list pl.isList (fun h' kp=>?_) (by simp only[List.size_toArray]<;>omega)
  have I1:Inv X pins σ H {s with heap:=h'}:=I.kept (t':=s.toks) kp
  have I2:Inv X pins σ (upd H h'.objs.size (.tup ys)) {s with heap:=h'.push {cls:=.type "tuple",data:=.seq its.toArray}}:=
   I1.laid (t':=s.toks) (fun b o e=>Heap.get?_push_of_some _ e) (Nat.le_refl _) (show ObjOk X.prog X.w _ _ _ (.tup ys)from⟨hz,its,r',IsTup.new _ _⟩)
  exact⟨.ref h'.objs.size,_,I2,rfl,q _ (I1.hok.fresh (Nat.le_refl _))⟩
 .obtain⟨its,r',pl,hz⟩:=I.tuple hq
  exact call_tuple_same pl ⟨.ref p,H,I,rfl,q⟩
def tyV (K:PySem.W.Frag) (T:String) (x:V) (H:Hp):Prop:=match x with
 |.str _=>T="str"
 |.int _=>T="int"
 |.ref p=>(T="list"/\∃xs,SqL K H p xs)\/(T="tuple"/\∃o,K.lookup p=some o/\o.cls=.type "tuple"/\o.dict=none)\/
  (T="dict"/\((∃kvs,H p=some (.dK kvs))\/∃kvs,H p=some (.dT kvs)))\/(T="set"/\∃S n,H p=some (.set S n))
 |_=>False
theorem z9P {pins:List (Addr × Obj)} {σ:St} {H:Hp} {s:Shared} {T:String} {x:V} {v:Value} (I:Inv X pins σ H s) (r:RelV x v) (ty:tyV X.K T x H):
 s.TypeIs v T/\∀a,v=.ref a->∃ob,s.heap.get? a=some ob/\ob.dict=none:=by
 cases x with
 |str z=>
  obtain⟨t,rfl⟩:=r
  cases (show T="str" from ty)
  exact⟨typeIs_str s z t,fun _ e=>nomatch e⟩
 |int i=>
  obtain⟨t,rfl⟩:=r
  cases (show T="int" from ty)
  exact⟨typeIs_int s i t,fun _ e=>nomatch e⟩
 |ref p=>
  cases r
  rcases ty with⟨rfl,xs,hq⟩|⟨rfl,o,hk,hc,hd⟩|⟨rfl,hk⟩|⟨rfl,S,n,hk⟩
  .obtain⟨its,_,pl,_⟩:=I.list hq
   refine⟨pl.isList.typeIs,fun a e=>?_⟩
   cases e
   obtain⟨o,n,e,c,hd,_⟩:=pl
   exact⟨o,e,hd⟩
  .refine⟨⟨o,I.kIn p o hk,hc⟩,fun a e=>?_⟩
   cases e
   exact⟨o,I.kIn _ o hk,hd⟩
  .have z:∃o,s.heap.get? p=some o/\o.ExactDict:=by
    rcases hk with⟨kvs,hk⟩|⟨kvs,hk⟩
    .obtain⟨_,_,_,_,o,_,_,e,ex,_⟩:=I.hok p _ hk
     exact⟨o,e,ex⟩
    .obtain⟨_,_,_,_,o,_,_,e,ex,_⟩:=I.hok p _ hk
     exact⟨o,e,ex⟩
   obtain⟨o,e,ex⟩:=z
   refine⟨⟨o,e,ex.1⟩,fun a e2=>?_⟩
   cases e2
   exact⟨o,e,ex.2.1⟩
  .obtain⟨o,_,_,_,e,ex,_⟩:=I.hok p _ hk
   refine⟨⟨o,e,ex.1⟩,fun a e2=>?_⟩
   cases e2
   exact⟨o,e,ex.2.1⟩
 |_=>exact False.elim ty
def zFD (K:PySem.W.Frag) (T:String) (r:V->List V->Hp->VK->Prop) (to:TE):TE:=fun σ H Q=>to σ H fun x H1=>tyV K T x H1/\r x [] H1 Q
def tBM (K:PySem.W.Frag) (T:String) (r:V->List V->Hp->VK->Prop) (to:TE) (t:TA):TE:=fun σ H Q=>to σ H fun x H1=>tyV K T x H1/\t σ H1 fun xs H2=>r x xs H2 Q
variable {o e:Expr} {es:List Expr} {to:TE} {t:TA} {name:Str} {apos cpos:Pos} {T id:String} {r:V->List V->Hp->VK->Prop}
theorem zDK (pa:PlainAttrs T) (slot:Slot T name id) (hty:typeOf (.builtin id)=pure (.type "method_descriptor")) (hm:MtR X id r) (ho:PE X o to)
 (hbase:attributeBase o name X.env (eval o X.env)=eval o X.env:=by rfl) (hline:(apos.endLine==cpos.line)=true:=by rfl):PE X (.Call (.Attribute o name apos) [] [] cpos) (zFD X.K T r to):=by
 intro pins s σ H Q I h
 refine wpAny_Call_method0_late hbase hline (thn (ho pins s σ H _ I h) fun v s1 ⟨x,H1,I1,r1,ty,q1⟩=>?_)
 obtain⟨h1,h2⟩:=z9P I1 r1 ty
 exact⟨T,id,pa,slot,hty,h1,h2,Calls.callWith_builtin rfl (PySem.evalArgs_none (hm pins s1 σ H1 x [] v [] Q I1 r1 .nil q1))⟩
theorem z3i (pa:PlainAttrs T) (slot:Slot T name id) (hty:typeOf (.builtin id)=pure (.type "method_descriptor")) (hm:MtR X id r) (ho:PE X o to) (ha:PA X (e::es) t)
 (hbase:attributeBase o name X.env (eval o X.env)=eval o X.env:=by rfl)
 (hfew:((backTo cpos (starEach (e::es) X.env)).all (fun x=>!x.1)&&(backToKw cpos (keywordEach [] X.env)).all (fun x=>x.1.isSome)
  &&decide ((e::es).length+([]:List Keyword).length+(if([]:List Keyword).isEmpty then 0 else 1)<30))=true:=by rfl)
 (hline:(apos.endLine==cpos.line)=true:=by rfl) (hs:starEach (e::es) X.env=(false,eval e X.env)::starEach es X.env:=by rfl) (hplain:(backTo cpos (starEach es X.env)).any (·.1)=false:=by rfl):
 PE X (.Call (.Attribute o name apos) (e::es) [] cpos) (tBM X.K T r to t):=by
 intro pins s σ H Q I h
 refine wpAny_Call_method_late hbase hfew hline rfl (thn (ho pins s σ H _ I h) fun v s1 ⟨x,H1,I1,r1,ty,q1⟩=>?_)
 obtain⟨h1,h2⟩:=z9P I1 r1 ty
 refine⟨T,id,pa,slot,hty,h1,h2,?_⟩
 have hA:=ha cpos pins s1 σ H1 _ I1 q1
 rw[hs]at hA⊢
 refine Calls.callWith_builtin (by show(false||(backTo cpos (starEach es X.env)).any (·.1))=false;rw[hplain]<;>rfl) (Calls.evalArgs_plain ?_)
 exact thn hA fun us s2 ⟨vs,H2,I2,r2,q2⟩=>hm pins s2 σ H2 x vs v us Q I2 r1 r2 q2
end
def MtM (X:Cx) (id:String) (r:V->List V->Hp->VK->Prop):Prop:=
 ∀(pins:List (Addr × Obj)) (s:Shared) (σ:St) (H:Hp) (x:V) (xs:List V) (v:Value) (us:List Value) (Q:VK),Inv X pins σ H s->RelV x v->Vals xs us->r x xs H Q->
  wpAny (model X.prog X.w) X.A (call (.builtin id) (v::us)) (EP X pins σ Q) X.xe s
theorem Vals.one:∀{x:V} {us:List Value},Vals [x] us->∃u,us=[u]/\RelV x u
 |_,_,.cons r .nil=>⟨_,rfl,r⟩
theorem Vals.zero:∀{us:List Value},Vals [] us->us=[]
 |_,.nil=>rfl
theorem Vals.rep {xs:List V} {us:List Value} (h:Vals xs us):∀k:Nat,Vals (List.replicate k xs).flatten (List.replicate k us).flatten
 |0=>.nil
 |k+1=>by
  rw[List.replicate_succ,List.replicate_succ,List.flatten_cons,List.flatten_cons]
  exact Vals.append h (Vals.rep h k)
theorem foldl_rep (its:List Value):∀(k:Nat) (acc:List Value),
 List.foldl (fun x1 x2=>x1++x2) acc.toArray (List.replicate k its.toArray)=(acc++(List.replicate k its).flatten).toArray
 |0,acc=>by simp
 |k+1,acc=>by
  have e:acc.toArray++its.toArray=(acc++its).toArray:=by simp
  have e2:(acc++its)++(List.replicate k its).flatten=acc++(List.replicate (k+1) its).flatten:=by
   rw[List.replicate_succ,List.flatten_cons,List.append_assoc]
  rw[<-e2,<-foldl_rep its k (acc++its),<-e,List.replicate_succ,List.foldl_cons]
section
variable {X:Cx} {pins:List (Addr × Obj)} {σ:St} {H:Hp} {s:Shared} {l b:Addr} {xs ys zs:List V}
theorem Inv.lset {its its':List Value} {n:Nat} {f:Array Value->Array Value} {t':Nat} (I:Inv X pins σ H s) (hH:H l=some (.lst xs))
 (e:s.heap.get? l=some {cls:=.type "list",data:=.seq its.toArray n}) (hf:f its.toArray=its'.toArray) (hv:Vals ys its') (hz:ys.length<=sizeLine):
 Inv X pins σ (upd H l (.lst ys)) {s with heap:=s.heap.update l (Obj.mapSeq f),toks:=t'}:=by
 have q:=PySem.IsL.update e f
 rw[hf]at q
 refine I.write (x:=l) (e:=l) (by rw[hH];exact trivial) (.inl rfl) (fun b' u hb hu=>(Heap.get?_update_other s.heap (Obj.mapSeq f) (Ne.symm hb)).trans hu) ⟨_,q⟩ ?_
 exact⟨hz,its',_,hv,q⟩
theorem Inv.lnew {its:List Value} {t':Nat} (I:Inv X pins σ H s) (hv:Vals ys its) (hz:ys.length<=sizeLine):
 Inv X pins σ (upd H s.heap.objs.size (.lst ys)) {s with heap:=s.heap.push {cls:=.type "list",data:=.seq its.toArray},toks:=t'}:=
 I.laid (fun _ _ q=>Heap.get?_push_of_some _ q) (Nat.le_refl _) ⟨hz,its,0,hv,Heap.get?_push_size _ rfl⟩
theorem Inv.fresh (I:Inv X pins σ H s):H s.heap.objs.size=none:=I.hok.fresh (Nat.le_refl _)
theorem Inv.lstM (I:Inv X pins σ H s) (hH:H l=some (.lst xs)):xs.length<=sizeLine/\∃(its:List Value) (n:Nat),Vals xs its/\xs.length=its.length/\s.heap.get? l=some {cls:=.type "list",data:=.seq its.toArray n}:=by
 obtain⟨z,its,n,r,e⟩:=I.hok l _ hH
 exact⟨z,its,n,r,r.length,e⟩
theorem zB5 {n:Nat} (h:n<=sizeLine):Builtin.List.listTooLong n=false:=by
 unfold Builtin.List.listTooLong
 exact decide_eq_false (by omega)
end
section
variable {X:Cx}
def zCS:V->List V->Hp->VK->Prop:=fun x vs H Q=>∃l xs y,x=.ref l/\vs=[y]/\H l=some (.lst xs)/\xs.length<sizeLine/\Q .non (upd H l (.lst (xs++[y])))
theorem z0p:MtM X "list.append" zCS:=by
 intro pins s σ H x vs v us Q I rx rv h
 obtain⟨l,xs,y,rfl,rfl,hH,hz,q⟩:=h
 cases rx
 obtain⟨u,rfl,ru⟩:=rv.one
 obtain⟨z,its,n,r,hl,e⟩:=I.lstM hH
 refine call_meets F.slot_list_append ⟨_,e,rfl⟩ F.entry_list_append (F.args_list_append_2 _ _) (PySem.list_append l its.toArray n u (by rw[List.size_toArray];omega)) ⟨e,?_⟩
 refine⟨.non,_,I.lset (its':=its++[u]) hH e (by simp) (r.append (.cons ru .nil)) ?_,rfl,q⟩
 rw[List.length_append,List.length_singleton]
 omega
def zDL:V->List V->Hp->VK->Prop:=fun x vs H Q=>∃l xs,x=.ref l/\vs=[]/\H l=some (.lst xs)/\Q .non (upd H l (.lst []))
theorem zB6:MtM X "list.clear" zDL:=by
 intro pins s σ H x vs v us Q I rx rv h
 obtain⟨l,xs,rfl,rfl,hH,q⟩:=h
 cases rx
 have hus:=rv.zero
 subst hus
 obtain⟨z,its,n,r,hl,e⟩:=I.lstM hH
 refine call_meets F.slot_list_clear ⟨_,e,rfl⟩ F.entry_list_clear (F.args_list_clear_1 _) (AutoSeq1.list_clear_list_0 l its.toArray n (by rw[List.size_toArray];omega)) ⟨e,?_⟩
 exact⟨.non,_,I.lset (its':=[]) (ys:=[]) hH e rfl .nil (Nat.zero_le _),rfl,q⟩
def zFE:R2:=fun x y H Q=>∃l b xs zs,x=.ref l/\y=.ref b/\H l=some (.lst xs)/\H b=some (.lst zs)/\xs.length+zs.length<=sizeLine/\∀p,H p=none->Q (.ref p) (upd H p (.lst (xs++zs)))
theorem zDM:OpR X (binaryOp .Add) zFE:=by
 intro pins s σ H x y v u Q I rx ry h
 obtain⟨l,b,xs,zs,rfl,rfl,hH,hB,hz,q⟩:=h
 cases rx
 cases ry
 obtain⟨z,its,n,r,hl,e⟩:=I.lstM hH
 obtain⟨z2,its2,n2,r2,hl2,e2⟩:=I.lstM hB
 refine PySem.P.add_list e e2 ?_ (by rw[List.size_toArray,List.size_toArray];omega)
 have ea:its.toArray++its2.toArray=(its++its2).toArray:=by simp
 rw[ea]
 exact⟨.ref _,_,I.lnew (t':=s.toks) (r.append r2) (by rw[List.length_append];omega),rfl,q _ I.fresh⟩
def zFF:R2:=fun x y H Q=>∃l k xs,x=.ref l/\y=.int k/\H l=some (.lst xs)/\ -(2^63)<=k/\k<2^63/\xs.length*k.toNat<=sizeLine/\
 ∀p,H p=none->Q (.ref p) (upd H p (.lst (List.replicate k.toNat xs).flatten))
theorem len_rep {α:Type} (xs:List α) (k:Nat):(List.replicate k xs).flatten.length=k*xs.length:=by
 induction k with
 |zero=>simp
 |succ k ih=>rw[List.replicate_succ,List.flatten_cons,List.length_append,ih,Nat.succ_mul,Nat.add_comm]
theorem zBw:OpR X (binaryOp .Mult) zFF:=by
 intro pins s σ H x y v u Q I rx ry h
 obtain⟨l,k,xs,rfl,rfl,hH,h1,h2,hz,q⟩:=h
 cases rx
 obtain⟨t,rfl⟩:=ry
 obtain⟨z,its,n,r,hl,e⟩:=I.lstM hH
 have hlen:its.toArray.size*k.toNat<=sizeLine:=by rw[List.size_toArray,<-hl];exact hz
 have hcap:¬its.toArray.size*k.toNat>(2^63-1)/8:=by
  have:(sizeLine:Nat)<=(2^63-1)/8:=by decide
  omega
 have hfit:¬(!Builtin.List.listFitsIndex k)=true:=by
  rw[fitsIndex_both h1 h2]
  exact Bool.false_ne_true
 have hlong:¬Builtin.List.listTooLong (its.toArray.size*k.toNat)=true:=by
  rw[zB5 hlen]
  exact Bool.false_ne_true
 have hnew:List.foldl (fun x1 x2=>x1++x2) #[] (List.replicate (if its.toArray.isEmpty=true then 0 else k.toNat) its.toArray)=(List.replicate k.toNat its).flatten.toArray:=by
  have f0:∀m:Nat,List.foldl (fun x1 x2=>x1++x2) #[] (List.replicate m its.toArray)=(List.replicate m its).flatten.toArray:=fun m=>by
   have:=foldl_rep its m []
   rw[List.nil_append]at this
   exact this
  rw[f0]
  cases its with
  |nil=>simp
  |cons a r'=>rw[if_neg (by simp)]
 refine wpAny_binaryOp_repeat_ref (T:="list") (U:="int") (by decide) ⟨_,e,rfl⟩ (fun s'=>typeIs_int s' k t) noFill_list_mul F.fills_int_mul F.slot_int_rmul repeat_list F.slot_int_index.lookup
  (call_meets F.slot_int_rmul (typeIs_int s k t) F.entry_int_rmul (F.args_int_rmul_2 _ _) (int___rmul___int_list k t l its.toArray n)
   ⟨e,rfl,⟨_,e,rfl⟩,call_meets F.slot_list_mul ⟨_,e,rfl⟩ F.entry_list_mul (F.args_list_mul_2 _ _) (AutoListH.list___mul___list_int_3 l its.toArray n k t hfit hcap hlong) ⟨e,?_⟩⟩)
 rw[hnew]
 exact⟨.ref _,_,I.lnew (t':=s.toks) (r.rep k.toNat) (by rw[len_rep,Nat.mul_comm];exact hz),rfl,q _ I.fresh⟩
end
section
variable {prog:Program} {w:World} {A:Around} {E:Value->Shared->Prop} {s:Shared}
end
section
variable {X:Cx}
end
section
variable {κ:Type} [DecidableEq κ]
noncomputable def z59 (kvs:List (κ × V)) (k:κ):Option V:=(kvs.find? fun kv=>decide (kv.1=k)).map (·.2)
noncomputable def putK (kvs:List (κ × V)) (k:κ) (v:V):List (κ × V):=
 if(kvs.any fun kv=>decide (kv.1=k))=true then kvs.map (fun kv=>if kv.1=k then(kv.1,v)else kv)else kvs++[(k,v)]
theorem z7q {p:κ × V} {r:List (κ × V)} {k:κ} (e:p.1=k):z59 (p::r) k=some p.2:=by simp[z59,List.find?_cons,e]
theorem z7r {p:κ × V} {r:List (κ × V)} {k:κ} (e:¬p.1=k):z59 (p::r) k=z59 r k:=by simp[z59,List.find?_cons,e]
theorem RelO.isSome_eq {o:Option V} {u:Option Value} (r:RelO o u):o.isSome=u.isSome:=by
 cases o with
 |none=>cases u with
  |none=>rfl
  |some _=>exact(show False from r).elim
 |some _=>cases u with
  |none=>exact(show False from r).elim
  |some _=>rfl
theorem RelO.getD {o:Option V} {u:Option Value} {d:V} {d':Value} (r:RelO o u) (rd:RelV d d'):RelV (o.getD d) (u.getD d'):=by
 cases o with
 |none=>cases u with
  |none=>exact rd
  |some _=>exact(show False from r).elim
 |some _=>cases u with
  |none=>exact(show False from r).elim
  |some _=>exact r
theorem KV.val {kvs:List (κ × V)} {vs:List (κ × Value)} (r:KV kvs vs) (k:κ):RelO (z59 kvs k) (valueAt vs k):=by
 unfold KV at r
 induction r with
 |nil=>exact True.intro
 |@cons p q ps qs h t ih=>
  obtain⟨h1,h2⟩:=h
  by_cases e:p.1=k
  .have e':q.1=k:=h1.symm.trans e
   have b:valueAt (q::qs) k=some q.2:=by simp[valueAt,List.find?_cons,e']
   rw[z7q e,b];exact h2
  .have e':¬q.1=k:=fun z=>e (h1.trans z)
   have b:valueAt (q::qs) k=valueAt qs k:=by simp[valueAt,List.find?_cons,e']
   rw[z7r e,b];exact ih
theorem KV.any {kvs:List (κ × V)} {vs:List (κ × Value)} (r:KV kvs vs) (k:κ):(kvs.any fun kv=>decide (kv.1=k))=vs.any fun kv=>decide (kv.1=k):=by
 unfold KV at r
 induction r with
 |nil=>rfl
 |cons h t ih=>rw[List.any_cons,List.any_cons,ih,h.1]
theorem KV.repl {kvs:List (κ × V)} {vs:List (κ × Value)} (r:KV kvs vs) (k:κ) {y:V} {u:Value} (ry:RelV y u):
 KV (kvs.map fun kv=>if kv.1=k then(kv.1,y)else kv) (vs.map fun kv=>if kv.1=k then(kv.1,u)else kv):=by
 unfold KV at r⊢
 induction r with
 |nil=>exact .nil
 |@cons p q ps qs h t ih=>
  rw[List.map_cons,List.map_cons]
  refine .cons ?_ ih
  obtain⟨h1,h2⟩:=h
  by_cases e:p.1=k
  .rw[if_pos e,if_pos (h1.symm.trans e)];exact⟨h1,ry⟩
  .rw[if_neg e,if_neg (fun z=>e (h1.trans z))];exact⟨h1,h2⟩
theorem KV.put {kvs:List (κ × V)} {vs:List (κ × Value)} (r:KV kvs vs) (k:κ) {y:V} {u:Value} (ry:RelV y u):KV (putK kvs k y) (stored vs k u):=by
 unfold putK stored
 rw[r.any k]
 by_cases e:(vs.any fun kv=>decide (kv.1=k))=true
 .rw[if_pos e,if_pos e];exact r.repl k ry
 .rw[if_neg e,if_neg e];exact Paired.snoc r ⟨rfl,ry⟩
theorem KV.length {kvs:List (κ × V)} {vs:List (κ × Value)} (r:KV kvs vs):kvs.length=vs.length:=Paired.length r
end
theorem zB7 {P:Program} {w:World} {k:Key} {u:Value} (r:RelV (kV k) u):(z0r P w).is k u=true:=by
 cases k with
 |inl i=>obtain⟨t,e⟩:=(show∃t,u=Value.int i t from r);subst e;exact z6l P w i t
 |inr x=>obtain⟨t,e⟩:=(show∃t,u=Value.str x t from r);subst e;exact z6m P w x t
theorem z5v {P:Program} {w:World}:∀{ks:List Key} {us:List Value},Vals (ks.map kV) us->ItemsAre (z0r P w) ks us
 |[],_,r=>by rw[List.map_nil]at r;cases r;exact .nil
 |k::ks,_,r=>by
  rw[List.map_cons]at r
  cases r with
  |cons h t=>exact .cons (zB7 h) (z5v t)
abbrev KT (H:Hp):List (List Key × V)->List (List Key × Addr × Value)->Prop:=Paired fun p q=>p.1=q.1/\H q.2.1=some (.tup (p.1.map kV))/\RelV p.2 q.2.2
theorem KT.val {H:Hp} {kvs:List (List Key × V)} {xs:List (List Key × Addr × Value)} (r:KT H kvs xs) (k:List Key):RelO (z59 kvs k) ((atKey xs k).map (·.2)):=by
 induction r with
 |nil=>exact True.intro
 |@cons p q ps qs h t ih=>
  obtain⟨h1,_,h2⟩:=h
  by_cases e:p.1=k
  .have e':q.1=k:=h1.symm.trans e
   have b:atKey (q::qs) k=some q.2:=by simp[atKey,List.find?_cons,e']
   rw[z7q e,b];exact h2
  .have e':¬q.1=k:=fun z=>e (h1.trans z)
   have b:atKey (q::qs) k=atKey qs k:=by simp[atKey,List.find?_cons,e']
   rw[z7r e,b];exact ih
theorem KT.keeps {H H':Hp} {kvs:List (List Key × V)} {xs:List (List Key × Addr × Value)} (r:KT H kvs xs) (ht:∀b ys,H b=some (.tup ys)->H' b=some (.tup ys)):KT H' kvs xs:=
 Paired.mapP r fun _ _ z=>⟨z.1,ht _ _ z.2.1,z.2.2⟩
section
variable {P:Program} {w:World} {H:Hp} {h:Heap} {a:Addr}
theorem zDN {u:HO} (ok:HOk P w H h) (e:Rd H a u):ObjOk P w H h a u:=e.ok ok
theorem z9Q {kvs:List (Key × V)} (ok:HOk P w H h) (e:Rd H a (.dK kvs)):kvs.length<=sizeLine/\(a==sysModules)=false/\∃vs,KV kvs vs/\h.DictOf (z0r P w) a vs:=
 show ObjOk P w H h a (.dK kvs)from zDN ok e
theorem zEO {kvs:List (Key × V)} (ok:HOk P w H h) (e:H a=some (.dK kvs)):kvs.length<=sizeLine/\(a==sysModules)=false/\∃vs,KV kvs vs/\h.DictOf (z0r P w) a vs:=z9Q ok (.inl e)
theorem z9R {ks:List Key} (ok:HOk P w H h) (e:H a=some (.tup (ks.map kV))):(tupleKind (z0r P w)).is h ks a:=by
 obtain⟨_,its,r,o,h1,h2,n,h3⟩:=(show ObjOk P w H h a (.tup (ks.map kV))from ok a _ e)
 exact⟨o,its.toArray,n,h1,h2,h3,by simpa using z5v r⟩
theorem zCT {kvs:List (List Key × V)} (ok:HOk P w H h) (e:Rd H a (.dT kvs)):kvs.length<=sizeLine/\(a==sysModules)=false/\
 ∃xs,KT H kvs xs/\h.DictOfH (tupleKind (z0r P w)) a xs:=by
 obtain⟨z,y,xs,r,o,es,ep,h1,h2,h3,h4,h5⟩:=(show ObjOk P w H h a (.dT kvs)from zDN ok e)
 refine⟨z,y,xs,r,o,es,ep,h1,h2,h3,h4,fun x hx=>?_,h5⟩
 have all:∀{l:List (List Key × V)} {m:List (List Key × Addr × Value)},KT H l m->∀x∈m,(tupleKind (z0r P w)).is h x.1 x.2.1:=by
  intro l m q
  induction q with
  |nil=>intro x hx;exact nomatch hx
  |@cons p q ps qs hq t ih=>
   intro x hx
   rcases List.mem_cons.mp hx with e|hx
   .subst e
    exact z9R ok (by rw[<-hq.1];exact hq.2.1)
   .exact ih x hx
 exact all r x hx
end
def DGet (H:Hp) (a:Addr) (y:V) (r:Option V):Prop:=
 (∃kvs k,Rd H a (.dK kvs)/\y=kV k/\r=z59 kvs k)\/∃kvs k b,Rd H a (.dT kvs)/\y=.ref b/\H b=some (.tup (k.map kV))/\r=z59 kvs k
def DPut (H:Hp) (a:Addr) (y v:V) (H':Hp):Prop:=
 (∃kvs k,H a=some (.dK kvs)/\y=kV k/\kvs.length<sizeLine/\H'=upd H a (.dK (putK kvs k v)))\/
 ∃kvs k b,H a=some (.dT kvs)/\y=.ref b/\H b=some (.tup (k.map kV))/\kvs.length<sizeLine/\H'=upd H a (.dT (putK kvs k v))
theorem DGet.k {H:Hp} {a:Addr} {kvs:List (Key × V)} {k:Key} (e:H a=some (.dK kvs)):DGet H a (kV k) (z59 kvs k):=.inl ⟨kvs,k,.inl e,rfl,rfl⟩
theorem DGet.t {H:Hp} {a b:Addr} {kvs:List (List Key × V)} {k:List Key} (e:H a=some (.dT kvs)) (eb:H b=some (.tup (k.map kV))):DGet H a (.ref b) (z59 kvs k):=.inr ⟨kvs,k,b,.inl e,rfl,eb,rfl⟩
theorem DPut.k {H:Hp} {a:Addr} {kvs:List (Key × V)} {k:Key} {v:V} (e:H a=some (.dK kvs)) (hl:kvs.length<sizeLine):DPut H a (kV k) v (upd H a (.dK (putK kvs k v))):=.inl ⟨kvs,k,e,rfl,hl,rfl⟩
theorem DPut.t {H:Hp} {a b:Addr} {kvs:List (List Key × V)} {k:List Key} {v:V} (e:H a=some (.dT kvs)) (eb:H b=some (.tup (k.map kV))) (hl:kvs.length<sizeLine):
 DPut H a (.ref b) v (upd H a (.dT (putK kvs k v))):=.inr ⟨kvs,k,b,e,rfl,eb,hl,rfl⟩
section
variable {X:Cx} {pins:List (Addr × Obj)} {σ:St} {H:Hp} {s:Shared} {a:Addr} {y v:V} {u r:Value} {o:Option V} {A:Around} {E:Value->Shared->Prop}
theorem Inv.big (I:Inv X pins σ H s):sysModules<s.heap.objs.size:=by
 have h:mainGlobals<s.heap.objs.size:=(I.mod.glob.keeps I.bk).lt
 exact Nat.lt_trans (by decide) h
theorem z9S {Q:Value->Shared->Prop} (hu:A.units+1<cLine) (I:Inv X pins σ H s) (g:DGet H a y (some v)) (ry:RelV y u) (h:∀w' s',Inv X pins σ H s'->RelV v w'->Q w' s'):
 wpAny (model X.prog X.w) A (getItem (.ref a) u) Q E s:=by
 rcases g with⟨kvs,k,e,ey,l⟩|⟨kvs,k,b,e,ey,eb,l⟩
 .subst ey
  obtain⟨z,hd,vs,rel,dd⟩:=z9Q I.hok e
  obtain⟨w',hw,rw'⟩:=RelO.some_of (v:=v) (o:=valueAt vs k) (by rw[l];exact rel.val k)
  exact wpAny_getItem_of (zB7 ry) dd.mapOf hw (h w' _ (I.tok _) rw')
 .subst ey
  cases (show u=Value.ref b from ry)
  obtain⟨z,hd,xs,rel,dd⟩:=zCT I.hok e
  obtain⟨w',hw,rw'⟩:=RelO.some_of (v:=v) (o:=(atKey xs k).map (·.2)) (by rw[l];exact rel.val k)
  obtain⟨p,hp,hp2⟩:=Option.map_eq_some_iff.mp hw
  refine wpAny_getItem_heap (tupleKind_room_in1 hu) (z9R I.hok eb) dd hp ?_
  rw[hp2]
  exact h w' _ (I.tok _) rw'
theorem zCU {Q:Value->Shared->Prop} (hu:A.units+1<cLine) (I:Inv X pins σ H s) (g:DGet H a y o) (ry:RelV y u) (h:∀s',Inv X pins σ H s'->Q (.bool (!o.isSome)) s'):
 wpAny (model X.prog X.w) A (compareOp .NotIn u (.ref a)) Q E s:=by
 rcases g with⟨kvs,k,e,ey,l⟩|⟨kvs,k,b,e,ey,eb,l⟩
 .subst ey
  obtain⟨z,hd,vs,rel,dd⟩:=z9Q I.hok e
  refine wpAny_notIn_of (zB7 ry) hd dd.mapOf ?_
  rw[<-(rel.val k).isSome_eq,<-l]
  exact h _ (I.tok _)
 .subst ey
  cases (show u=Value.ref b from ry)
  obtain⟨z,hd,xs,rel,dd⟩:=zCT I.hok e
  refine wpAny_notIn_heap (tupleKind_room_in1 hu) (z9R I.hok eb) hd dd ?_
  have q:=(rel.val k).isSome_eq
  rw[Option.isSome_map]at q
  rw[<-q,<-l]
  exact h _ (I.tok _)
theorem zDO {P:Program} {w:World} {H':Hp} {h':Heap} {kvs:List (Key × V)} {vs:List (Key × Value)} (z:kvs.length<=sizeLine) (hd:(a==sysModules)=false) (rel:KV kvs vs) (dd:h'.DictOf (z0r P w) a vs):
 ObjOk P w H' h' a (.dK kvs):=⟨z,hd,vs,rel,dd⟩
end
section
variable {X:Cx} {pins:List (Addr × Obj)} {σ:St} {H:Hp} {s:Shared} {a:Addr} {kvs:List (Key × V)} {k:Key} {u:Value} {A:Around} {E:Value->Shared->Prop}
theorem zEP {Q:Value->Shared->Prop} (I:Inv X pins σ H s) (e:Rd H a (.dK kvs)) (h:∀t s',Inv X pins σ H s'->Q (.int kvs.length t) s'):wpAny (model X.prog X.w) A (call (.builtin "len") [.ref a]) Q E s:=by
 obtain⟨z,hd,vs,rel,dd⟩:=z9Q I.hok e
 refine call_len_dict hd dd (by rw[<-rel.length];rw[sizeLine_eq]at z;omega) ?_
 rw[<-rel.length]
 exact h _ _ (I.tok _)
end
def zEQ (i:Expr):Prop:=∀ov iv,subscripted i false ov iv=operate [ov,iv] (getItem ov iv)
theorem zCV {prog:Program} {w:World} {A:Around} {E:Value->Shared->Prop} {s:Shared} {env:Env} {value slice:Expr} {pos:Pos} {T id:String} {Q:Value->Shared->Prop}
 (hl:typeLookup (.type T) "__getitem__"=pure (some (.builtin id))) (hs:zEQ slice)
 (h:wpAny (model prog w) A (eval value env) (fun o s₁=>wpAny (model prog w) A (eval slice env) (fun i s₂=>s₂.TypeIs o T/\wpAny (model prog w) A (getItem o i) Q E s₂) E s₁) E s):
 wpAny (model prog w) A (eval (.Subscript value slice pos) env) Q E s:=by
 refine Subscript_ (wpAny_mono h (fun o s₁ h₁=>wpAny_mono h₁ (fun i s₂ h₂=>?_) fun _ _ x=>x) fun _ _ x=>x)
 obtain⟨hT,h₂⟩:=h₂
 unfold subscriptTail
 refine wpAny_bind ?_
 rw[getitemInPython_of_ne hT.not_modules]
 refine wpAny_bind (wpAny_specialOf hT hl ?_)
 have fin:wpAny (model prog w) A (subscripted slice false o i) (fun r s₃=>wpAny (model prog w) A (letTemporaryGo value o r>>=fun _=>pure r) Q E s₃) E s₂:=by
  rw[hs o i]
  exact wpAny_operating (wpAny_mono h₂ (fun r s₃ h₃=>wpAny_bind (wpAny_letTemporaryGo (wpAny_pure h₃))) fun _ _ x=>x)
 first
  |exact wpAny_pure (wpAny_bind fin)
  |exact wpAny_bind (wpAny_pure (wpAny_bind fin))
  |exact wpAny_bind fin
theorem z6s {X:Cx} {pins:List (Addr × Obj)} {σ:St} {H:Hp} {s:Shared} {a:Addr} {y:V} {o:Option V} (I:Inv X pins σ H s) (g:DGet H a y o):s.TypeIs (.ref a) "dict":=by
 rcases g with⟨kvs,k,e,_,_⟩|⟨kvs,k,b,e,_,_,_⟩
 .obtain⟨_,_,vs,_,dd⟩:=z9Q I.hok e
  exact dd.typeIs
 .obtain⟨_,_,xs,_,dd⟩:=zCT I.hok e
  exact dd.typeIs
def zDP (td ty:TE):TE:=fun σ H Q=>td σ H fun x H1=>ty σ H1 fun y H2=>∃a v,x=.ref a/\DGet H2 a y (some v)/\Q v H2
def zCW (ty td:TE):TE:=fun σ H Q=>ty σ H fun y H1=>td σ H1 fun x H2=>∃a o,x=.ref a/\DGet H2 a y o/\Q (.bl (!o.isSome)) H2
section
variable {X:Cx} {o i e value:Expr} {pos pos' tpos:Pos} {td ty tv:TE}
theorem z9T (hu:X.A.units+1<cLine) (ho:PE X o td) (hi:PE X i ty) (hs:zEQ i):PE X (.Subscript o i pos) (zDP td ty):=by
 intro pins s σ H Q I h
 refine zCV PySem.F.slot_dict_getitem.lookup hs (thn (ho pins s σ H _ I h) fun u s1 ⟨x,H1,I1,rx,q1⟩=>thn (hi pins s1 σ H1 _ I1 q1) fun iv s2 ⟨y,H2,I2,ry,a,v,ex,g,q2⟩=>?_)
 subst ex
 obtain rfl:u=Value.ref a:=rx
 exact⟨z6s I2 g,z9S hu I2 g ry fun w' s3 I3 rw'=>⟨v,H2,I3,rw',q2⟩⟩
theorem z9U (hu:X.A.units+1<cLine) (hi:PE X i ty) (ho:PE X o td):PC X .NotIn i o (zCW ty td):=by
 intro pins s σ H Q I h
 refine thn (hi pins s σ H _ I h) fun iv s1 ⟨y,H1,I1,ry,q1⟩=>thn (ho pins s1 σ H1 _ I1 q1) fun u s2 ⟨x,H2,I2,rx,a,ov,ex,g,q2⟩=>?_
 subst ex
 obtain rfl:u=Value.ref a:=rx
 exact zCU hu I2 g ry fun s3 I3=>⟨.bl (!ov.isSome),H2,I3,rfl,q2⟩
end
section
variable {X:Cx} {pos:Pos}
end
structure M1 (X:Cx) (o:Expr) (m:Str) (apos:Pos) (e:Expr) (cpos:Pos):Prop where
 base:attributeBase o m X.env (eval o X.env)=eval o X.env
 few:((backTo cpos (starEach [e] X.env)).all (fun x=>!x.1)&&(backToKw cpos (keywordEach [] X.env)).all (fun x=>x.1.isSome)
  &&decide (([e]:List Expr).length+([]:List Keyword).length+(if([]:List Keyword).isEmpty then 0 else 1)<30))=true
 line:(apos.endLine==cpos.line)=true
 trees:backTo cpos (starEach [e] X.env)=[(false,eval e X.env)]
structure M2 (X:Cx) (o:Expr) (m:Str) (apos:Pos) (e f:Expr) (cpos:Pos):Prop where
 base:attributeBase o m X.env (eval o X.env)=eval o X.env
 few:((backTo cpos (starEach [e,f] X.env)).all (fun x=>!x.1)&&(backToKw cpos (keywordEach [] X.env)).all (fun x=>x.1.isSome)
  &&decide (([e,f]:List Expr).length+([]:List Keyword).length+(if([]:List Keyword).isEmpty then 0 else 1)<30))=true
 line:(apos.endLine==cpos.line)=true
 trees:backTo cpos (starEach [e,f] X.env)=[(false,eval e X.env),(false,eval f X.env)]
section
variable {X:Cx} {pins:List (Addr × Obj)} {σ:St} {H:Hp} {s:Shared} {a:Addr} {y d:V} {u r:Value} {o:Option V} {A:Around} {E:Value->Shared->Prop}
end
section
variable {X:Cx} {o e f:Expr} {apos cpos:Pos} {td ty tx:TE}
end
section
variable {X:Cx} {pins:List (Addr × Obj)} {σ:St} {H:Hp} {s:Shared} {a:Addr} {kvs:List (Key × V)} {A:Around} {E:Value->Shared->Prop}
end
section
variable {X:Cx} {pins:List (Addr × Obj)} {σ:St} {H:Hp} {s:Shared} {a:Addr} {y:V} {u:Value} {A:Around} {E:Value->Shared->Prop}
end
end L2
namespace Att
open PySem PySem.W PySem.Calls PyProof.Rows
theorem z49 {P:Params} {h:Heap}:∀(ns:List Int) (vs:List Value),WellAll P h vs (ns.map WData.int)->IntsAre vs ns:=by
 intro ns
 induction ns with
 |nil=>
  intro vs w
  rw[List.map_nil]at w
  cases w
  exact .nil
 |cons n ns ih=>
  intro vs w
  rw[List.map_cons]at w
  cases w with
  |cons a b=>
   cases a
   exact .cons _ _ (ih _ b)
theorem z9V {l:OpenLaw} {n:Nat} (hn:l.most=some n) {P:Params} {h:Heap} {args:List WData} {vals:List Value}
 (hpre:l.row.toRowW.claim.pre args=true) (hwl:WellAll P h vals args):
 ∃a vs ns,vals=[Value.ref a]/\args=[WData.list (ns.map WData.int)]/\h.get? a=some {cls:=.type "list",data:=.seq vs.toArray}/\IntsAre vs ns/\ns.length<=n:=by
 have hsh:WShape.hasAll [] args [.list .int]=true:=(pre_splitW hpre).1
 have hc:l.pre.holds [] {args:=args}=true:=(pre_splitW hpre).2
 obtain⟨d,r,rfl,h1,h2⟩:=hasAllW_cons hsh
 obtain rfl:=hasAllW_nil h2
 obtain⟨xs,rfl,h3⟩:=hasW_list h1
 obtain⟨ns,rfl⟩:=items_int h3
 have hlen:ns.length<=n:=by
  unfold OpenLaw.pre at hc
  have h4:(WTm.not (.lt (.lit (.int (n:Int))) (.len (.arg 0)))).holds [] {args:=[.list (ns.map .int)]}=true:=by
   have h4:=(holds_andW hc).1
   rw[hn]at h4
   exact h4
  have h5:=condW_of h4 (w_not (w_lt w_lit (w_len_list (w_arg rfl))))
  rw[List.length_map]at h5
  refine Nat.le_of_not_lt fun q=>?_
  have q':(n:Int)<((ns.length:Nat):Int):=by omega
  first
   |(rw[decide_eq_true q']at h5;exact absurd h5 (by decide))
   |(simp at h5;omega)
 cases hwl with
 |cons w1 w2=>
  cases w2
  cases w1 with
  |list ho hall=>exact⟨_,_,ns,rfl,rfl,ho,z49 ns _ hall,hlen⟩
theorem z9W (l:OpenLaw) (args:List WData):l.row.toRowW.claim.post args (.bool true) args=true:=
 postW_of (r:=l.row.toRowW) (X:=(true==true))
  (show WShape.has [] (.bool true) .bool=true by first|rfl|decide|simp[WShape.has,WShape.arms,WShape.armsAll])
  (show(WTm.eq .res (.lit (.bool true))).value [] {args:=args,res:=some (.bool true),after:=args}=some (.bool (true==true))from w_eq_bool (w_res rfl) w_lit) rfl
theorem attach_call {l:OpenLaw} {n:Nat} {q:Program} {loose:List Str} {XP:(Str->Option Value)->Heap->Prop} {YP:World->Heap->Prop} {d:DefRec}
 (hn:l.most=some n) (hdf:d.params.defaults=[])
 (call:∀(w:World) (s₀ s₁:Shared) (mg mb:Str->Option Value) (fa:Addr) (o:Obj) (pm cd doc:Value) (a:Addr) (vs:List Value) (ns:List Int),
  Ground q loose [] XP w s₀ mg mb s₁.heap->YP w s₁.heap->
  s₁.heap.get? fa=some o->o.data=.func (docDef d.name d.params d.body d.scope pm cd doc)->s₁.heap.CodeRec cd d.name->mg d.name=some (.ref fa)->
  s₁.heap.get? a=some {cls:=.type "list",data:=.seq vs.toArray}->IntsAre vs ns->ns.length<=n->s₁.gens=#[]->
  codeAny (model l.prog w) callerA (.call (.ref fa) ⟨[.ref a],[]⟩) (fun r s'=>r=.ok (.ret (.bool true))/\OldK s₁.heap s'.heap/\s'.os=s₁.os/\AllBare s'.gens) s₁):
 WalkO q loose XP YP l.row.toRowW d [] (fun f vs=>PySem.call f vs):=by
 intro w s₀ s₁ mg mb G Y fa o pm cd doc dV kV ho hd hcd hD hmg hg args vals as hpre hlay hrd hwl hlo
 obtain rfl:dV=.none:=Dflts.none hD hdf
 obtain rfl:kV=.none:=Dflts.noKw hD
 obtain⟨a,vs,ns,rfl,rfl,hobj,hints,hlen⟩:=z9V hn hpre hwl
 refine enter_call (codeAny_mono (call w s₀ s₁ mg mb fa o pm cd doc a vs ns G Y ho (fd_plain hd) hcd hmg hobj hints hlen hg) fun r s' hq=>?_)
 obtain⟨rfl,h2,h3,h4⟩:=hq
 exact⟨.inl ⟨.bool true,.bool true,[],rfl,fun _=>rfl,.bool true,z9W l _,fun _=>⟨List.Pairwise.nil,fun _ hm=>(nomatch hm)⟩⟩,h2,h3,h4⟩
section
variable {prog:Program} {w:World} {A:Around} {E:Value->Shared->Prop} {s:Shared} {K:Frag}
end
end Att
namespace L2
open PySem PySem.Spec PyProof.Rows
theorem z5w:∀{vs:List Value} {ns:List Int},IntsAre vs ns->Vals (ns.map V.int) vs
 |_,_,.nil=>.nil
 |_,_,.cons n t h=>.cons ⟨t,rfl⟩ (z5w h)
def zER (H:Hp):Prop:=∀b,H b=none\/∃o xs,H b=some (.frz o (.lst xs))
theorem zB8 {P:Program} {w:World} {K:PySem.W.Frag} {mg mb:Str->Option Value} {CX:CXT} {k:Nat} {fa a:Addr} {fd:FuncData} {x:Str} {sp:Sp} {s₁:Shared} {vs:List Value} {ns:List Int}
 (KX:K.In s₁.heap) (hns:s₁.heap.Ns mainGlobals mg) (hb:s₁.heap.Ns builtinsNs mb) (hbb:∀x:Str,x≠"__name__"->mb x=bootBuiltins x) (hlim:s₁.heap.NoLimit) (hg:s₁.gens=#[])
 (ha:s₁.heap.get? a=some {cls:=.type "list",data:=.seq vs.toArray}) (hi:IntsAre vs ns) (hl:ns.length<=sizeLine) (hr:Room k callerA)
 (F:∀base:Heap,K.In base->base.Ns mainGlobals mg->FnOk P w K mg base CX k fa fd [x] sp) (hbind:∀(s:Shared) (u:Value),BindsTo s fd ⟨[u],[]⟩ [(x,u)])
 (hsp:∀H:Hp,zER H->SqL K H a (ns.map V.int)->sp [.ref a] H (fun v _=>v=.bl true) fun _ _ _=>False)
 (hCX:∀H e s',CX [] H s₁ (fun _ _ _=>False) e s'->False):
 codeAny (model P w) callerA (.call (.ref fa) ⟨[.ref a],[]⟩) (fun r s'=>r=.ok (.ret (.bool true))/\OldK s₁.heap s'.heap/\s'.os=s₁.os/\AllBare s'.gens) s₁:=by
 have rv:=z5w hi
 have lenV:=hi.length
 have core:∀H:Hp,zER H->SqL K H a (ns.map V.int)->HOk P w H s₁.heap->(∀b,H b≠none->b=a)->(H a≠none->K.lookup a=none)->
  codeAny (model P w) callerA (.call (.ref fa) ⟨[.ref a],[]⟩) (fun r s'=>r=.ok (.ret (.bool true))/\OldK s₁.heap s'.heap/\s'.os=s₁.os/\AllBare s'.gens) s₁:=by
  intro H hO hS hok hA hK
  have base_of:∀{b:Addr} {o:Obj},s₁.heap.get? b=some o->H b=none->(zAx s₁.heap H).get? b=some o:=fun e n=>zAy e n
  have noA:∀{b:Addr} {o:Obj} {es:Array DictEntry} {ep:Nat},s₁.heap.get? b=some o->o.data=.dict es ep->H b=none:=fun{b o es ep} e d=>by
   cases q:H b with
   |none=>rfl
   |some u=>
    have e':b=a:=hA b (by rw[q];simp)
    subst e'
    rw[ha]at e;cases e
    have d':Data.seq vs.toArray _=Data.dict es ep:=d
    cases d'
  have nsK:∀{b:Addr} {m:Str->Option Value},s₁.heap.Ns b m->(zAx s₁.heap H).Ns b m:=fun{b m} ⟨o,es,ep,e,d,r⟩=>⟨o,es,ep,base_of e (noA e d),d,r⟩
  have hKb:K.In (zAx s₁.heap H):=fun b o e=>base_of (KX b o e) (by
   cases q:H b with
   |none=>rfl
   |some u=>
    have e':b=a:=hA b (by rw[q];simp)
    subst e'
    rw[hK (by rw[q];simp)]at e;cases e)
  have hM:Mod K mg (zAx s₁.heap H):=⟨hKb,nsK hns,⟨mb,nsK hb,hbb⟩,let ⟨mc,h1,h2⟩:=hlim;⟨mc,nsK h1,h2⟩⟩
  have e0:Env0 P w K mg (zAx s₁.heap H) callerA [] s₁ H:=⟨rfl,hM,fun b o e=>zCH e,Nat.le_of_eq (z97 _ _),trivial,fun b hb=>absurd (show b∈([]:List Addr)from hb) (by simp),hok,.of_eq hg⟩
  refine codeAny_mono ((F _ hKb (nsK hns)).run callerA [] s₁ H ⟨[.ref a],[]⟩ [.ref a] [.ref a] _ _ hr e0 (hbind s₁ (.ref a)) (.cons rfl .nil) (hsp H hO hS)) fun r s' h=>?_
  cases r with
  |error e=>exact(hCX H e s' h).elim
  |ok fl=>
   cases fl with
   |next=>exact False.elim h
   |brk=>exact False.elim h
   |cont=>exact False.elim h
   |ret u=>
    obtain⟨v,H',os,bare,un,hok',r',q⟩:=h
    have q':v=.bl true:=q
    subst q'
    obtain rfl:u=Value.bool true:=r'
    refine⟨rfl,OldK.of_keep fun b o e=>?_,os,bare⟩
    cases q:H b with
    |none=>exact un.keep b o e q (by intro z;exact absurd (show b∈([]:List Addr)from z) (by simp)) (by simp)
    |some u=>
     rcases hO b with z|⟨ob,xs,z⟩
     .rw[q]at z;cases z
     .have z2:=un.frzs b ob _ z
      obtain⟨e1,_⟩:=hok b _ z
      obtain⟨e2,_⟩:=hok' b _ z2
      rw[e]at e1;cases e1
      exact e2
 cases hk:K.lookup a with
 |some o=>
  have e:=KX a o hk
  rw[ha]at e
  cases e
  refine core (fun _=>none) (fun _=>.inl rfl) (.inr ⟨_,vs.toArray,_,hk,rfl,rfl,rfl,by rw[List.size_toArray,lenV];exact hl,by simpa using rv⟩) (fun b u z=>by have z':(none:Option HO)=some u:=z;cases z') (fun b z=>absurd rfl z) fun z=>absurd rfl z
 |none=>
  refine core (fun b=>if b=a then some (.frz {cls:=.type "list",data:=.seq vs.toArray} (.lst (ns.map V.int)))else none) (fun b=>?_) (.inl (.inr ⟨{cls:=.type "list",data:=.seq vs.toArray},if_pos rfl⟩)) (fun b u z=>?_) (fun b z=>?_) fun _=>hk
  .by_cases hb:b=a
   .exact .inr ⟨_,_,if_pos hb⟩
   .exact .inl (if_neg hb)
  .by_cases hb:b=a
   .have z':=(if_pos hb).symm.trans z
    cases z'
    subst hb
    exact⟨ha,by rw[List.length_map];exact hl,vs,_,rv,ha⟩
   .have z':=(if_neg hb).symm.trans z
    cases z'
  .by_cases hb:b=a
   .exact hb
   .exact absurd (if_neg hb) z
abbrev KOf {K:PySem.W.Frag} {h:Heap} (_:K.In h):PySem.W.Frag:=K
theorem walk_of {l:PySem.W.OpenLaw} {n k:Nat} {q:Program} {loose:List Str} {XP:(Str->Option Value)->Heap->Prop} {YP:World->Heap->Prop} {d:DefRec} {K:Params->PySem.W.Frag} {CX:World->CXT} {sp:World->Sp} {x:Str}
 (hn:l.most=some n) (hn2:n<=sizeLine) (hdf:d.params.defaults=[]) (hr:Room k callerA)
 (hY:∀(w:World) (h:Heap),YP w h->(K w.params).In h)
 (F:∀(w:World) (mg:Str->Option Value) (fa:Addr) (h:Heap),(K w.params).In h->h.Ns mainGlobals mg->mg d.name=some (.ref fa)->
  ∃fd:FuncData,(∀(s:Shared) (u:Value),BindsTo s fd ⟨[u],[]⟩ [(x,u)])/\
   ∀base:Heap,(K w.params).In base->base.Ns mainGlobals mg->FnOk l.prog w (K w.params) mg base (CX w) k fa fd [x] (sp w))
 (hsp:∀(w:World) (H:Hp) (a:Addr) (ns:List Int),ns.length<=n->zER H->SqL (K w.params) H a (ns.map V.int)->sp w [.ref a] H (fun v _=>v=.bl true) fun _ _ _=>False)
 (hCX:∀(w:World) (H:Hp) (s:Shared) (e:Value) (s':Shared),CX w [] H s (fun _ _ _=>False) e s'->False):
 PySem.W.WalkO q loose XP YP l.row.toRowW d [] (fun f vs=>PySem.call f vs):=by
 refine Att.attach_call hn hdf fun w s₀ s₁ mg mb fa o pm cd doc a vs ns G Y ho hd hcd hmg hobj hints hlen hg=>?_
 have KX:=hY w _ Y
 obtain⟨fd,hb,hF⟩:=F w mg fa _ KX G.T.g hmg
 exact zB8 KX G.T.g G.T.b G.T.builtins G.T.nolimit hg hobj hints (Nat.le_trans hlen hn2) hr hF hb (fun H hO hS=>hsp w H a ns hlen hO hS) fun H e s'=>hCX w H s₁ e s'
end L2
namespace L2
open PySem PySem.Spec PyProof.Rows
noncomputable def inClass (s:Stmt) (j:Nat):Stmt:=match s with
 |.ClassDef _ _ _ body _ _ _ _ _ _ _=>body.getD j (.Pass ⟨0,0,0,0⟩)
 |_=>.Pass ⟨0,0,0,0⟩
noncomputable def z0E (s:Stmt):Arguments:=match s with
 |.FunctionDef _ a _ _ _ _ _ _ _ _=>a
 |_=>{posonlyargs:=[],args:=[],vararg:=none,kwonlyargs:=[],kw_defaults:=[],kwarg:=none,defaults:=[]}
def z0D (s:Stmt):List Stmt:=match s with
 |.FunctionDef _ _ b _ _ _ _ _ _ _=>b
 |_=>[]
noncomputable def z03 (s:Stmt):Scope:=match s with
 |.FunctionDef _ _ _ _ _ _ sc _ _ _=>sc
 |_=>{kind:=.function,names:=[],isGenerator:=false,isCoroutine:=false}
abbrev CX0:CXT:=fun _ _ _ _ _ _=>False
abbrev E0:XK:=fun _ _ _=>False
theorem z5x {X:Cx}:z2I CX0 X E0:=fun _ _ _ _ _ _ _ h=>h.elim
structure Fun (K:PySem.W.Frag) (x qual:Str) (st:Stmt) (f:Addr) (fd:FuncData):Prop where
 ex:∃(oc:Value) (od:Option Addr) (kV doc pm:Value) (an:Option Addr) (cdv ct:Value) (osl:Array (Option Value)),
  fd=PySem.W.fnOf x qual (z0E st) (z0D st) (z03 st) .none kV doc pm an cdv ct/\K.lookup f=some ⟨oc,od,.func fd,osl⟩/\PySem.W.codeIn K cdv qual=true
 kp:PySem.W.keepIn K (.ref f)=true
section
variable {P:Program} {w:World} {K:PySem.W.Frag} {mg:Str->Option Value} {base:Heap}
theorem Fun.ok {x qual:Str} {st:Stmt} {f:Addr} {fd:FuncData} {N ps:List Str} {k:Nat} {sp:Sp} (F:Fun K x qual st f fd) (S:FnScope N ps (z03 st)) (len:∀vs H Q E,sp vs H Q E->vs.length=ps.length)
 (hbody:∀(cdv:Value) (A:Around) (outer:List Env) (s:Shared) (H:Hp) (vs:List V) (Q:VK) (E:XK),Room k (A.deeper (envOfC qual (z03 st) s.heap.objs.size f cdv))->sp vs H Q E->
  ∃t,PSs (z9K CX0 P w K mg base N qual (z03 st) f cdv A outer s H E).nox (z0D st) t/\t {nx:=fun _ H'=>Q .non H',rt:=Q} (start N vs) H):FnOk P w K mg base CX0 (k+1) f fd ps sp:=by
 obtain⟨oc,od,kV,doc,pm,an,cdv,ct,osl,rfl,lk,hcd⟩:=F.ex
 refine zB4 lk hcd S len fun A outer s H vs Q E hr hsp=>?_
 obtain⟨t,h,q⟩:=hbody cdv A outer s H vs Q E hr hsp
 exact⟨t,h.nox,q⟩
theorem Fun.binds {x qual:Str} {st:Stmt} {f:Addr} {fd:FuncData} {ps:List Str} (F:Fun K x qual st f fd)
 (h:∀(kV doc pm:Value) (an:Option Addr) (cdv ct:Value) (us:List Value),us.length=ps.length->bindArgs (PySem.W.fnOf x qual (z0E st) (z0D st) (z03 st) .none kV doc pm an cdv ct) ⟨us,[]⟩=pure (ps.zip us)):Binds K fd ps []:=by
 obtain⟨oc,od,kV,doc,pm,an,cdv,ct,osl,rfl,lk,hcd⟩:=F.ex
 exact .all (h kV doc pm an cdv ct)
theorem z0M {x qual:Str} {st:Stmt} {f:Addr} {oc:Value} {od an:Option Addr} {osl:Array (Option Value)} {kV doc pm cdv ct:Value} (l:K.lookup f=some ⟨oc,od,.func (PySem.W.fnOf x qual (z0E st) (z0D st) (z03 st) .none kV doc pm an cdv ct),osl⟩)
 (c:PySem.W.codeIn K cdv qual=true) (k:PySem.W.keepIn K (.ref f)=true):Fun K x qual st f (PySem.W.fnOf x qual (z0E st) (z0D st) (z03 st) .none kV doc pm an cdv ct):=⟨⟨oc,od,kV,doc,pm,an,cdv,ct,osl,rfl,l,c⟩,k⟩
end
theorem z8V {A:Around} {k:Nat} (hr:Room k A):A.units+1<cLine:=Nat.lt_of_le_of_lt (Nat.add_le_add_left (by decide:1<=64) _) hr.units
theorem z0H {n:Nat} (h:n<=1000):n<sizeLine:=Nat.lt_of_le_of_lt h (by decide)
section
variable {X:Cx}
theorem pv (i:Nat) {x:Str} {pos:Pos} (hN:X.N[i]?=some x:=by rfl) (hv:Vis X.env.scope x:=by first|exact Or.inl rfl|exact Or.inr (Or.inl rfl)|exact Or.inr (Or.inr rfl)) (hd:(x==("__debug__":Str))=false:=by decide)
 (hcd:(x==("__classdict__":Str))=false:=by decide):PE X (.Name x pos) (zE0 i):=zDF hN hv hd hcd
theorem z9X:z2a X (.builtin "len") (fun xs H Q=>∃a kvs,xs=[V.ref a]/\H a=some (.dK kvs)/\Q (.int kvs.length) H):=by
 intro pins s σ H xs us Q I r h
 obtain⟨a,kvs,rfl,ha,q⟩:=h
 obtain⟨u,rfl,ru⟩:=vals1 r
 cases ru
 exact zEP I (.inl ha) fun t s' I'=>⟨.int kvs.length,H,I',⟨t,rfl⟩,q⟩
end
theorem z5y {A B:Prop} (h:B):if false=true then A else B:=by
 rw[if_neg Bool.false_ne_true]
 exact h
theorem z3e {A B:Prop} (h:A):if true=true then A else B:=by
 rw[if_pos rfl]
 exact h
def Same (H H':Hp):Prop:=∀b o,H b=some o->H' b=some o
theorem Same.refl (H:Hp):Same H H:=fun _ _ h=>h
theorem Same.trans {H H1 H2:Hp} (a:Same H H1) (b:Same H1 H2):Same H H2:=fun c o h=>b c o (a c o h)
theorem Same.free {H H':Hp} (e:Same H H') {l:Addr} (h:H' l=Option.none):H l=Option.none:=by
 cases q:H l with
 |none=>rfl
 |some o=>
  rw[e l o q]at h
  cases h
theorem Same.seq {K:PySem.W.Frag} {H H':Hp} {a:Addr} {xs:List V} (e:Same H H') (h:SqL K H a xs):SqL K H' a xs:=by
 rcases h with(h|⟨o,h⟩)|h
 .exact .inl (.inl (e _ _ h))
 .exact .inl (.inr ⟨o,e _ _ h⟩)
 .exact .inr h
section
variable {κ:Type} [DecidableEq κ]
end
end L2
set_option maxHeartbeats 4000000
namespace L2
open PySem PySem.Spec PyProof.Rows
structure Df (K:PySem.W.Frag) (mg:Str->Option Value) (x:Str) (st:Stmt) (ps:List Str) (f:Addr) (fd:FuncData):Prop where
 F:Fun K x x st f fd
 b:Binds K fd ps []
 m:mg x=some (.ref f)
def zB9 (K:PySem.W.Frag):Sp:=fun vs H Q _=>∃(a:Addr) (ns:List Int),vs=[.ref a]/\SqL K H a (ns.map V.int)/\ns.length<=63/\∀H',Q (.bl true) H'
theorem Same.new {H:Hp} {l:Addr} {o:HO} (h:H l=none):Same H (upd H l o):=fun b u e=>by
 rw[z06 (z0A e h)]
 exact e
theorem Same.tup {K:PySem.W.Frag} {H H':Hp} {a:Addr} {xs:List V} (e:Same H H') (h:SqT K H a xs):SqT K H' a xs:=by
 rcases h with(h|⟨o,h⟩)|h
 .exact .inl (.inl (e _ _ h))
 .exact .inl (.inr ⟨o,e _ _ h⟩)
 .exact .inr h
theorem z7s {ns:List Int} {x:V} (h:x∈ns.map V.int):∃z,x=.int z:=by
 obtain⟨z,_,e⟩:=List.mem_map.mp h
 exact⟨z,e.symm⟩
theorem z1f {b:Bool} {A B:Prop} (hb:b=false) (h:B):if b=true then A else B:=by
 subst hb
 exact z5y h
theorem z5z {b:Bool} {A B:Prop} (hb:b=true) (h:A):if b=true then A else B:=by
 subst hb
 exact z3e h
section
variable {X:Cx}
noncomputable def tyS (H:Hp):V->Option String
 |.non=>some "NoneType"
 |.bl _=>some "bool"
 |.int _=>some "int"
 |.str _=>some "str"
 |.ref a=>match H a with
  |some (.lst _)=>some "list"
  |some (.frz _ (.lst _))=>some "list"
  |some (.tup _)=>some "tuple"
  |some (.dK _)=>some "dict"
  |some (.dT _)=>some "dict"
  |_=>none
 |_=>none
theorem zDQ {K:PySem.W.Frag} {H:Hp} {x:V} {T:String} (h:tyS H x=some T):TyOf K H x (.type T):=by
 cases x with
 |non=>cases h;exact .non
 |bl b=>cases h;exact .bl b
 |int i=>cases h;exact .int i
 |str z=>cases h;exact .str z
 |byt b=>cases h
 |flt b=>cases h
 |ty n=>cases h
 |ref a=>
  simp only[tyS]at h
  split at h
  .rename_i e;cases h;exact .lst e
  .rename_i e;cases h;exact .frz e
  .rename_i e;cases h;exact .tup e
  .rename_i e;cases h;exact .dK e
  .rename_i e;cases h;exact .dT e
  .cases h
noncomputable def z8W (T c:String):Bool:=T==c||(T=="bool"&&c=="int")
noncomputable def zBx:List String:=["NoneType","bool","int","str","list","tuple","dict"]
theorem z9Y:∀T∈zBx,∀c∈zBx,(if(Value.type T==Value.type c)=true then some true else if PySem.W.kitMeta c=true then(PySem.fastBuiltinMro T).map (·.contains (.type c))else none)=some (z8W T c):=by decide+kernel
theorem zCX {K:PySem.W.Frag} {T c:String} (hT:T∈zBx) (hc:c∈zBx):PySem.W.kitOne K (.type T) (.type c)=some (z8W T c):=z9Y T hT c hc
theorem z5A {H:Hp} {x:V} {T:String} (h:tyS H x=some T):T∈zBx:=by
 cases x with
 |non=>cases h;decide
 |bl b=>cases h;decide
 |int i=>cases h;decide
 |str z=>cases h;decide
 |byt b=>cases h
 |flt b=>cases h
 |ty n=>cases h
 |ref a=>
  simp only[tyS]at h
  split at h<;>first|(cases h;decide)|cases h
theorem z0n:z2a X (.builtin "isinstance") (fun xs H Q=>∃x c T,xs=[x,.ty c]/\c∈zBx/\tyS H x=some T/\Q (.bl (z8W T c)) H):=by
 intro pins s σ H xs us Q I r h
 obtain⟨x,c,T,rfl,hc,ht,q⟩:=h
 obtain⟨v,w',rfl,rx,ry⟩:=vals2 r
 cases (show w'=Value.type c from ry)
 exact z9I I rx (zDQ ht) (zCX (z5A ht) hc) fun tk=>⟨.bl (z8W T c),H,I.tok tk,rfl,q⟩
end
theorem z4A {cells:List (Str × Addr)} {f:Str × NameKind->List (Str × Addr)->Sem (ForInStep (List (Str × Addr)))}
 (hf:∀n k r c,k=NameKind.free->cells.lookup n=some c->f (n,k) r=pure (.yield ((n,c)::r))) (hg:∀n k r,k≠NameKind.free->f (n,k) r=pure (.yield r)):
 ∀(names:List (Str × NameKind)) (acc:List (Str × Addr)),(∀y∈names,y.2=.free->∃c,cells.lookup y.1=some c)->(∀x c,acc.lookup x=some c->cells.lookup x=some c)->
  ∃cl,forIn names acc f=(pure cl:Sem _)/\(∀x c,cl.lookup x=some c->cells.lookup x=some c)/\(∀x c,acc.lookup x=some c->∃d,cl.lookup x=some d)/\∀y∈names,y.2=.free->∃d,cl.lookup y.1=some d
 |[],acc,_,ha=>⟨acc,by rw[List.forIn_nil],ha,fun x c e=>⟨c,e⟩,fun _ hy=>nomatch hy⟩
 |(n,k)::r,acc,hn,ha=>by
  have hr:∀y∈r,y.2=.free->∃c,cells.lookup y.1=some c:=fun y hy=>hn y (List.mem_cons_of_mem _ hy)
  by_cases hk:k=.free
  .obtain⟨c,hc⟩:=hn (n,k) List.mem_cons_self hk
   have ha':∀x d,((n,c)::acc).lookup x=some d->cells.lookup x=some d:=fun x d e=>by
    rw[List.lookup_cons]at e
    cases hx:x==n with
    |true=>
     rw[hx]at e
     cases e
     rw[beq_iff_eq.mp hx]
     exact hc
    |false=>
     rw[hx]at e
     exact ha x d e
   obtain⟨cl,e,h1,h2,h3⟩:=z4A hf hg r ((n,c)::acc) hr ha'
   have hh:∀x d,acc.lookup x=some d->∃d',cl.lookup x=some d':=fun x d q=>by
    cases hx:x==n with
    |true=>exact h2 x c (by rw[List.lookup_cons,hx])
    |false=>exact h2 x d (by rw[List.lookup_cons,hx];exact q)
   refine⟨cl,?_,h1,hh,fun y hy e'=>?_⟩
   .rw[List.forIn_cons,hf n k acc c hk hc,pure_bind]
    exact e
   .rcases List.mem_cons.mp hy with rfl|hy
    .exact h2 n c (by rw[List.lookup_cons,beq_self_eq_true])
    .exact h3 y hy e'
  .obtain⟨cl,e,h1,h2,h3⟩:=z4A hf hg r acc hr ha
   refine⟨cl,?_,h1,h2,fun y hy e'=>?_⟩
   .rw[List.forIn_cons,hg n k acc hk,pure_bind]
    exact e
   .rcases List.mem_cons.mp hy with rfl|hy
    .exact absurd e' hk
    .exact h3 y hy e'
theorem z9Z {sc:Scope} {env:Env} (hfree:∀y∈sc.names,y.2=.free->∃c,env.cells.lookup y.1=some c):
 ∃cl:List (Str × Addr),closureFor sc env=pure cl/\(∀x c,cl.lookup x=some c->env.cells.lookup x=some c)/\∀y∈sc.names,y.2=.free->∃c,cl.lookup y.1=some c:=by
 obtain⟨cl,e,h1,_,h3⟩:=z4A (cells:=env.cells) (f:=fun(y:Str × NameKind) r=>if(y.2==NameKind.free)=true then(do let a<-cellOf env y.1;pure (ForInStep.yield ((y.1,a)::r)))else pure (ForInStep.yield r))
  (fun n k r c hk hc=>by
   subst hk
   show(if(NameKind.free==NameKind.free)=true then(cellOf env n>>=fun a=>pure (ForInStep.yield ((n,a)::r)))else pure (ForInStep.yield r))=_
   rw[if_pos (show(NameKind.free==NameKind.free)=true by decide)]
   have e:cellOf env n=pure c:=by unfold cellOf;rw[hc]
   rw[e,pure_bind])
  (fun n k r hk=>by
   show(if(k==NameKind.free)=true then(cellOf env n>>=fun a=>pure (ForInStep.yield ((n,a)::r)))else pure (ForInStep.yield r))=_
   rw[if_neg (by simpa using hk)])
  sc.names [] hfree (fun x c q=>nomatch q)
 refine⟨cl,?_,h1,h3⟩
 unfold closureFor
 first
  |(rw[e];rfl)
  |(refine Eq.trans (congrArg (fun t=>t>>=fun cs=>pure cs) e) ?_;rw[pure_bind])
  |(simp only[bind_pure];exact e)
theorem z1z {env:Env}:∀{names:List (Str × NameKind)} {x:Str},names.lookup x=some .free->
 ((names.map fun(n,k)=>if(k==NameKind.free&&env.scope.kind==.function&&env.kindOf n==some .cell)then(n,NameKind.cell)else(n,k)).lookup x=some .cell)\/
 ((names.map fun(n,k)=>if(k==NameKind.free&&env.scope.kind==.function&&env.kindOf n==some .cell)then(n,NameKind.cell)else(n,k)).lookup x=some .free)
 |[],_,h=>by cases h
 |(n,k)::r,x,h=>by
  have ih:=@z1z env r x
  rw[List.map_cons]
  cases hx:x==n with
  |true=>
   rw[List.lookup_cons,hx]at h
   cases h
   by_cases hc:(NameKind.free==NameKind.free&&env.scope.kind==.function&&env.kindOf n==some .cell)=true
   .left
    show List.lookup x ((if(NameKind.free==NameKind.free&&env.scope.kind==.function&&env.kindOf n==some .cell)=true then(n,NameKind.cell)else(n,NameKind.free))::_)=_
    rw[if_pos hc,List.lookup_cons,hx]
   .right
    show List.lookup x ((if(NameKind.free==NameKind.free&&env.scope.kind==.function&&env.kindOf n==some .cell)=true then(n,NameKind.cell)else(n,NameKind.free))::_)=_
    rw[if_neg hc,List.lookup_cons,hx]
  |false=>
   rw[List.lookup_cons,hx]at h
   have z:∀(y:Str × NameKind) (t:List (Str × NameKind)),y.1=n->List.lookup x (y::t)=List.lookup x t:=fun y t e=>by
    obtain⟨y1,y2⟩:=y
    cases (show y1=n from e)
    rw[List.lookup_cons,hx]
   rw[z _ _ (by
    show(if(k==NameKind.free&&env.scope.kind==.function&&env.kindOf n==some .cell)=true then(n,NameKind.cell)else(n,k)).1=n
    split<;>rfl)]
   exact ih h
theorem z2f {env:Env}:∀{names:List (Str × NameKind)} {x:Str},(∀y∈names,y.2≠.cell)->
 (((names.map fun(n,k)=>if(k==NameKind.free&&env.scope.kind==.function&&env.kindOf n==some .cell)then(n,NameKind.cell)else(n,k)).lookup x=some .cell)\/
 ((names.map fun(n,k)=>if(k==NameKind.free&&env.scope.kind==.function&&env.kindOf n==some .cell)then(n,NameKind.cell)else(n,k)).lookup x=some .free))->∃y∈names,y.1=x/\y.2=.free
 |[],_,_,h=>by rcases h with h|h<;>cases h
 |(n,k)::r,x,hc,h=>by
  have ih:=@z2f env r x fun y hy=>hc y (List.mem_cons_of_mem _ hy)
  rw[List.map_cons]at h
  cases hx:x==n with
  |true=>
   have e:x=n:=beq_iff_eq.mp hx
   by_cases hk:k=.free
   .exact⟨(n,k),List.mem_cons_self,e.symm,hk⟩
   .exfalso
    have q:(if(k==NameKind.free&&env.scope.kind==.function&&env.kindOf n==some .cell)=true then(n,NameKind.cell)else(n,k))=(n,k):=by
     rw[if_neg]
     intro z
     rw[Bool.and_eq_true,Bool.and_eq_true]at z
     exact hk (by simpa using z.1.1)
    have h':List.lookup x ((n,k)::(r.map fun(n,k)=>if(k==NameKind.free&&env.scope.kind==.function&&env.kindOf n==some .cell)then(n,NameKind.cell)else(n,k)))=some .cell\/
     List.lookup x ((n,k)::(r.map fun(n,k)=>if(k==NameKind.free&&env.scope.kind==.function&&env.kindOf n==some .cell)then(n,NameKind.cell)else(n,k)))=some .free:=by
     rw[<-q]
     exact h
    rw[List.lookup_cons,hx]at h'
    rcases h' with z|z
    .exact hc (n,k) List.mem_cons_self (Option.some.inj z)
    .exact hk (Option.some.inj z)
  |false=>
   have z:∀(y:Str × NameKind) (t:List (Str × NameKind)),y.1=n->List.lookup x (y::t)=List.lookup x t:=fun y t e=>by
    obtain⟨y1,y2⟩:=y
    cases (show y1=n from e)
    rw[List.lookup_cons,hx]
   rw[z _ _ (by
    show(if(k==NameKind.free&&env.scope.kind==.function&&env.kindOf n==some .cell)=true then(n,NameKind.cell)else(n,k)).1=n
    split<;>rfl)]at h
   obtain⟨y,hy,e⟩:=ih h
   exact⟨y,List.mem_cons_of_mem _ hy,e⟩
noncomputable def z4S (X:Cx) (locs:List Str) (ix:List Nat):List Str:=locs++ix.map fun i=>X.N.getD i Str.empty
noncomputable def zBy (k:Nat) (ix:List Nat) (σ:St):St:=List.replicate k none++ix.map fun i=>(σ[i]?).join
noncomputable abbrev cxC (X:Cx) (sc:Scope) (cl:List (Str × Addr)) (C:Addr) (N:List Str) (fp:List Addr) (s2:Shared) (H2:Hp) (pn:List (Addr × Obj)):Cx:=
 {X with N:=N,s₀:=s2,H₀:=H2,env:=compEnvC sc cl C X.env,outer:=X.stack,ex:=fp,fn:=fun _=>false,pn:=pn,xe:=fun _ _=>False}
structure BlkSc (X:Cx) (sc:Scope) (locs:List Str) (ix:List Nat):Prop where
 kind:sc.kind=.function
 cell:∀y∈sc.names,y.2≠.cell
 free:∀y∈sc.names,y.2=.free->X.env.kindOf y.1=some .cell\/X.env.kindOf y.1=some .free
 names:∀y∈sc.names,y.2=.local->sc.names.lookup y.1=some .local
 fr:∀i∈ix,∃x,X.N[i]?=some x/\sc.names.lookup x=some .free
section
variable {X:Cx} {pins:List (Addr × Obj)} {σ:St} {H2:Hp} {s2:Shared} {sc:Scope} {cl:List (Str × Addr)} {locs:List Str} {ix:List Nat} {fp:List Addr}
theorem z2u {names:List (Str × NameKind)} {x:Str} {k:NameKind}:names.lookup x=some k->(x,k)∈names:=by
 induction names with
 |nil=>intro h;cases h
 |cons y r ih=>
  obtain⟨n,j⟩:=y
  intro h
  rw[List.lookup_cons]at h
  cases hx:x==n with
  |true=>
   rw[hx]at h
   cases h
   rw[beq_iff_eq.mp hx]
   exact List.mem_cons_self
  |false=>
   rw[hx]at h
   exact List.mem_cons_of_mem _ (ih h)
theorem zDR (I:Inv X pins σ H2 s2) (B:BlkSc X sc locs ix) (hcl:∀x c,cl.lookup x=some c->X.env.cells.lookup x=some c) (hcl':∀y∈sc.names,y.2=.free->∃c,cl.lookup y.1=some c)
 (hf:∀b∈fp,z93 X pins H2 b) {C:Addr} (hC:s2.heap.objs.size<=C) (hfC:∀b∈fp,b≠C) {N:List Str} {pn:List (Addr × Obj)}:(cxC X sc cl C N fp s2 H2 pn).Ok where
 mod:=I.ok.mod
 kind:=B.kind
 glob:=I.ok.glob
 blt:=I.ok.blt
 above:=hC
 inj:=fun x y c h1 h2=>I.ok.inj x y c (hcl x c h1) (hcl y c h2)
 has:=fun x h=>by
  obtain⟨y,hy,e,hk⟩:=z2f (env:=X.env) B.cell h
  subst e
  exact hcl' y hy hk
 cab:=fun x c h _=>nomatch h
 hd:=I.ok.hd
 frames:=I.ok.frames
 stk:=.inl rfl
 exf:=fun b hb=>⟨hfC b hb,fun x c e=>(hf b hb).2.2.2.2.1 x c (hcl x c e)⟩
 bs:=fun b o e=>I.bs b o e
 bsz:=Nat.le_trans I.ok.bsz I.sz
 noex:=fun b o e hb=>by
  obtain⟨_,_,_,h4,_⟩:=hf b hb
  rcases h4 with h|h
  .exact I.ok.noex b o e h
  .exact absurd (Nat.lt_of_lt_of_le (Nat.lt_of_lt_of_le (Heap.lt_size e) I.ok.bsz) h) (Nat.lt_irrefl _)
 exfs:=fun b hb z=>by
  obtain⟨_,h2,h3,_⟩:=hf b hb
  rcases List.mem_cons.mp (I.stkSub b z)with e|e
  .exact h2 e
  .exact h3 e
 funs:=I.stack
 frf:=I.stkFree
theorem z9a (I:Inv X pins σ H2 s2) (B:BlkSc X sc locs ix) (hcl:∀x c,cl.lookup x=some c->X.env.cells.lookup x=some c) (hcl':∀y∈sc.names,y.2=.free->∃c,cl.lookup y.1=some c)
 (hf:∀b∈fp,z93 X pins H2 b) (hfl:∀b∈fp,b<s2.heap.objs.size) {h1:Heap} {tk:Nat} {m0:Str->Option Value} {D C:Addr} {oD:Obj} (hD:s2.heap.objs.size<=D) (hC:s2.heap.objs.size<=C) (hDC:D≠C)
 (old:∀b o,s2.heap.get? b=some o->h1.get? b=some o) (ns:h1.Ns C m0) (gD:h1.get? D=some oD) (dD:∀v,oD.data≠.cell v):
 Inv (cxC X sc cl C (z4S X locs ix) fp s2 H2 (X.pn++pins)) [(D,oD)] (zBy locs.length ix σ) H2 {s2 with heap:=h1,toks:=tk}:=by
 have low:∀b o,s2.heap.get? b=some o->b<s2.heap.objs.size:=fun b o e=>Heap.lt_size e
 have nst:∀b,s2.heap.objs.size<=b->b∉frs X.stack:=fun b hb z=>by
  obtain⟨_,o,ho,_⟩:=I.stack.mem z
  exact absurd (Nat.lt_of_lt_of_le (low b o ho) hb) (Nat.lt_irrefl _)
 refine⟨zDR I B hcl hcl' hf hC fun b hb=>Nat.ne_of_lt (Nat.lt_of_lt_of_le (hfl b hb) hC),rfl,I.bare,Un.kept old,⟨m0,ns,fun i x v e1 e2 e3=>?_⟩,fun x c e=>?_,I.hok.fresh hC,fun x c e=>I.freeC x c (hcl x c e),fun p hp=>?_,I.hok.kept old,?_⟩
 .have e2':(zBy locs.length ix σ)[i]?=some (some v):=e2
  have e1':(z4S X locs ix)[i]?=some x:=e1
  unfold zBy at e2'
  unfold z4S at e1'
  by_cases hi:i<locs.length
  .rw[List.getElem?_append_left (by rw[List.length_replicate];exact hi),List.getElem?_replicate,if_pos hi]at e2'
   cases e2'
  .rw[List.getElem?_append_right (by rw[List.length_replicate];omega),List.length_replicate,List.getElem?_map]at e2'
   rw[List.getElem?_append_right (by omega),List.getElem?_map]at e1'
   cases hj:ix[i-locs.length]? with
   |none=>
    rw[hj]at e2'
    cases e2'
   |some j=>
    rw[hj]at e2' e1'
    have e4:(σ[j]?).join=some v:=Option.some.inj e2'
    have e5:X.N.getD j Str.empty=x:=Option.some.inj e1'
    obtain⟨x',hx',hfree⟩:=B.fr j (List.mem_of_getElem? hj)
    have e6:x'=x:=by
     rw[<-e5,List.getD_eq_getElem?_getD,hx']
     rfl
    subst e6
    have e7:σ[j]?=some (some v):=by
     cases hs:σ[j]? with
     |none=>rw[hs]at e4;cases e4
     |some o=>
      rw[hs]at e4
      cases o with
      |none=>cases e4
      |some w=>cases e4;rfl
    have hk:=B.free (x',.free) (z2u hfree) rfl
    obtain⟨m,_,hl⟩:=I.loc
    obtain⟨u,r,l⟩:=hl j x' v hx' e7 (hk.elim (fun z=>.inr (.inl z)) fun z=>.inr (.inr z))
    refine⟨u,r,.inr ⟨z1z (env:=X.env) hfree,?_⟩⟩
    obtain⟨c,hc⟩:=hcl' (x',.free) (z2u hfree) rfl
    rcases l with⟨k,_⟩|⟨_,c',hc',z⟩
    .rcases hk with hk|hk
     .rw[hk]at k;cases k
     .rw[hk]at k;cases k
    .have q:=hcl x' c hc
     rw[hc']at q
     cases q
     obtain⟨o,ho,hd⟩:=z
     exact⟨_,hc,o,old _ _ ho,hd⟩
 .obtain⟨v,o,ho,hd⟩:=I.cell x c (hcl x c e)
  exact⟨v,o,old _ _ ho,hd⟩
 .rcases List.mem_append.mp hp with hp|hp
  .obtain⟨e,n,ne,nf,d⟩:=I.pin p hp
   refine⟨old _ _ e,n,Nat.ne_of_lt (Nat.lt_of_lt_of_le (low _ _ e) hC),fun z=>?_,d⟩
   rcases List.mem_cons.mp (I.stkSub p.1 z)with q|q
   .exact ne q
   .exact nf q
  .have e:p=(D,oD):=by simpa using hp
   subst e
   exact⟨gD,I.hok.fresh hD,hDC,nst D hD,dD⟩
 .show(zBy locs.length ix σ).length=(z4S X locs ix).length
  unfold zBy z4S
  rw[List.length_append,List.length_append,List.length_replicate,List.length_map,List.length_map]
theorem zBA {N:List Str} {pn:List (Addr × Obj)} {C D:Addr} {s':Shared} {σ':St} {H':Hp} {ys:List V} {its:List Value} {n:Nat} (I:Inv X pins σ H2 s2) (hf:∀b∈fp,z93 X pins H2 b) (hD:s2.heap.objs.size<=D)
 (I':Inv (cxC X sc cl C N fp s2 H2 pn) [(D,{cls:=.type "list",data:=.seq its.toArray n})] σ' H' s') (hv:Vals ys its) (hz:ys.length<=sizeLine):H' D=none/\Inv X pins σ (upd H' D (.lst ys)) s':=by
 obtain⟨gD,nD,_⟩:=I'.pin (D,{cls:=.type "list",data:=.seq its.toArray n}) (List.mem_append_right _ List.mem_cons_self)
 have low:∀b o,s2.heap.get? b=some o->b≠D:=fun b o e=>Nat.ne_of_lt (Nat.lt_of_lt_of_le (Heap.lt_size e) hD)
 have lowH:∀b o,H2 b=some o->b≠D:=fun b o e=>Nat.ne_of_lt (Nat.lt_of_lt_of_le (I.hok.lt e) hD)
 have U:Un (frs X.stack) fp H2 H' s2.heap s'.heap:=I'.base
 refine⟨nD,I.call' (ch:=fp) I'.os ⟨U.keep,U.slot,fun b o e hn hx=>?_,U.there,fun b xs e=>?_,fun b o u e=>?_,fun b ps e=>?_⟩ (fun b u e=>?_) I'.bare fun b hb=>?_⟩
 .rw[z06 (low b o e)]
  exact U.free b o e hn hx
 .rw[z06 (lowH b _ e)]
  exact U.tups b xs e
 .rw[z06 (lowH b _ e)]
  exact U.frzs b o u e
 .rw[z06 (lowH b _ e)]
  exact U.tbls b ps e
 .by_cases hb:b=D
  .subst hb
   rw[upd_same]at e
   cases e
   exact⟨hz,its,n,hv,gD⟩
  .rw[z06 hb]at e
   exact(I'.hok b u e).stay (fun _ _ _ q=>q) (fun c q=>by rw[z06 (z0A q nD)];exact q) fun c xs q=>by rw[z06 (z0A q nD)];exact q
 .obtain⟨_,f1,_,f3,f4,f5⟩:=hf b hb
  exact⟨f3,f1,f4,f5⟩
end
section
variable {prog:Program} {w:World} {A:Around} {R:Result->Shared->Prop} {s:Shared}
theorem z9b {elt tgt src:Expr} {tests:List Expr} {sc:Scope} {p:Pos} {itv acc:Value} {ev:Env} (J:Nat->Shared->Prop)
 (turn:∀n s,J n s->wpAny (model prog w) A (pyNext itv) (fun r s1=>match r with
  |none=>R (.ok .next) s1
  |some v=>wpAny (model prog w) A (letOwnedTupleGo tgt itv v) (fun _ s2=>wpAny (model prog w) A (assign tgt ev v) (fun _ s3=>
   wpAny (model prog w) A (forIn tests true fun c r=>if r=true then do let ok<-isTrue c ev (eval c ev);pure (ForInStep.yield ok)else pure (ForInStep.yield r)) (fun ok s4=>
    if ok=true then wpAny (model prog w) A (eval elt ev) (fun x s5=>wpAny (model prog w) A (call (.builtin "list.append") [acc,x]) (fun _ s6=>∃m,m<n/\J m s6) (fun _ _=>False) s5) (fun _ _=>False) s4
    else∃m,m<n/\J m s4) (fun _ _=>False) s3) (fun _ _=>False) s2) (fun _ _=>False) s1) (fun _ _=>False) s)
 (n:Nat) (h:J n s):codeAny (model prog w) A (.compLoop (.ListComp elt [⟨tgt,src,tests,0⟩] sc p) 0 itv acc ev) R s:=by
 refine codeAny_loop rfl J (fun n s hJ=>?_) n h
 show wpAny _ A ((compTurn (.ListComp elt [⟨tgt,src,tests,0⟩] sc p) 0 itv acc ev).onRaise (fun x=>do noteFrame x ev;theTreesLotGoes x)) _ _ s
 refine wpAny_noted (wpAny_noRaise ?_)
 rw[compTurn_list]
 refine wpAny_bind (wpAny_standAt (wpAny_bind (thn (turn n s hJ) fun r s1 h1=>?_)))
 cases r with
 |none=>exact wpAny_pure h1
 |some v=>
  refine wpAny_bind (thn h1 fun _ s2 h2=>wpAny_bind (thn h2 fun _ s3 h3=>wpAny_bind (thn h3 fun ok s4 h4=>?_)))
  cases ok with
  |false=>exact wpAny_pure ⟨rfl,h4⟩
  |true=>exact wpAny_bind (wpAny_bind (thn h4 fun x s5 h5=>wpAny_bind (thn h5 fun _ s6 h6=>wpAny_pure (wpAny_pure ⟨rfl,h6⟩))))
end
def PTs (X:Cx) (tests:List Expr) (t:TT):Prop:=
 ∀(pins:List (Addr × Obj)) (s:Shared) (σ:St) (H:Hp) (Q:Bool->Hp->Prop),Inv X pins σ H s->t σ H Q->
  wpAny (model X.prog X.w) X.A (forIn tests true fun c r=>if r=true then do let ok<-isTrue c X.env (eval c X.env);pure (ForInStep.yield ok)else pure (ForInStep.yield r)) (TP X pins σ Q) X.xe s
def zEu:TT:=fun _ H Q=>Q true H
theorem z0h {X:Cx}:PTs X [] zEu:=fun _ _ _ H _ I h=>wpAny_tests_nil ⟨H,I,h⟩
theorem zCY {X:Cx} {c:Expr} {t:TT} (hc:PT X c t):PTs X [c] t:=fun pins s σ H Q I h=>wpAny_tests_one (hc pins s σ H Q I h)
def z9c (J:It) (g:TG) (tt:TT) (te:TE) (Fin:List V->Hp->Prop) (W:Nat->Nat->St->List V->Hp->Prop):Prop:=
 ∀i m σ ys H,W i m σ ys H->(J.stop i H/\ys.length<=sizeLine/\Fin ys H)\/
  (J.go i H/\ys.length<sizeLine/\∀x H',J.yld i H x H'->g x σ H' fun σ2 H2=>tt σ2 H2 fun b H3=>if b=true then te σ2 H3 fun y H4=>∃m',m'<m/\W (i+1) m' σ2 (ys++[y]) H4 else∃m',m'<m/\W (i+1) m' σ2 ys H3)
def zES (wi:TI) (k:Nat) (ix:List Nat) (g:TG) (tt:TT) (te:TE):TE:=fun σ H Q=>wi σ H fun J H1=>
 ∃W:Nat->Nat->St->List V->Hp->Prop,(∃m,W 0 m (zBy k ix σ) [] H1)/\z9c J g tt te (fun ys H=>∀l,H l=none->Q (.ref l) (upd H l (.lst ys))) W
section
variable {X:Cx} {elt tgt iter:Expr} {tests:List Expr} {sc:Scope} {pos:Pos} {locs:List Str} {ix:List Nat} {wi:TI} {g:TG} {tt:TT} {te:TE}
theorem z4j {pins:List (Addr × Obj)} {σ:St} {H2:Hp} {s2:Shared} {cl:List (Str × Addr)} {fp:List Addr} {it:Addr} {tn:Nat->Heap->Prop} {J:It} {W:Nat->Nat->St->List V->Hp->Prop} {Fin:List V->Hp->Prop} {RR:Value->Addr->Result->Shared->Prop} {m0:Nat} {E:Value->Shared->Prop}
 (hc:X.calm=true) (B:BlkSc X sc locs ix)
 (hg:∀cl C fp s2 H2 pn,PG (cxC X sc cl C (z4S X locs ix) fp s2 H2 pn) tgt g) (ht:∀cl C fp s2 H2 pn,PTs (cxC X sc cl C (z4S X locs ix) fp s2 H2 pn) tests tt) (he:∀cl C fp s2 H2 pn,PE (cxC X sc cl C (z4S X locs ix) fp s2 H2 pn) elt te)
 (I:Inv X pins σ H2 s2) (T:Turn X.prog X.w X.K tgt J fp it tn) (st2:tn 0 s2.heap) (hf:∀b∈fp,z93 X pins H2 b)
 (hcl:∀x c,cl.lookup x=some c->X.env.cells.lookup x=some c) (hcl':∀y∈sc.names,y.2=.free->∃c,cl.lookup y.1=some c)
 (w0:W 0 m0 (zBy locs.length ix σ) [] H2) (turn:z9c J g tt te Fin W)
 (hR:∀D C s' H' ys m,H' D=none->s2.heap.objs.size<=C->H' C=none->C≠D->Inv X pins σ (upd H' D (.lst ys)) s'->Fin ys H'->s'.heap.Ns C m->RR (.ref D) C (.ok .next) s'):
 wpAny (model X.prog X.w) X.A (newList []) (fun acc s₃=>wpAny (model X.prog X.w) X.A (newFunctionEnv sc X.env.globals cl [] X.env.qual none .none (some X.env)) (fun cenv s₄=>
  codeAny (model X.prog X.w) X.A (.compStart (.ListComp elt [⟨tgt,iter,tests,0⟩] sc pos) 0 (.ref it) acc {cenv with scope:=relabel sc X.env}) (RR acc cenv.locals) s₄) E s₃) E s2:=by
 refine wpAny_newObj_type (wpAny_newFunctionEnv B.cell (by intro y hy;cases hy) (fun h1 ns1 sb1=>?_) B.kind)
 dsimp only at ns1 sb1⊢
 generalize eH:s2.heap.push {cls:=.type "list",dict:=none,data:=.seq ([]:List Value).toArray}=G at ns1 sb1⊢
 have zG:G.objs.size=s2.heap.objs.size+1:=by rw[<-eH,Heap.size_push]
 have hDC:s2.heap.objs.size≠G.objs.size:=by omega
 have old:∀b o,s2.heap.get? b=some o->h1.get? b=some o:=fun b o e=>sb1.extBut b o (Nat.ne_of_lt (Nat.lt_of_lt_of_le (Heap.lt_size e) (by omega))) (Heap.get?_push_of_some _ (eH▸Heap.get?_push_of_some _ e))
 have gD:h1.get? s2.heap.objs.size=some {cls:=.type "list",data:=.seq ([]:List Value).toArray 0}:=sb1.extBut _ _ hDC (Heap.get?_push_of_some _ (eH▸Heap.get?_push_size _ rfl))
 have hfl:∀b∈fp,b<s2.heap.objs.size:=fun b hb=>by
  obtain⟨o,e,_⟩:=T.obj 0 s2.heap st2 b hb
  exact Heap.lt_size e
 have Y:=fun tk=>z9a (tk:=tk) (locs:=locs) I B hcl hcl' hf hfl (Nat.le_refl _) (by omega:s2.heap.objs.size<=G.objs.size) hDC old ns1 gD (fun v z=>by cases z)
 have st1:tn 0 h1:=T.keep 0 _ _ st2 fun b _ o e=>old b o e
 have stat:∀{oD:Obj} {H':Hp},(∀b∈fp,H' b=none)->∀b∈fp,z93 (cxC X sc cl G.objs.size (z4S X locs ix) fp s2 H2 (X.pn++pins)) [(s2.heap.objs.size,oD)] H' b:=fun{oD H'} hn b hb=>by
  obtain⟨_,f1,f2,_,f4,f5⟩:=hf b hb
  refine⟨hn b hb,Nat.ne_of_lt (Nat.lt_of_lt_of_le (hfl b hb) (by show s2.heap.objs.size<=G.objs.size;omega)),fun z=>?_,.inl hb,fun x c e=>f4 x c (hcl x c e),fun p hp=>?_⟩
  .rcases List.mem_cons.mp (I.stkSub b z)with q|q
   .exact f1 q
   .exact f2 q
  .rcases List.mem_append.mp hp with hp|hp
   .exact f5 p hp
   .have e:p=(s2.heap.objs.size,oD):=by simpa using hp
    rw[e]
    exact Nat.ne_of_gt (hfl b hb)
 have loop:∀tk,codeAny (model X.prog X.w) X.A (.compLoop (.ListComp elt [⟨tgt,iter,tests,0⟩] sc pos) 0 (.ref it) (.ref s2.heap.objs.size) (compEnvC sc cl G.objs.size X.env)) (RR (.ref s2.heap.objs.size) G.objs.size) {s2 with heap:=h1,toks:=tk}:=by
  intro tk
  refine z9b (fun n s=>∃i σ' ys its nn H',Inv (cxC X sc cl G.objs.size (z4S X locs ix) fp s2 H2 (X.pn++pins)) [(s2.heap.objs.size,{cls:=.type "list",data:=.seq (List.toArray its) nn})] σ' H' s/\tn i s.heap/\(∀b∈fp,H' b=none)/\Vals ys its/\W i n σ' ys H') ?_ m0
   ⟨0,_,[],[],0,H2,Y tk,st1,fun b hb=>(hf b hb).1,.nil,w0⟩
  rintro n s ⟨i,σ',ys,its,nn,H',I1,st,fr,hv,hw⟩
  rcases turn i n σ' ys H' hw with⟨stop,hz,fin⟩|⟨go,hz,step⟩
  .refine thn (T.done (cxC X sc cl G.objs.size (z4S X locs ix) fp s2 H2 (X.pn++pins)) rfl rfl rfl hc i _ s σ' H' (fun _ _=>False) I1 (stat fr) st stop) fun r s1 ⟨er,I2⟩=>?_
   subst er
   obtain⟨nD,I3⟩:=zBA I hf (Nat.le_refl _) I2 hv hz
   obtain⟨m,ns,_⟩:=I2.loc
   exact hR _ _ s1 H' ys m nD (by omega) I2.free (Ne.symm hDC) I3 fin ns
  .refine thn (T.item (cxC X sc cl G.objs.size (z4S X locs ix) fp s2 H2 (X.pn++pins)) rfl rfl rfl hc i _ s σ' H' (fun _ _=>False) I1 (stat fr) st go) fun r s3 ⟨u,er,h3⟩=>?_
   subst er
   refine thn h3 fun _ s5 ⟨x,H5,I5,r5,y5,st5,fr5⟩=>?_
   have I5':=I5.pinned (stat fr5) (T.obj _ _ st5)
   refine thn (hg cl G.objs.size fp s2 H2 (X.pn++pins) _ s5 σ' H5 x u _ I5' r5 (step x H5 y5)) fun _ s6 ⟨σ6,H6,I6,q6⟩=>?_
   refine thn (ht cl G.objs.size fp s2 H2 (X.pn++pins) _ s6 σ6 H6 _ I6 q6) fun b s7 ⟨H7,I7,q7⟩=>?_
   have tn7:∀{s':Shared} {σ'':St} {H'':Hp},Inv (cxC X sc cl G.objs.size (z4S X locs ix) fp s2 H2 (X.pn++pins)) ([(s2.heap.objs.size,{cls:=.type "list",data:=.seq (List.toArray its) nn})]++z5o fp s5.heap) σ'' H'' s'->tn (i+1) s'.heap/\∀b∈fp,H'' b=none:=fun J=>by
    refine⟨T.keep _ _ _ st5 fun b hb o e=>(J.pin (b,o) (List.mem_append_right _ (List.mem_append_right _ (z2k hb e)))).1,fun b hb=>?_⟩
    obtain⟨o,e,d⟩:=T.obj _ _ st5 b hb
    exact(J.pin (b,o) (List.mem_append_right _ (List.mem_append_right _ (z2k hb e)))).2.1
   cases b with
   |false=>
    obtain⟨m',hm,w'⟩:=q7
    exact⟨m',hm,i+1,σ6,ys,its,nn,H7,I7.unpinned,(tn7 I7).1,(tn7 I7).2,hv,w'⟩
   |true=>
    refine thn (he cl G.objs.size fp s2 H2 (X.pn++pins) _ s7 σ6 H7 _ I7 q7) fun y s8 ⟨yv,H8,I8,r8,q8⟩=>?_
    obtain⟨m',hm,w'⟩:=q8
    obtain⟨gD8,nD8,_⟩:=I8.pin (s2.heap.objs.size,{cls:=.type "list",data:=.seq (List.toArray its) nn}) (List.mem_append_right _ (List.mem_append_left _ List.mem_cons_self))
    have hl:=hv.length
    refine append_at (hsz:=by rw[List.size_toArray];omega) gD8 fun h9 sb9 gD9=>?_
    have Iu:Inv (cxC X sc cl G.objs.size (z4S X locs ix) fp s2 H2 (X.pn++pins)) [] σ6 H8 s8:=I8.pins_of fun p hp=>nomatch hp
    have It:Inv (cxC X sc cl G.objs.size (z4S X locs ix) fp s2 H2 (X.pn++pins)) [] σ6 H8 {s8 with heap:=h9,toks:=s8.toks}:=Iu.turned (fun b o hb e=>(sb9.2 b hb).trans e) nD8 hDC (.inr (Nat.le_refl _))
     (fun x c e=>by
      obtain⟨v,o,ho,_⟩:=I.cell x c (hcl x c e)
      exact Nat.ne_of_lt (Heap.lt_size ho))
     (fun p hp=>by
      rcases List.mem_append.mp hp with hp|hp
      .exact Nat.ne_of_lt (Heap.lt_size (I.pin p hp).1)
      .cases hp)
    have gD9':h9.get? s2.heap.objs.size=some {cls:=.type "list",data:=.seq (its++[y]).toArray (nn+1)}:=by
     rw[gD9,List.push_toArray]
    have In:Inv (cxC X sc cl G.objs.size (z4S X locs ix) fp s2 H2 (X.pn++pins)) [(s2.heap.objs.size,{cls:=.type "list",data:=.seq (its++[y]).toArray (nn+1)})] σ6 H8 {s8 with heap:=h9,toks:=s8.toks}:=It.pins_of fun p hp=>by
     have e:p=(s2.heap.objs.size,{cls:=.type "list",data:=.seq (its++[y]).toArray (nn+1)}):=by simpa using hp
     subst e
     refine⟨gD9',nD8,hDC,fun z=>?_,fun v z=>by cases z⟩
     obtain⟨_,o,ho,_⟩:=I.stack.mem z
     exact absurd (Heap.lt_size ho) (Nat.lt_irrefl _)
    refine⟨m',hm,i+1,σ6,ys++[yv],its++[y],nn+1,H8,In,?_,(tn7 I8).2,Vals.append hv (.cons r8 .nil),w'⟩
    exact T.keep _ _ _ (tn7 I8).1 fun b hb o e=>(sb9.2 b (Nat.ne_of_lt (hfl b hb))).trans e
 exact codeAny_compStart_list (loop _) (T.self X.A 0 _ _ _ st1 (loop _))
theorem z1L (hc:X.calm=true) (B:BlkSc X sc locs ix) (hi:PI X tgt iter wi)
 (hg:∀cl C fp s2 H2 pn,PG (cxC X sc cl C (z4S X locs ix) fp s2 H2 pn) tgt g) (ht:∀cl C fp s2 H2 pn,PTs (cxC X sc cl C (z4S X locs ix) fp s2 H2 pn) tests tt) (he:∀cl C fp s2 H2 pn,PE (cxC X sc cl C (z4S X locs ix) fp s2 H2 pn) elt te)
 (hs:∀x,foldedSetIterable iter X.env x=pure x:=by intro _;rfl):PE X (.ListComp elt [⟨tgt,iter,tests,0⟩] sc pos) (zES wi locs.length ix g tt te):=by
 intro pins s σ H Q I h
 obtain⟨cl,ecl,hcl,hcl'⟩:=z9Z (sc:=sc) (env:=X.env) fun y hy hk=>I.ok.has y.1 (B.free y hy hk)
 rw[eval_ListComp]
 refine wpAny_comprehension_free (use:=none) rfl hs ecl B.kind B.names ?_
 refine thn (hi pins s σ H _ I h) fun v s1 h1=>thn h1 fun itv s2 h2=>?_
 obtain⟨it,fp,tn,J,H2,e,I2,T,st2,f2,W,⟨m0,w0⟩,turn⟩:=h2
 subst e
 refine z4j (iter:=iter) (pos:=pos) (RR:=fun acc C=>compPost (model X.prog X.w) X.A X.xe none (EP X pins σ Q) acc C) hc B hg ht he I2 T st2 f2 hcl hcl' w0 turn ?_
 intro D C s' H' ys m nD hC nC hCD I3 fin ns
 refine⟨m,ns,fun h' hs'=>⟨.ref D,_,I3.turned (t':=s'.toks) (fun b o hb e=>(hs'.2 b hb).trans e) (by rw[z06 hCD];exact nC) (Nat.ne_of_gt (Nat.lt_of_lt_of_le I2.lt hC)) (.inr (Nat.le_trans I2.sz hC)) (fun x c e=>?_) (fun p hp=>Nat.ne_of_lt (Nat.lt_of_lt_of_le (Heap.lt_size (I2.pin p hp).1) hC)),rfl,fin D nD⟩⟩
 obtain⟨v,o,ho,_⟩:=I2.cell x c e
 exact Nat.ne_of_lt (Nat.lt_of_lt_of_le (Heap.lt_size ho) hC)
def zET (i:Nat) (wi:TI) (k:Nat) (ix:List Nat) (g:TG) (tt:TT) (te:TE):TS:=fun D σ H=>wi σ H fun J H1=>
 ∃W:Nat->Nat->St->List V->Hp->Prop,(∃m,W 0 m (zBy k ix σ) [] H1)/\z9c J g tt te (fun ys H=>∀l,H l=none->D.nx (σ.set i (some (.ref l))) (upd H l (.lst ys))) W
theorem z3T {i:Nat} {y:Str} {py spos:Pos} (hc:X.calm=true) (hN:X.N.Nodup) (hiy:X.N[i]?=some y) (hy:X.env.scope.names.lookup y=some .local) (B:BlkSc X sc locs ix) (hi:PI X tgt iter wi)
 (hg:∀cl C fp s2 H2 pn,PG (cxC X sc cl C (z4S X locs ix) fp s2 H2 pn) tgt g) (ht:∀cl C fp s2 H2 pn,PTs (cxC X sc cl C (z4S X locs ix) fp s2 H2 pn) tests tt) (he:∀cl C fp s2 H2 pn,PE (cxC X sc cl C (z4S X locs ix) fp s2 H2 pn) elt te)
 (hsw:swapsWith (.ListComp elt [⟨tgt,iter,tests,0⟩] sc pos) (some (.Name y py)) spos.line X.env=pure true)
 (hs:∀x,foldedSetIterable iter X.env x=pure x:=by intro _;rfl):PS X (.Assign [.Name y py] (.ListComp elt [⟨tgt,iter,tests,0⟩] sc pos) spos) (zET i wi locs.length ix g tt te):=by
 intro pins s σ H D I h
 obtain⟨cl,ecl,hcl,hcl'⟩:=z9Z (sc:=sc) (env:=X.env) fun y hy hk=>I.ok.has y.1 (B.free y hy hk)
 rw[exec_Assign_Name_used _ _ _ _ hsw]
 refine wpAny_bind (wpAny_standAt (wpAny_bind ?_))
 show wpAny _ X.A (do let _<-comprehension (.ListComp elt [⟨tgt,iter,tests,0⟩] sc pos) sc X.env _ (newList []) false (eval iter X.env) (some (assign (.Name y py) X.env))) _ _ s
 refine wpAny_bind (thn (wpAny_comprehension_free (use:=some (assign (.Name y py) X.env)) (Q:=fun _ s'=>SP X pins D .next s') rfl hs ecl B.kind B.names ?_) fun _ s' hq=>wpAny_pure (wpAny_pure hq))
 refine thn (hi pins s σ H _ I h) fun v s1 h1=>thn h1 fun itv s2 h2=>?_
 obtain⟨it,fp,tn,J,H2,e,I2,T,st2,f2,W,⟨m0,w0⟩,turn⟩:=h2
 subst e
 refine z4j (iter:=iter) (pos:=pos) (RR:=fun acc C=>compPost (model X.prog X.w) X.A X.xe (some (assign (.Name y py) X.env)) (fun _ s'=>SP X pins D .next s') acc C) hc B hg ht he I2 T st2 f2 hcl hcl' w0 turn ?_
 intro L C s' H' ys m nL hC nC hCL I3 fin ns
 have cL:C≠X.env.locals:=Nat.ne_of_gt (Nat.lt_of_lt_of_le I2.lt hC)
 have cC:∀x c,X.env.cells.lookup x=some c->c≠C:=fun x c e=>by
  obtain⟨v,o,ho,_⟩:=I2.cell x c e
  exact Nat.ne_of_lt (Nat.lt_of_lt_of_le (Heap.lt_size ho) hC)
 have cP:∀p∈X.pn++pins,p.1≠C:=fun p hp=>Nat.ne_of_lt (Nat.lt_of_lt_of_le (Heap.lt_size (I2.pin p hp).1) hC)
 show wpAny _ X.A (assign (.Name y py) X.env (.ref L)) _ _ _
 refine wpAny_assign_Name (z5m (v:=.ref L) I3 hN hiy (.inl hy) rfl (fun s4 I4 ⟨a,sb,ha⟩=>?_) (.inr hy))
 have hCa:C≠a:=by
  rcases ha with z|z
  .rw[z];exact cL
  .exact(cC y a z).symm
 exact⟨m,ns.sameBut sb hCa,fun h' hs'=>⟨_,_,I4.turned (t':=s4.toks) (fun b o hb e=>(hs'.2 b hb).trans e) (by rw[z06 hCL];exact nC) cL (.inr (Nat.le_trans I2.sz hC)) cC cP,fin L nL⟩⟩
end
section
variable {X:Cx}
theorem z9d:∀{bs:List Bool} {us:List Value},Vals (bs.map V.bl) us->us=bs.map Value.bool
 |[],_,.nil=>rfl
 |b::r,_,.cons q t=>by
  cases (show _=Value.bool b from q)
  rw[z9d t]
  rfl
theorem range_all (bs:List Bool):(List.range bs.length).all (fun i=>bs.getD i true)=bs.all id:=by
 rw[Bool.eq_iff_iff,List.all_eq_true,List.all_eq_true]
 constructor
 .intro h b hb
  obtain⟨i,hi,e⟩:=List.mem_iff_getElem.mp hb
  have q:=h i (List.mem_range.mpr hi)
  rw[List.getD_eq_getElem?_getD,List.getElem?_eq_getElem hi,e]at q
  exact q
 .intro h i hi
  have hi':=List.mem_range.mp hi
  rw[List.getD_eq_getElem?_getD,List.getElem?_eq_getElem hi']
  exact h _ (List.getElem_mem hi')
theorem z2L (hc:X.calm=true):z2a X (.builtin "all") (fun xs H Q=>∃(a:Addr) (bs:List Bool),xs=[.ref a]/\SqL X.K H a (bs.map V.bl)/\Q (.bl (bs.all id)) H):=by
 intro pins s σ H xs us Q I r h
 obtain⟨a,bs,rfl,hq,q⟩:=h
 obtain⟨u,rfl,ru⟩:=vals1 r
 cases (show u=Value.ref a from ru)
 obtain⟨its,rv,p,_⟩:=I.list hq
 have e:=z9d rv
 subst e
 have hh:X.A.in1.handled=none:=I.ok.hd hc
 have hlt:a<s.heap.objs.size:=by obtain⟨_,e,_⟩:=p.isList;exact Heap.lt_size e
 refine call_all_walk (wpAny_pyIter_list p.isList ?_)
 refine⟨s.heap.objs.size,_,_,_,_,_,fun i=>bs.getD i true,rfl,Walks.list hh s.heap.objs.size a (Nat.ne_of_lt hlt) (bs.map Value.bool).toArray,⟨⟨_,Heap.get?_push_size _ rfl,rfl,rfl⟩,p.isList.push _⟩,?_,fun h' tk k=>?_⟩
 .intro i v s' Q' E' hv hQ
  have e:v=Value.bool (bs.getD i true):=by
   rw[List.getElem?_toArray,List.getElem?_map]at hv
   cases hb:bs[i]? with
   |none=>rw[hb]at hv;cases hv
   |some b=>
    rw[hb]at hv
    rw[List.getD_eq_getElem?_getD,hb]
    exact(Option.some.inj hv).symm
  subst e
  exact wpAny_truthy_bool hQ
 .have I':Inv X pins σ H {s with heap:=h',toks:=tk}:=I.kept fun b o e=>k b o (by
   intro z
   have e':b=s.heap.objs.size:=by simpa using z
   exact absurd e' (Nat.ne_of_lt (Heap.lt_size e))) (Heap.get?_push_of_some _ e)
  refine⟨.bl _,H,I',rfl,?_⟩
  have e:((bs.map Value.bool).toArray).size=bs.length:=by rw[List.size_toArray,List.length_map]
  rw[e,range_all]
  exact q
theorem ints_get {ns:List Int} {us:List Value} {i:Nat} {v:Value} (r:Vals (ns.map V.int) us) (h:us[i]?=some v):∃t,v=.int (ns.getD i 0) t:=by
 have hl:=r.length
 have hi:i<us.length:=(List.getElem?_eq_some_iff.mp h).1
 rw[List.length_map]at hl
 have hn:ns[i]?=some ns[i]:=List.getElem?_eq_getElem (by omega)
 obtain⟨u,hu,ru⟩:=r.get (i:=i) (x:=V.int ns[i]) (by rw[List.getElem?_map,hn];rfl)
 rw[h]at hu
 cases hu
 obtain⟨t,e⟩:=(show∃t,v=Value.int ns[i] t from ru)
 refine⟨t,?_⟩
 rw[List.getD_eq_getElem?_getD,hn]
 exact e
theorem pre_take (ns:List Int):∀n,n<=ns.length->preSum (fun i=>ns.getD i 0) n=(ns.take n).sum
 |0,_=>rfl
 |n+1,h=>by
  have hn:ns[n]?=some ns[n]:=List.getElem?_eq_getElem (by omega)
  have e:ns.getD n 0=ns[n]:=by rw[List.getD_eq_getElem?_getD,hn];rfl
  show preSum (fun i=>ns.getD i 0) n+ns.getD n 0=_
  rw[pre_take ns n (by omega),List.take_succ,hn,e,List.sum_append]
  show _=(ns.take n).sum+(ns[n]+0)
  omega
theorem sum_bound {c:Int} (hc:0<=c):∀(ns:List Int),(∀z∈ns,-c<=z/\z<=c)-> -(c*ns.length)<=ns.sum/\ns.sum<=c*ns.length
 |[],_=>by simp
 |z::r,h=>by
  have ih:=sum_bound hc r fun y hy=>h y (List.mem_cons_of_mem _ hy)
  have hz:=h z List.mem_cons_self
  rw[List.sum_cons,List.length_cons]
  have e:c*((r.length+1:Nat):Int)=c*(r.length:Int)+c:=by
   rw[Int.natCast_add,Int.mul_add]
   simp
  rw[e]
  omega
theorem z9e (hc:X.calm=true):z2a X (.builtin "sum") (fun xs H Q=>∃(a:Addr) (ns:List Int),xs=[.ref a]/\SqL X.K H a (ns.map V.int)/\ns.length<=1000000/\(∀z∈ns,-1000000000000<=z/\z<=(1000000000000:Int))/\Q (.int ns.sum) H):=by
 intro pins s σ H xs us Q I r h
 obtain⟨a,ns,rfl,hq,hlen,hb,q⟩:=h
 obtain⟨u,rfl,ru⟩:=vals1 r
 cases (show u=Value.ref a from ru)
 obtain⟨its,rv,p,_⟩:=I.list hq
 have hl:=rv.length
 rw[List.length_map]at hl
 have hh:X.A.in1.handled=none:=I.ok.hd hc
 have hlt:a<s.heap.objs.size:=by obtain⟨_,e,_⟩:=p.isList;exact Heap.lt_size e
 have hsz:its.toArray.size=ns.length:=by rw[List.size_toArray];omega
 have bound:∀n,n<=ns.length->InLong (preSum (fun i=>ns.getD i 0) n):=fun n hn=>by
  rw[pre_take ns n hn]
  have:=sum_bound (c:=1000000000000) (by decide) (ns.take n) fun z hz=>hb z (List.mem_of_mem_take hz)
  have e:(ns.take n).length=n:=by rw[List.length_take];omega
  rw[e]at this
  unfold InLong
  omega
 refine call_sum_walk (wpAny_pyIter_list p.isList ?_)
 refine⟨s.heap.objs.size,_,_,_,_,_,fun i=>ns.getD i 0,rfl,Walks.list hh s.heap.objs.size a (Nat.ne_of_lt hlt) its.toArray,⟨⟨_,Heap.get?_push_size _ rfl,rfl,rfl⟩,p.isList.push _⟩,fun b hb'=>?_,fun i v hv=>?_,fun j hj=>?_,fun h' tk t' k=>?_⟩
 .show b<(s.heap.push _).objs.size
  rw[Heap.size_push]
  rcases List.mem_cons.mp hb' with rfl|hb'
  .exact Nat.lt_succ_self _
  .rw[List.mem_singleton.mp hb']
   exact Nat.lt_succ_of_lt hlt
 .exact ints_get rv (by simpa using hv)
 .rw[hsz]at hj
  refine⟨?_,bound (j+1) (by omega)⟩
  have hn:ns[j]?=some ns[j]:=List.getElem?_eq_getElem (by omega)
  have:=hb ns[j] (List.getElem_mem _)
  show InLong (ns.getD j 0)
  rw[List.getD_eq_getElem?_getD,hn]
  unfold InLong
  show-(2^63)<=ns[j]/\ns[j]<2^63
  omega
 .have I':Inv X pins σ H {s with heap:=h',toks:=tk}:=I.kept fun b o e=>k b o (by
   intro z
   have e':b=s.heap.objs.size:=by simpa using z
   exact absurd e' (Nat.ne_of_lt (Heap.lt_size e))) (Heap.get?_push_of_some _ e)
  rw[hsz,pre_take ns _ (Nat.le_refl _),List.take_length]at*
  exact⟨.int ns.sum,H,I',⟨t',rfl⟩,q⟩
end
def Ite (K:PySem.W.Frag) (a:Addr):It:=
 ⟨fun i H=>∃xs x,SqL K H a xs/\xs[i]?=some x,fun i H x H'=>∃T v,H T=none/\x=.ref T/\H'=upd H T (.tup [.int i,v])/\∀xs,SqL K H a xs->xs[i]?=some v,fun i H=>∃xs,SqL K H a xs/\xs.length<=i⟩
theorem z9f {P:Program} {w:World} {K:PySem.W.Frag} {es:List Expr} {k:Nat} {pos:Pos} (a e it:Addr) (hei:e≠it):
 Turn P w K (.Tuple es k pos) (Ite K a) [e,it] e (fun i h=>(∃old,IsEnum h e it (i:Nat) old)/\h.IsListIter it a i) where
 mem:=List.mem_cons_self
 obj:=fun i h st b hb=>by
  obtain⟨⟨old,he⟩,o,hi,hc,hd⟩:=st
  rcases List.mem_cons.mp hb with rfl|hb
  .exact⟨_,he,fun v z=>by cases z⟩
  .rw[List.mem_singleton.mp hb]
   exact⟨o,hi,fun v z=>by rw[hd]at z;cases z⟩
 keep:=fun i h h' st k=>⟨let ⟨old,he⟩:=st.1;⟨old,k e List.mem_cons_self _ he⟩,st.2.at fun o q=>k it (List.mem_cons_of_mem _ List.mem_cons_self) o q⟩
 item:=by
  intro X hP hw hK hc i pins s σ H E I hf st hg
  subst hP hw hK
  obtain⟨xs,x,hq,hx⟩:=hg
  obtain⟨its,rv,p,hz⟩:=I.list hq
  obtain⟨u,hu,ru⟩:=rv.get hx
  obtain⟨⟨old,he⟩,hit⟩:=st
  obtain⟨f0,f1,f2,f3,f4,f5⟩:=hf e List.mem_cons_self
  obtain⟨g0,g1,g2,g3,g4,g5⟩:=hf it (List.mem_cons_of_mem _ List.mem_cons_self)
  refine wpAny_pyNext_enum_item he hit p.isList (x:=u) (by simpa using hu) hei fun h' ho hit' hT hsz hk=>?_
  refine⟨.ref s.heap.objs.size,rfl,wpAny_letOwnedTupleGo_enum ho fun h'' he'' sb=>?_⟩
  have nT:H s.heap.objs.size=none:=I.hok.fresh (Nat.le_refl _)
  have kk:∀b o,b≠e->b≠it->s.heap.get? b=some o->h''.get? b=some o:=fun b o b1 b2 q=>(sb.2 b b1).trans (hk b o b1 b2 q)
  have hTe:s.heap.objs.size≠e:=Nat.ne_of_gt (Heap.lt_size he)
  have nb:∀b u,H b=some u->b≠e/\b≠it:=fun b u q=>⟨fun z=>(by rw[z,f0]at q;cases q),fun z=>(by rw[z,g0]at q;cases q)⟩
  have gT:h''.get? s.heap.objs.size=some {cls:=.type "tuple",data:=.seq #[.int i s.toks,u]}:=(sb.2 _ hTe).trans hT
  have I1:Inv X pins σ (upd H s.heap.objs.size (.tup [.int i,x])) {s with heap:=h'',toks:=s.toks+1}:=by
   refine I.step (g':=s.gens) (d':=s.drawn) (ch:=[e,it]) (fun b hb=>?_) (fun b o _ _ hb q _=>kk b o (fun z=>hb (by simp[z])) (fun z=>hb (by simp[z])) q) (fun b o _ _ hb q _=>⟨o.slots,kk b o (fun z=>hb (by simp[z])) (fun z=>hb (by simp[z])) q⟩) (fun b o _ q n=>?_)
    (fun b o hb q=>⟨o,kk b o (fun z=>hb (by simp[z])) (fun z=>hb (by simp[z])) q⟩) (fun b ys q=>?_) (fun b ob y q=>?_) (fun b ps q=>⟨#[],?_⟩) (fun m hm=>?_) (fun b y q=>?_) I.bare
   .rcases List.mem_cons.mp hb with rfl|hb
    .exact⟨f3,f1,f4,f5⟩
    .rw[List.mem_singleton.mp hb]
     exact⟨g3,g1,g4,g5⟩
   .rw[z06 (Nat.ne_of_lt (Heap.lt_size q))]
    exact n
   .rw[z06 (z0A q nT)]
    exact q
   .rw[z06 (z0A q nT)]
    exact q
   .rw[z06 (z0A q nT),q]
    simp
   .obtain⟨o,es',ep,ho',r⟩:=hm
    exact⟨o,es',ep,kk _ o (Ne.symm f1) (Ne.symm g1) ho',r⟩
   .by_cases hb:b=s.heap.objs.size
    .subst hb
     rw[upd_same]at q
     cases q
     exact⟨by show 2<=sizeLine;decide,[.int i s.toks,u],.cons ⟨_,rfl⟩ (.cons ru .nil),_,gT,rfl,_,rfl⟩
    .rw[z06 hb]at q
     refine(I.hok b y q).stay (fun c v hc' z=>?_) (fun c z=>by rw[z06 (z0A z nT)];exact z) fun c ys z=>by rw[z06 (z0A z nT)];exact z
     rcases hc' with z'|z'
     .subst z'
      exact kk c v (nb c y q).1 (nb c y q).2 z
     .exact kk c v (nb c _ z').1 (nb c _ z').2 z
  refine⟨.ref s.heap.objs.size,_,I1,rfl,⟨_,x,nT,rfl,rfl,fun ys hy=>by rw[I.list_inj hy hq];exact hx⟩,⟨⟨u,by simpa using he''⟩,hit'.at fun o q=>(sb.2 it (Ne.symm hei)).trans q⟩,fun b hb=>?_⟩
  have hn:=(hf b hb).1
  have lt:b<s.heap.objs.size:=by
   rcases List.mem_cons.mp hb with rfl|hb
   .exact Heap.lt_size he
   .rw[List.mem_singleton.mp hb]
    obtain⟨o,q,_⟩:=hit
    exact Heap.lt_size q
  rw[z06 (Nat.ne_of_lt lt)]
  exact hn
 done:=by
  intro X hP hw hK hc i pins s σ H E I hf st hg
  subst hP hw hK
  obtain⟨xs,hq,hx⟩:=hg
  obtain⟨its,rv,p,hz⟩:=I.list hq
  obtain⟨⟨old,he⟩,hit⟩:=st
  obtain⟨g0,g1,g2,g3,g4,g5⟩:=hf it (List.mem_cons_of_mem _ List.mem_cons_self)
  have hl:=rv.length
  exact wpAny_pyNext_enum_end (I.ok.hd hc) he hit p.isList (by simp;omega) fun h' eb=>⟨rfl,I.turned (t':=s.toks) (fun b o hb q=>eb b o hb q) g0 g1 g3 g4 g5⟩
 self:=fun _ _ _ _ _ st h=>let ⟨_,he⟩:=st.1;wpAny_pyIter_enum he h
section
variable {X:Cx}
def zEU (K:PySem.W.Frag) (ta:TA):TI:=fun σ H R=>ta σ H fun vs H1=>∃a,vs=[.ref a]/\(∃xs,SqL K H1 a xs)/\R (Ite K a) H1
theorem z6t {l:Expr} {ta:TA} {p pos:Pos} {es:List Expr} {k:Nat} {tp:Pos} (hg:Gl X "enumerate") (hm:X.mg "enumerate"=none) (ha:PA X [l] ta) (hs:starEach [l] X.env=[(false,eval l X.env)]:=by rfl):
 PI X (.Tuple es k tp) (.Call (.Name "enumerate" p) [l] [] pos) (zEU X.K ta):=by
 intro pins s σ H R I h
 refine Call_ (z2r I hg hm boot_enumerate (PyProof.Rows.callWith_type1 (thn (ha pos pins s σ H _ I h) fun us s1 ⟨vs,H1,I1,r1,q1⟩=>?_) hs rfl))
 obtain⟨a,e,⟨xs,hq⟩,q⟩:=q1
 subst e
 obtain⟨u,rfl,ru⟩:=vals1 r1
 cases (show u=Value.ref a from ru)
 obtain⟨its,rv,pl,hz⟩:=I1.list hq
 refine call_enumerate_list pl.isList fun h' he hit hsz hk=>?_
 refine wpAny_pyIter_enum (s:={s1 with heap:=h'}) he ?_
 have n1:H1 s1.heap.objs.size=none:=I1.hok.fresh (Nat.le_refl _)
 have n2:H1 (s1.heap.objs.size+1)=none:=I1.hok.fresh (Nat.le_succ _)
 refine⟨s1.heap.objs.size+1,[s1.heap.objs.size+1,s1.heap.objs.size],_,_,H1,rfl,I1.kept (t':=s1.toks) hk,z9f a _ _ (Nat.succ_ne_self _),⟨⟨_,by simpa using he⟩,hit⟩,fun b hb=>?_,q⟩
 rcases List.mem_cons.mp hb with rfl|hb
 .exact I1.fpOk (Nat.le_succ _) n2
 .rw[List.mem_singleton.mp hb]
  exact I1.fpOk (Nat.le_refl _) n1
end
theorem z5B {K:PySem.W.Frag} {a:Addr} {xs:List V} {g:TG} {tb:TS} {D:Ends} {σ:St} {H:Hp} (Pv:Nat->St->Hp->Prop) (h0:Pv 0 σ H) (hl:∀i σ H,i<=xs.length->Pv i σ H->SqL K H a xs)
 (hs:∀(i:Nat) x σ H T,xs[i]?=some x->Pv i σ H->H T=none->g (.ref T) σ (upd H T (.tup [.int i,x])) fun σ2 H2=>tb {D with nx:=Pv (i+1),ct:=Pv (i+1),bk:=D.nx} σ2 H2) (hd:∀σ H,Pv xs.length σ H->D.nx σ H):
 ∃W:Nat->Nat->St->Hp->Prop,(∃m,W 0 m σ H)/\∀i m σ H,W i m σ H->
  ((Ite K a).stop i H/\D.nx σ H)\/((Ite K a).go i H/\∃N:St->Hp->Prop,(∀σ' H',N σ' H'->∃m',m'<m/\W (i+1) m' σ' H')/\∀x H',(Ite K a).yld i H x H'->g x σ H' fun σ2 H2=>tb {D with nx:=N,ct:=N,bk:=D.nx} σ2 H2):=by
 refine⟨fun i m σ H=>m=xs.length-i/\i<=xs.length/\Pv i σ H,⟨xs.length,by simp,Nat.zero_le _,h0⟩,?_⟩
 rintro i m σ H ⟨rfl,hi,p⟩
 have q:=hl i σ H hi p
 by_cases hlt:i<xs.length
 .refine .inr ⟨⟨xs,xs[i],q,List.getElem?_eq_getElem hlt⟩,Pv (i+1),fun σ' H' p'=>⟨xs.length-(i+1),by omega,rfl,hlt,p'⟩,fun x H' y=>?_⟩
  obtain⟨T,v,nT,rfl,rfl,hv⟩:=y
  exact hs i v σ H T (hv xs q) p nT
 .have e:i=xs.length:=by omega
  subst e
  exact .inl ⟨⟨xs,q,Nat.le_refl _⟩,hd σ H p⟩
def Itv (K:PySem.W.Frag) (a:Addr) (xs:List V):It:=
 ⟨fun i H=>i<xs.length/\SqL K H a xs,fun i H x H'=>H'=H/\xs[xs.length-1-i]?=some x,fun i _=>i=xs.length⟩
theorem zBB {P:Program} {w:World} {K:PySem.W.Frag} {tg:Expr} (a it:Addr) (xs:List V):
 Turn P w K tg (Itv K a xs) [it] it (fun i h=>h.IsRevIter it a ((xs.length:Int)-1-(i:Int))) where
 mem:=List.mem_cons_self
 obj:=fun i h st b hb=>by
  rw[List.mem_singleton.mp hb]
  obtain⟨o,e,c,d⟩:=st
  exact⟨o,e,fun v z=>by rw[d]at z;cases z⟩
 keep:=fun i h h' st k=>st.at fun o e=>k it List.mem_cons_self o e
 item:=by
  intro X hP hw hK hc i pins s σ H E I hf st hg
  subst hP hw hK
  obtain⟨hi,hq⟩:=hg
  obtain⟨its,rv,p,hz⟩:=I.list hq
  have hl:=rv.length
  have hx:xs[xs.length-1-i]?=some (xs[xs.length-1-i]'(by omega)):=List.getElem?_eq_getElem (by omega)
  obtain⟨u,hu,ru⟩:=rv.get hx
  obtain⟨f0,f1,f2,f3,f4,f5⟩:=hf it List.mem_cons_self
  have e:(xs.length:Int)-1-(i:Int)=((xs.length-1-i:Nat):Int):=by omega
  have st':s.heap.IsRevIter it a ((xs.length-1-i:Nat):Int):=by rw[<-e];exact st
  refine wpAny_pyNext_rev_item st' p.isList (x:=u) (by simpa using hu) fun h' st1 sb=>?_
  have I1:Inv X pins σ H {s with heap:=h'}:=I.turned (t':=s.toks) (fun b o hb q=>(sb.2 b hb).trans q) f0 f1 f3 f4 f5
  obtain⟨o,q,c,d⟩:=id st1
  have e2:((xs.length-1-i:Nat):Int)-1=(xs.length:Int)-1-((i+1:Nat):Int):=by omega
  refine⟨u,rfl,z8K (s:={s with heap:=h'}) q c d (by decide) ⟨_,H,I1,ru,⟨rfl,hx⟩,?_,fun b hb=>(hf b hb).1⟩⟩
  rw[<-e2]
  exact st1
 done:=by
  intro X hP hw hK hc i pins s σ H E I hf st hg
  subst hP hw hK
  cases (show i=xs.length from hg)
  obtain⟨f0,f1,f2,f3,f4,f5⟩:=hf it List.mem_cons_self
  have e:(xs.length:Int)-1-(xs.length:Int)= -1:=by omega
  have st':s.heap.IsRevIter it a (-1):=by rw[<-e];exact st
  exact wpAny_pyNext_rev_end (I.ok.hd hc) st' fun h' eb=>⟨rfl,I.turned (t':=s.toks) (fun b o hb q=>eb b o hb q) f0 f1 f3 f4 f5⟩
 self:=fun _ _ _ _ _ st h=>wpAny_pyIter_revIter st h
section
variable {X:Cx} {tg:Expr}
def zFG (K:PySem.W.Frag) (ta:TA):TI:=fun σ H R=>ta σ H fun vs H1=>∃a xs,vs=[.ref a]/\SqL K H1 a xs/\R (Itv K a xs) H1
theorem zDS {l:Expr} {ta:TA} {p pos:Pos} (hg:Gl X "reversed") (hm:X.mg "reversed"=none) (ha:PA X [l] ta) (hs:starEach [l] X.env=[(false,eval l X.env)]:=by rfl):
 PI X tg (.Call (.Name "reversed" p) [l] [] pos) (zFG X.K ta):=by
 intro pins s σ H R I h
 refine Call_ (z2r I hg hm boot_reversed (PyProof.Rows.callWith_type1 (thn (ha pos pins s σ H _ I h) fun us s1 ⟨vs,H1,I1,r1,q1⟩=>?_) hs rfl))
 obtain⟨a,xs,e,hq,q⟩:=q1
 subst e
 obtain⟨u,rfl,ru⟩:=vals1 r1
 cases (show u=Value.ref a from ru)
 obtain⟨its,rv,pl,hz⟩:=I1.list hq
 have hl:=rv.length
 refine call_reversed_list pl.isList ?_
 have st:Heap.IsRevIter (s1.heap.push (revObj a ((its.toArray.size:Int)-1))) s1.heap.objs.size a ((xs.length:Int)-1-((0:Nat):Int)):=by
  have e:(xs.length:Int)-1-((0:Nat):Int)=(its.toArray.size:Int)-1:=by
   rw[List.size_toArray]
   omega
  rw[e]
  exact⟨_,Heap.get?_push_size _ rfl,rfl,rfl⟩
 refine wpAny_pyIter_revIter (s:={s1 with heap:=s1.heap.push (revObj a ((its.toArray.size:Int)-1))}) st ?_
 refine⟨s1.heap.objs.size,[s1.heap.objs.size],_,_,H1,rfl,I1.kept (t':=s1.toks) fun b o e=>Heap.get?_push_of_some _ e,zBB a _ xs,st,fun b hb=>?_,q⟩
 rw[List.mem_singleton.mp hb]
 exact I1.fpOk (Nat.le_refl _) (I1.hok.fresh (Nat.le_refl _))
end
theorem zCZ {K:PySem.W.Frag} {a:Addr} {xs:List V} {g:TG} {tb:TS} {D:Ends} {σ:St} {H:Hp} (Pv:Nat->St->Hp->Prop) (h0:Pv 0 σ H) (hl:∀i σ H,i<=xs.length->Pv i σ H->SqL K H a xs)
 (hs:∀(i:Nat) x σ H,i<xs.length->xs[xs.length-1-i]?=some x->Pv i σ H->g x σ H fun σ2 H2=>tb {D with nx:=Pv (i+1),ct:=Pv (i+1),bk:=D.nx} σ2 H2) (hd:∀σ H,Pv xs.length σ H->D.nx σ H):
 ∃W:Nat->Nat->St->Hp->Prop,(∃m,W 0 m σ H)/\∀i m σ H,W i m σ H->
  ((Itv K a xs).stop i H/\D.nx σ H)\/((Itv K a xs).go i H/\∃N:St->Hp->Prop,(∀σ' H',N σ' H'->∃m',m'<m/\W (i+1) m' σ' H')/\∀x H',(Itv K a xs).yld i H x H'->g x σ H' fun σ2 H2=>tb {D with nx:=N,ct:=N,bk:=D.nx} σ2 H2):=by
 refine⟨fun i m σ H=>m=xs.length-i/\i<=xs.length/\Pv i σ H,⟨xs.length,by simp,Nat.zero_le _,h0⟩,?_⟩
 rintro i m σ H ⟨rfl,hi,p⟩
 have q:=hl i σ H hi p
 by_cases hlt:i<xs.length
 .refine .inr ⟨⟨hlt,q⟩,Pv (i+1),fun σ' H' p'=>⟨xs.length-(i+1),by omega,rfl,hlt,p'⟩,fun x H' y=>?_⟩
  obtain⟨e,y⟩:=y
  subst e
  exact hs i x σ _ hlt y p
 .have e:i=xs.length:=by omega
  subst e
  exact .inl ⟨rfl,hd σ H p⟩
section
variable {prog:Program} {w:World} {A:Around} {E:Value->Shared->Prop} {s:Shared}
theorem z1u {it t:Addr} {i:Nat} {its:Array Value} {x:Value} {Q:Value->Shared->Prop} (ti:s.heap.IsTupleIter it t i) (tt:s.heap.IsTuple t its) (hx:its[i]?=some x)
 (k:∀h',h'.IsTupleIter it t (i+1)->Heap.SameBut it s.heap h'->Q x {s with heap:=h'}):wpAny (model prog w) A (Builtin.SmallTypes.nextOf (.ref it)) Q E s:=by
 obtain⟨o,go,co,dd⟩:=id ti
 obtain⟨ot,gt,_,nt,dt⟩:=tt
 unfold Builtin.SmallTypes.nextOf
 refine wpAny_bind (wpAny_callSpecial?_slot (name:=Str.ofString "__next__") ti.typeIs F.slot_tuple_iterator_next (wpAny_call_entry F.slot_tuple_iterator_next ti.typeIs F.entry_tuple_iterator_next ?_ (F.args_tuple_iterator_next_1 _)))
 show wpAny _ _ (field (.ref it) 0>>=_) _ _ s
 refine wpAny_bind (wpAny_field go dd (x:=.ref t) rfl ?_)
 show wpAny _ _ (if(Value.ref t==Value.none)=true then _ else _) _ _ s
 rw[if_neg (show¬(Value.ref t==Value.none)=true by intro z;cases z)]
 show wpAny _ _ (field (.ref it) 1>>=_) _ _ s
 refine wpAny_bind (wpAny_field go dd (x:=.int i 0) rfl ?_)
 show wpAny _ _ (seqItems? (.ref t)>>=_) _ _ s
 refine wpAny_bind (wpAny_seqItems gt dt ?_)
 simp only[Int.toNat_natCast,hx]
 refine wpAny_bind (wpAny_setField go dd (by simp) (wpAny_pure ⟨x,rfl,wpAny_pure (k _ ?_ (Heap.SameBut.update ..))⟩))
 exact⟨_,Heap.get?_update_self _ go (Obj.isFreed_of_fields (Obj.data_mapFields dd _)),(Obj.cls_mapFields ..).trans co,by rw[Obj.data_mapFields dd];simp[rawInt]⟩
theorem z4B {it t:Addr} {i:Nat} {its:Array Value} {Q:Value->Shared->Prop} (hh:A.handled=none) (ti:s.heap.IsTupleIter it t i) (tt:s.heap.IsTuple t its) (hx:its[i]?=none)
 (k:∀h' e,Heap.ExtBut it s.heap h'->(∃o,h'.get? e=some o/\o.cls=.type "StopIteration")->E (.ref e) {s with heap:=h'}):wpAny (model prog w) A (Builtin.SmallTypes.nextOf (.ref it)) Q E s:=by
 obtain⟨o,go,co,dd⟩:=id ti
 obtain⟨ot,gt,_,nt,dt⟩:=tt
 unfold Builtin.SmallTypes.nextOf
 refine wpAny_bind (wpAny_callSpecial?_slot (name:=Str.ofString "__next__") ti.typeIs F.slot_tuple_iterator_next (wpAny_call_entry F.slot_tuple_iterator_next ti.typeIs F.entry_tuple_iterator_next ?_ (F.args_tuple_iterator_next_1 _)))
 show wpAny _ _ (field (.ref it) 0>>=_) _ _ s
 refine wpAny_bind (wpAny_field go dd (x:=.ref t) rfl ?_)
 show wpAny _ _ (if(Value.ref t==Value.none)=true then _ else _) _ _ s
 rw[if_neg (show¬(Value.ref t==Value.none)=true by intro z;cases z)]
 show wpAny _ _ (field (.ref it) 1>>=_) _ _ s
 refine wpAny_bind (wpAny_field go dd (x:=.int i 0) rfl ?_)
 show wpAny _ _ (seqItems? (.ref t)>>=_) _ _ s
 refine wpAny_bind (wpAny_seqItems gt dt ?_)
 simp only[Int.toNat_natCast,hx]
 refine wpAny_bind (wpAny_rule (wpAny_bind (wpAny_setField go dd (by simp) ?_)))
 show wpAny _ _ (newExc (.type "StopIteration") []>>=_) _ _ _
 refine wpAny_bind ?_
 simp only[newExc,newTuple]
 refine wpAny_bind (wpAny_newObj_type ?_ (by size_fits))
 refine wpAny_bind (m:=firstArgMember _ _) (wpAny_of_eq (a:=Value.none) (by first|rfl|(simp only[firstArgMember];rfl)) ?_)
 refine wpAny_newObj_type ?_ (by size_fits)
 simp only[raiseNew]
 refine wpAny_bind (wpAny_handled ?_)
 first|rw[show A.in1.handled=none from hh]|rw[hh]
 refine wpAny_bind (wpAny_pure (wpAny_throw ?_))
 exact k _ _ (((Heap.SameBut.update ..).extBut.push _).push _) ⟨_,Heap.get?_push_size _ rfl,rfl⟩
theorem z9g {z TI TO i1 i2 l1 l2:Addr} {k1 k2:Nat} {xs ys:Array Value} {x y a b:Value} {Q:Value->Shared->Prop} (D:ZipApart z TI TO i1 i2 l1 l2)
 (gz:IsZip s.heap z TI TO .none) (gI:IsPair s.heap TI (.ref i1) (.ref i2)) (gO:IsPair s.heap TO a b)
 (j1:s.heap.IsTupleIter i1 l1 k1) (j2:s.heap.IsTupleIter i2 l2 k2) (t1:s.heap.IsTuple l1 xs) (t2:s.heap.IsTuple l2 ys) (hx:xs[k1]?=some x) (hy:ys[k2]?=some y)
 (k:∀h',IsZip h' z TI TO (rawInt s.heap.objs.size)->IsPair h' TO x y->h'.IsTupleIter i1 l1 (k1+1)->h'.IsTupleIter i2 l2 (k2+1)->IsPair h' s.heap.objs.size x y->h'.objs.size=s.heap.objs.size+1->
  (∀c o,c≠z->c≠TO->c≠i1->c≠i2->s.heap.get? c=some o->h'.get? c=some o)->Q (.ref s.heap.objs.size) {s with heap:=h'}):
 wpAny (model prog w) A (Builtin.«zip.__next__» ⟨[.ref z],[]⟩) (fun fin s'=>∃v,fin=.done (.ret v)/\Q v s') E s:=by
 show wpAny _ _ (field (.ref z) 2>>=_) _ _ _
 refine wpAny_bind (wpAny_field gz rfl (x:=.bool false) rfl ?_)
 show wpAny _ _ (field (.ref z) 3>>=_) _ _ _
 refine wpAny_bind (wpAny_field gz rfl (x:=.ref TI) rfl ?_)
 refine wpAny_bind (wpAny_seqItems gI rfl ?_)
 show wpAny _ _ (Builtin.SmallTypes.ownedTupleIsFree (.ref z)>>=_) _ _ _
 refine wpAny_bind ?_
 unfold Builtin.SmallTypes.ownedTupleIsFree
 refine wpAny_bind (wpAny_field gz rfl (x:=.none) rfl (wpAny_pure ?_))
 simp only[if_true]
 refine wpAny_bind (wpAny_rule ?_)
 refine wpAny_bind (wpAny_field gz rfl (x:=.ref TO) rfl ?_)
 refine wpAny_bind (wpAny_setField_rec gz (by simp) fun q1 gz1 b1=>?_)
 replace gz1:IsZip q1 z TI TO .ellipsis:=gz1
 refine wpAny_bind ?_
 simp only[List.zipIdx_cons,List.zipIdx_nil,List.forIn_cons,List.forIn_nil]
 refine wpAny_bind (wpAny_bind (wpAny_onRaise ?_))
 show wpAny _ _ (Builtin.SmallTypes.nextOf (.ref i1)>>=_) _ _ _
 refine wpAny_bind (z1u (j1.extBut b1.extBut D.i1z) (t1.extBut b1.extBut D.l1z) hx fun q2 j12 b2=>wpAny_pure ?_)
 have gO2:IsPair q2 TO a b:=b2.extBut _ _ D.TOi1 (b1.extBut _ _ D.TOz gO)
 refine wpAny_bind (wpAny_seqItems gO2 rfl ?_)
 refine wpAny_bind (wpAny_updateSeq_pair gO2 fun q3 gO3 b3=>?_)
 replace gO3:IsPair q3 TO x b:=gO3
 refine wpAny_bind (wpAny_letGo (wpAny_pure ?_))
 refine wpAny_bind (wpAny_bind (wpAny_onRaise ?_))
 show wpAny _ _ (Builtin.SmallTypes.nextOf (.ref i2)>>=_) _ _ _
 refine wpAny_bind (z1u (((j2.extBut b1.extBut D.i2z).extBut b2.extBut D.i12.symm).extBut b3.extBut D.TOi2.symm) (((t2.extBut b1.extBut D.l2z).extBut b2.extBut D.l2i1).extBut b3.extBut D.l2TO) hy fun q4 j24 b4=>wpAny_pure ?_)
 have gO4:IsPair q4 TO x b:=b4.extBut _ _ D.TOi2 gO3
 refine wpAny_bind (wpAny_seqItems gO4 rfl ?_)
 refine wpAny_bind (wpAny_updateSeq_pair gO4 fun q5 gO5 b5=>?_)
 replace gO5:IsPair q5 TO x y:=gO5
 refine wpAny_bind (wpAny_letGo (wpAny_pure (wpAny_pure ?_)))
 refine wpAny_bind (wpAny_seqItems gO5 rfl ?_)
 refine wpAny_bind (wpAny_newTuple ?_)
 have sz:q5.objs.size=s.heap.objs.size:=by rw[b5.1,b4.1,b3.1,b2.1,b1.1]
 have gz5:IsZip q5 z TI TO .ellipsis:=b5.extBut _ _ D.TOz.symm (b4.extBut _ _ D.i2z.symm (b3.extBut _ _ D.TOz.symm (b2.extBut _ _ D.i1z.symm gz1)))
 have kk5:∀c o,c≠z->c≠TO->c≠i1->c≠i2->s.heap.get? c=some o->q5.get? c=some o:=fun c o c1 c2 c3 c4 e=>b5.extBut _ _ c2 (b4.extBut _ _ c4 (b3.extBut _ _ c2 (b2.extBut _ _ c3 (b1.extBut _ _ c1 e))))
 have j15:q5.IsTupleIter i1 l1 (k1+1):=((j12.extBut b3.extBut D.TOi1.symm).extBut b4.extBut D.i12).extBut b5.extBut D.TOi1.symm
 have j25:q5.IsTupleIter i2 l2 (k2+1):=j24.extBut b5.extBut D.TOi2.symm
 have zlt:z<q5.objs.size:=Heap.lt_size gz5
 show wpAny _ _ (Builtin.SmallTypes.ownedTupleHandOut (.ref z) (.ref q5.objs.size)>>=_) _ _ _
 refine wpAny_bind ?_
 unfold Builtin.SmallTypes.ownedTupleHandOut
 have gz6:IsZip (q5.push {cls:=.type "tuple",data:=.seq #[x,y]}) z TI TO .ellipsis:=Heap.get?_push_of_some _ gz5
 refine wpAny_bind (wpAny_setField_rec gz6 (by simp) fun q7 gz7 b7=>?_)
 replace gz7:IsZip q7 z TI TO (rawInt q5.objs.size):=gz7
 refine wpAny_setField_rec gz7 (by simp) fun q8 gz8 b8=>?_
 replace gz8:IsZip q8 z TI TO (rawInt q5.objs.size):=gz8
 have up:∀c o,c≠z->q5.get? c=some o->q8.get? c=some o:=fun c o c1 e=>b8.extBut _ _ c1 (b7.extBut _ _ c1 (Heap.get?_push_of_some _ e))
 have gT8:IsPair q8 q5.objs.size x y:=b8.extBut _ _ (Nat.ne_of_gt zlt) (b7.extBut _ _ (Nat.ne_of_gt zlt) (Heap.get?_push_size _ rfl))
 have sz8:q8.objs.size=q5.objs.size+1:=by rw[b8.1,b7.1,Heap.size_push]
 rw[sz]at gz8 gT8 sz8
 refine wpAny_pure ⟨_,rfl,?_⟩
 show Q (.ref q5.objs.size) _
 rw[sz]
 exact k q8 gz8 (up _ _ D.TOz gO5) (j15.at fun o e=>up _ o D.i1z e) (j25.at fun o e=>up _ o D.i2z e) gT8 sz8 fun c o c1 c2 c3 c4 e=>up c o c1 (kk5 c o c1 c2 c3 c4 e)
theorem zBC {z TI TO i1 i2 l1 l2:Addr} {k1 k2:Nat} {xs ys:Array Value} {a b:Value} {Q:PySem.Fin->Shared->Prop} (hh:A.handled=none) (D:ZipApart z TI TO i1 i2 l1 l2)
 (gz:IsZip s.heap z TI TO .none) (gI:IsPair s.heap TI (.ref i1) (.ref i2)) (gO:IsPair s.heap TO a b)
 (j1:s.heap.IsTupleIter i1 l1 k1) (j2:s.heap.IsTupleIter i2 l2 k2) (t1:s.heap.IsTuple l1 xs) (t2:s.heap.IsTuple l2 ys) (hend:xs[k1]?=none\/ys[k2]?=none)
 (kE:∀h' e,(∀c o,c≠z->c≠TO->c≠i1->c≠i2->s.heap.get? c=some o->h'.get? c=some o)->(∃o,h'.get? e=some o/\o.cls=.type "StopIteration")->E (.ref e) {s with heap:=h'}):
 wpAny (model prog w) A (Builtin.«zip.__next__» ⟨[.ref z],[]⟩) Q E s:=by
 show wpAny _ _ (field (.ref z) 2>>=_) _ _ _
 refine wpAny_bind (wpAny_field gz rfl (x:=.bool false) rfl ?_)
 show wpAny _ _ (field (.ref z) 3>>=_) _ _ _
 refine wpAny_bind (wpAny_field gz rfl (x:=.ref TI) rfl ?_)
 refine wpAny_bind (wpAny_seqItems gI rfl ?_)
 show wpAny _ _ (Builtin.SmallTypes.ownedTupleIsFree (.ref z)>>=_) _ _ _
 refine wpAny_bind ?_
 unfold Builtin.SmallTypes.ownedTupleIsFree
 refine wpAny_bind (wpAny_field gz rfl (x:=.none) rfl (wpAny_pure ?_))
 simp only[if_true]
 refine wpAny_bind (wpAny_rule ?_)
 refine wpAny_bind (wpAny_field gz rfl (x:=.ref TO) rfl ?_)
 refine wpAny_bind (wpAny_setField_rec gz (by simp) fun q1 gz1 b1=>?_)
 replace gz1:IsZip q1 z TI TO .ellipsis:=gz1
 refine wpAny_bind ?_
 simp only[List.zipIdx_cons,List.zipIdx_nil,List.forIn_cons,List.forIn_nil]
 refine wpAny_bind (wpAny_bind (wpAny_onRaise ?_))
 show wpAny _ _ (Builtin.SmallTypes.nextOf (.ref i1)>>=_) _ _ _
 cases hx:xs[k1]? with
 |none=>
  refine wpAny_bind (z4B hh (j1.extBut b1.extBut D.i1z) (t1.extBut b1.extBut D.l1z) hx fun q2 e b2 he=>?_)
  obtain⟨oe,ge,ce⟩:=he
  have gz2:IsZip q2 z TI TO .ellipsis:=b2 _ _ D.i1z.symm gz1
  have ez:e≠z:=fun p=>by subst p;rw[gz2]at ge;cases ge;simp at ce
  refine wpAny_setField_rec gz2 (by simp) fun q3 _ b3=>kE q3 e (fun c o c1 _ c3 _ p=>b3.extBut _ _ c1 (b2 _ _ c3 (b1.extBut _ _ c1 p))) ⟨oe,b3.extBut _ _ ez ge,ce⟩
 |some x=>
  have hy:ys[k2]?=none:=by rcases hend with h|h;rw[hx]at h;cases h;exact h
  refine wpAny_bind (z1u (j1.extBut b1.extBut D.i1z) (t1.extBut b1.extBut D.l1z) hx fun q2 j12 b2=>wpAny_pure ?_)
  have gO2:IsPair q2 TO a b:=b2.extBut _ _ D.TOi1 (b1.extBut _ _ D.TOz gO)
  refine wpAny_bind (wpAny_seqItems gO2 rfl ?_)
  refine wpAny_bind (wpAny_updateSeq_pair gO2 fun q3 gO3 b3=>?_)
  refine wpAny_bind (wpAny_letGo (wpAny_pure ?_))
  refine wpAny_bind (wpAny_bind (wpAny_onRaise ?_))
  show wpAny _ _ (Builtin.SmallTypes.nextOf (.ref i2)>>=_) _ _ _
  refine wpAny_bind (z4B hh (((j2.extBut b1.extBut D.i2z).extBut b2.extBut D.i12.symm).extBut b3.extBut D.TOi2.symm) (((t2.extBut b1.extBut D.l2z).extBut b2.extBut D.l2i1).extBut b3.extBut D.l2TO) hy fun q4 e b4 he=>?_)
  obtain⟨oe,ge,ce⟩:=he
  have gz4:IsZip q4 z TI TO .ellipsis:=b4 _ _ D.i2z.symm (b3.extBut _ _ D.TOz.symm (b2.extBut _ _ D.i1z.symm gz1))
  have ez:e≠z:=fun p=>by subst p;rw[gz4]at ge;cases ge;simp at ce
  refine wpAny_setField_rec gz4 (by simp) fun q5 _ b5=>kE q5 e (fun c o c1 c2 c3 c4 p=>b5.extBut _ _ c1 (b4 _ _ c4 (b3.extBut _ _ c2 (b2.extBut _ _ c3 (b1.extBut _ _ c1 p))))) ⟨oe,b5.extBut _ _ ez ge,ce⟩
theorem z9h {z TI TO i1 i2 l1 l2:Addr} {k1 k2:Nat} {xs ys:Array Value} {x y a b:Value} {Q:Option Value->Shared->Prop} (D:ZipApart z TI TO i1 i2 l1 l2)
 (gz:IsZip s.heap z TI TO .none) (gI:IsPair s.heap TI (.ref i1) (.ref i2)) (gO:IsPair s.heap TO a b)
 (j1:s.heap.IsTupleIter i1 l1 k1) (j2:s.heap.IsTupleIter i2 l2 k2) (t1:s.heap.IsTuple l1 xs) (t2:s.heap.IsTuple l2 ys) (hx:xs[k1]?=some x) (hy:ys[k2]?=some y)
 (k:∀h',IsZip h' z TI TO (rawInt s.heap.objs.size)->IsPair h' TO x y->h'.IsTupleIter i1 l1 (k1+1)->h'.IsTupleIter i2 l2 (k2+1)->IsPair h' s.heap.objs.size x y->h'.objs.size=s.heap.objs.size+1->
  (∀c o,c≠z->c≠TO->c≠i1->c≠i2->s.heap.get? c=some o->h'.get? c=some o)->Q (some (.ref s.heap.objs.size)) {s with heap:=h'}):
 wpAny (model prog w) A (pyNext (.ref z)) Q E s:=by
 have ty:s.TypeIs (.ref z) "zip":=⟨_,gz,rfl⟩
 unfold pyNext
 exact wpAny_bind (wpAny_attempt (wpAny_callSpecial?_slot (name:=Str.ofString "__next__") ty F.slot_zip_next (wpAny_call_entry F.slot_zip_next ty F.entry_zip_next
  (z9g D gz gI gO j1 j2 t1 t2 hx hy fun h' a1 a2 a3 a4 a5 a6 a7=>wpAny_pure (k h' a1 a2 a3 a4 a5 a6 a7)) (F.args_zip_next_1 _))))
theorem z9i {z TI TO i1 i2 l1 l2:Addr} {k1 k2:Nat} {xs ys:Array Value} {a b:Value} {Q:Option Value->Shared->Prop} (hh:A.handled=none) (D:ZipApart z TI TO i1 i2 l1 l2)
 (gz:IsZip s.heap z TI TO .none) (gI:IsPair s.heap TI (.ref i1) (.ref i2)) (gO:IsPair s.heap TO a b)
 (j1:s.heap.IsTupleIter i1 l1 k1) (j2:s.heap.IsTupleIter i2 l2 k2) (t1:s.heap.IsTuple l1 xs) (t2:s.heap.IsTuple l2 ys) (hend:xs[k1]?=none\/ys[k2]?=none)
 (k:∀h',(∀c o,c≠z->c≠TO->c≠i1->c≠i2->s.heap.get? c=some o->h'.get? c=some o)->Q none {s with heap:=h'}):wpAny (model prog w) A (pyNext (.ref z)) Q E s:=by
 have ty:s.TypeIs (.ref z) "zip":=⟨_,gz,rfl⟩
 unfold pyNext
 refine wpAny_bind (wpAny_attempt (wpAny_callSpecial?_slot (name:=Str.ofString "__next__") ty F.slot_zip_next (wpAny_call_entry F.slot_zip_next ty F.entry_zip_next
  (zBC hh D gz gI gO j1 j2 t1 t2 hend fun h' e kk he=>?_) (F.args_zip_next_1 _))))
 obtain⟨o,ho,hc⟩:=he
 refine wpAny_bind (wpAny_isInstance (T:="StopIteration") (b:=true) ⟨o,ho,hc⟩ isSubtype_stop ?_)
 exact wpAny_pure (k _ kk)
abbrev zt1 (h:Heap) (l1:Addr):Heap:=h.push {cls:=.type "tuple_iterator",data:=.fields #[.ref l1,.int 0 0]}
abbrev zt2 (h:Heap) (l1 l2:Addr):Heap:=(zt1 h l1).push {cls:=.type "tuple_iterator",data:=.fields #[.ref l2,.int 0 0]}
noncomputable abbrev zt3 (h:Heap) (l1 l2:Addr):Heap:=(zt2 h l1 l2).push {cls:=.type "tuple",data:=.seq #[.ref h.objs.size,.ref (zt1 h l1).objs.size]}
noncomputable abbrev zt4 (h:Heap) (l1 l2:Addr):Heap:=(zt3 h l1 l2).push {cls:=.type "tuple",data:=.seq #[.none,.none]}
noncomputable abbrev zt5 (h:Heap) (l1 l2:Addr):Heap:=(zt4 h l1 l2).push {cls:=.type "zip",data:=.fields #[.none,.bool false,.bool false,.ref (zt2 h l1 l2).objs.size,.ref (zt3 h l1 l2).objs.size]}
theorem z8X (l1 l2:Addr) (xs ys:Array Value):
 Meets (Builtin.«zip.__new__» ⟨[.type "zip",.ref l1,.ref l2],[]⟩) (fun _ R s=>s.heap.IsTuple l1 xs/\s.heap.IsTuple l2 ys/\R (.ok (.ret (.ref (zt4 s.heap l1 l2).objs.size))) {s with heap:=zt5 s.heap l1 l2}):=
 .of_wp fun prog w A R s h=>by
  obtain⟨hp,g,d,tk,os⟩:=s
  obtain⟨t1,t2,h⟩:=h
  have hsub:=sub_zip
  have hL1:Heap.IsTuple (Shared.heap ⟨hp,g,d,tk,os⟩) l1 xs:=t1
  have hL2:Heap.IsTuple (Shared.heap ⟨hp.push {cls:=.type "tuple_iterator",data:=.fields #[.ref l1,.int 0 0]},g,d,tk,os⟩) l2 ys:=t2.at fun o e=>Heap.get?_push_of_some _ e
  wp_walk using wpAny_pyIter_tuple hL1,wpAny_pyIter_tuple hL2
  exact⟨_,rfl,h⟩
theorem z9j {l1 l2:Addr} {xs ys:Array Value} {Q:Value->Shared->Prop} (t1:s.heap.IsTuple l1 xs) (t2:s.heap.IsTuple l2 ys)
 (h:∀h',IsZip h' (s.heap.objs.size+4) (s.heap.objs.size+2) (s.heap.objs.size+3) .none->IsPair h' (s.heap.objs.size+2) (.ref s.heap.objs.size) (.ref (s.heap.objs.size+1))->
  IsPair h' (s.heap.objs.size+3) .none .none->h'.IsTupleIter s.heap.objs.size l1 0->h'.IsTupleIter (s.heap.objs.size+1) l2 0->h'.objs.size=s.heap.objs.size+5->
  (∀c o,s.heap.get? c=some o->h'.get? c=some o)->Q (.ref (s.heap.objs.size+4)) {s with heap:=h'}):
 wpAny (model prog w) A (call (.type "zip") [.ref l1,.ref l2]) Q E s:=by
 refine callType_new F.called_zip (by decide) (F.typeCall_zip_2 _ _) (F.newCall_zip_2 _ _) (fun obj=>F.args_object_init_3 obj _ _) F.entry_zip_new (z8X l1 l2 xs ys) ⟨t1,t2,?_⟩
 have z1:(zt1 s.heap l1).objs.size=s.heap.objs.size+1:=Heap.size_push ..
 have z2:(zt2 s.heap l1 l2).objs.size=s.heap.objs.size+2:=by rw[Heap.size_push,z1]
 have z3:(zt3 s.heap l1 l2).objs.size=s.heap.objs.size+3:=by rw[Heap.size_push,z2]
 have z4:(zt4 s.heap l1 l2).objs.size=s.heap.objs.size+4:=by rw[Heap.size_push,z3]
 have z5:(zt5 s.heap l1 l2).objs.size=s.heap.objs.size+5:=by rw[Heap.size_push,z4]
 have g5:(zt5 s.heap l1 l2).get? (zt4 s.heap l1 l2).objs.size=some _:=Heap.get?_push_size _ rfl
 have g4:(zt5 s.heap l1 l2).get? (zt3 s.heap l1 l2).objs.size=some _:=Heap.get?_push_of_some _ (Heap.get?_push_size _ rfl)
 have g3:(zt5 s.heap l1 l2).get? (zt2 s.heap l1 l2).objs.size=some _:=Heap.get?_push_of_some _ (Heap.get?_push_of_some _ (Heap.get?_push_size _ rfl))
 have g2:(zt5 s.heap l1 l2).get? (zt1 s.heap l1).objs.size=some _:=Heap.get?_push_of_some _ (Heap.get?_push_of_some _ (Heap.get?_push_of_some _ (Heap.get?_push_size _ rfl)))
 have g1:(zt5 s.heap l1 l2).get? s.heap.objs.size=some _:=Heap.get?_push_of_some _ (Heap.get?_push_of_some _ (Heap.get?_push_of_some _ (Heap.get?_push_of_some _ (Heap.get?_push_size _ rfl))))
 show _/\_
 rw[z2,z3,z4]at g5
 rw[z1,z2]at g3
 rw[z3]at g4
 rw[z1]at g2
 rw[z4]
 exact⟨⟨_,g5,rfl⟩,h _ g5 g3 g4 ⟨_,g1,rfl,rfl⟩ ⟨_,g2,rfl,rfl⟩ z5 fun c o p=>Heap.get?_push_of_some _ (Heap.get?_push_of_some _ (Heap.get?_push_of_some _ (Heap.get?_push_of_some _ (Heap.get?_push_of_some _ p))))⟩
end
def Itz (K:PySem.W.Frag) (a b:Addr) (xs ys:List V):It:=
 ⟨fun i H=>SqT K H a xs/\SqT K H b ys/\i<xs.length/\i<ys.length,fun i H x H'=>∃T u v,H T=none/\x=.ref T/\H'=upd H T (.tup [u,v])/\xs[i]?=some u/\ys[i]?=some v,
  fun i H=>SqT K H a xs/\SqT K H b ys/\(xs.length<=i\/ys.length<=i)⟩
theorem z9k {P:Program} {w:World} {K:PySem.W.Frag} {es:List Expr} {k:Nat} {pos:Pos} (z TI TO i1 i2 a b:Addr) (xs ys:List V) (D:ZipApart z TI TO i1 i2 a b):
 Turn P w K (.Tuple es k pos) (Itz K a b xs ys) [z,TI,TO,i1,i2] z (fun i h=>IsZip h z TI TO .none/\IsPair h TI (.ref i1) (.ref i2)/\(∃u v,IsPair h TO u v)/\h.IsTupleIter i1 a i/\h.IsTupleIter i2 b i) where
 mem:=List.mem_cons_self
 obj:=fun i h st c hc=>by
  obtain⟨gz,gI,⟨u,v,gO⟩,⟨o1,e1,c1,d1⟩,⟨o2,e2,c2,d2⟩⟩:=st
  simp only[List.mem_cons,List.mem_nil_iff,or_false]at hc
  rcases hc with rfl|rfl|rfl|rfl|rfl
  .exact⟨_,gz,fun v q=>by cases q⟩
  .exact⟨_,gI,fun v q=>by cases q⟩
  .exact⟨_,gO,fun v q=>by cases q⟩
  .exact⟨o1,e1,fun v q=>by rw[d1]at q;cases q⟩
  .exact⟨o2,e2,fun v q=>by rw[d2]at q;cases q⟩
 keep:=fun i h h' st kk=>by
  obtain⟨gz,gI,⟨u,v,gO⟩,j1,j2⟩:=st
  exact⟨kk z (by simp) _ gz,kk TI (by simp) _ gI,⟨u,v,kk TO (by simp) _ gO⟩,j1.at fun o e=>kk i1 (by simp) o e,j2.at fun o e=>kk i2 (by simp) o e⟩
 item:=by
  intro X hP hw hK hc i pins s σ H E I hf st hg
  subst hP hw hK
  obtain⟨ha,hb,hi,hj⟩:=hg
  obtain⟨gz,gI,⟨p,q,gO⟩,j1,j2⟩:=st
  obtain⟨its1,rv1,t1,_⟩:=I.tuple ha
  obtain⟨its2,rv2,t2,_⟩:=I.tuple hb
  have hx:xs[i]?=some xs[i]:=List.getElem?_eq_getElem hi
  have hy:ys[i]?=some ys[i]:=List.getElem?_eq_getElem hj
  obtain⟨u,hu,ru⟩:=rv1.get hx
  obtain⟨v,hv,rv⟩:=rv2.get hy
  have nT:H s.heap.objs.size=none:=I.hok.fresh (Nat.le_refl _)
  have F0:∀c∈[z,TI,TO,i1,i2],H c=none:=fun c hc'=>(hf c hc').1
  refine z9h D gz gI gO j1 j2 (show s.heap.IsTuple a its1.toArray from t1) (show s.heap.IsTuple b its2.toArray from t2) (x:=u) (y:=v) (by simpa using hu) (by simpa using hv) fun h' a1 a2 a3 a4 a5 a6 a7=>?_
  refine⟨.ref s.heap.objs.size,rfl,wpAny_letOwnedTupleGo_zip a1 fun h'' gz'' sb=>?_⟩
  have lt:∀{c o},s.heap.get? c=some o->c≠s.heap.objs.size:=fun e=>Nat.ne_of_lt (Heap.lt_size e)
  have kk:∀c o,c∉[z,TO,i1,i2]->s.heap.get? c=some o->h''.get? c=some o:=fun c o hc' e=>by
   simp only[List.mem_cons,List.mem_nil_iff,or_false,not_or]at hc'
   exact(sb.2 c hc'.1).trans (a7 c o hc'.1 hc'.2.1 hc'.2.2.1 hc'.2.2.2 e)
  have gT:IsPair h'' s.heap.objs.size u v:=(sb.2 _ (Ne.symm (lt gz))).trans a5
  have nb:∀c y,H c=some y->c∉[z,TO,i1,i2]:=fun c y e hc'=>by
   have:=F0 c (by simp only[List.mem_cons,List.mem_nil_iff,or_false]at hc'⊢;rcases hc' with h|h|h|h<;>simp[h])
   rw[this]at e
   cases e
  have sub:∀c,c∈[z,TO,i1,i2]->c∈[z,TI,TO,i1,i2]:=fun c hc'=>by
   simp only[List.mem_cons,List.mem_nil_iff,or_false]at hc'⊢
   rcases hc' with h|h|h|h<;>simp[h]
  have I1:Inv X pins σ (upd H s.heap.objs.size (.tup [xs[i],ys[i]])) {s with heap:=h'',toks:=s.toks}:=by
   refine I.step (g':=s.gens) (d':=s.drawn) (ch:=[z,TO,i1,i2]) (fun c hc'=>?_) (fun c o _ _ hc' e _=>kk c o hc' e) (fun c o _ _ hc' e _=>⟨o.slots,kk c o hc' e⟩) (fun c o _ e n=>?_)
    (fun c o hc' e=>⟨o,kk c o hc' e⟩) (fun c zs e=>?_) (fun c ob y e=>?_) (fun c ps e=>⟨#[],?_⟩) (fun m hm=>?_) (fun c y e=>?_) I.bare
   .obtain⟨_,f1,_,f3,f4,f5⟩:=hf c (sub c hc')
    exact⟨f3,f1,f4,f5⟩
   .rw[z06 (lt e)]
    exact n
   .rw[z06 (z0A e nT)]
    exact e
   .rw[z06 (z0A e nT)]
    exact e
   .rw[z06 (z0A e nT),e]
    simp
   .obtain⟨o,es',ep,ho',r⟩:=hm
    refine⟨o,es',ep,kk _ o (fun hc'=>?_) ho',r⟩
    exact(hf _ (sub _ hc')).2.1 rfl
   .by_cases hb':c=s.heap.objs.size
    .subst hb'
     rw[upd_same]at e
     cases e
     exact⟨by show 2<=sizeLine;decide,[u,v],.cons ru (.cons rv .nil),_,gT,rfl,_,rfl⟩
    .rw[z06 hb']at e
     refine(I.hok c y e).stay (fun d o hd e'=>?_) (fun d e'=>by rw[z06 (z0A e' nT)];exact e') fun d zs e'=>by rw[z06 (z0A e' nT)];exact e'
     rcases hd with h|h
     .subst h
      exact kk d o (nb d y e) e'
     .exact kk d o (nb d _ h) e'
  refine⟨.ref s.heap.objs.size,_,I1,rfl,⟨_,xs[i],ys[i],nT,rfl,rfl,hx,hy⟩,⟨gz'',(sb.2 _ D.TIz).trans (a7 _ _ D.TIz D.TITO D.TIi1 D.TIi2 gI),⟨_,_,(sb.2 _ D.TOz).trans a2⟩,a3.at fun o e=>(sb.2 _ D.i1z).trans e,a4.at fun o e=>(sb.2 _ D.i2z).trans e⟩,fun c hc'=>?_⟩
  rw[z06]
  .exact F0 c hc'
  .simp only[List.mem_cons,List.mem_nil_iff,or_false]at hc'
   rcases hc' with rfl|rfl|rfl|rfl|rfl
   .exact lt gz
   .exact lt gI
   .exact lt gO
   .obtain⟨_,e,_⟩:=j1;exact lt e
   .obtain⟨_,e,_⟩:=j2;exact lt e
 done:=by
  intro X hP hw hK hc i pins s σ H E I hf st hg
  subst hP hw hK
  obtain⟨ha,hb,hend⟩:=hg
  obtain⟨gz,gI,⟨p,q,gO⟩,j1,j2⟩:=st
  obtain⟨its1,rv1,t1,_⟩:=I.tuple ha
  obtain⟨its2,rv2,t2,_⟩:=I.tuple hb
  have l1:=rv1.length
  have l2:=rv2.length
  have hend':its1.toArray[i]?=none\/its2.toArray[i]?=none:=by
   rcases hend with h|h
   .exact .inl (by rw[List.getElem?_toArray];exact List.getElem?_eq_none (by omega))
   .exact .inr (by rw[List.getElem?_toArray];exact List.getElem?_eq_none (by omega))
  have sub:∀c,c∈[z,TO,i1,i2]->c∈[z,TI,TO,i1,i2]:=fun c hc'=>by
   simp only[List.mem_cons,List.mem_nil_iff,or_false]at hc'⊢
   rcases hc' with h|h|h|h<;>simp[h]
  have nb:∀c y,H c=some y->c∉[z,TO,i1,i2]:=fun c y e hc'=>by
   rw[(hf c (sub c hc')).1]at e
   cases e
  refine z9i (I.ok.hd hc) D gz gI gO j1 j2 (show s.heap.IsTuple a its1.toArray from t1) (show s.heap.IsTuple b its2.toArray from t2) hend' fun h' a7=>⟨rfl,?_⟩
  have kk:∀c o,c∉[z,TO,i1,i2]->s.heap.get? c=some o->h'.get? c=some o:=fun c o hc' e=>by
   simp only[List.mem_cons,List.mem_nil_iff,or_false,not_or]at hc'
   exact a7 c o hc'.1 hc'.2.1 hc'.2.2.1 hc'.2.2.2 e
  refine I.step (t':=s.toks) (g':=s.gens) (d':=s.drawn) (ch:=[z,TO,i1,i2]) (fun c hc'=>?_) (fun c o _ _ hc' e _=>kk c o hc' e) (fun c o _ _ hc' e _=>⟨o.slots,kk c o hc' e⟩) (fun c o _ e n=>n)
   (fun c o hc' e=>⟨o,kk c o hc' e⟩) (fun c zs e=>e) (fun c ob y e=>e) (fun c ps e=>⟨#[],by rw[e];simp⟩) (fun m hm=>?_) (fun c y e=>?_) I.bare
  .obtain⟨_,f1,_,f3,f4,f5⟩:=hf c (sub c hc')
   exact⟨f3,f1,f4,f5⟩
  .obtain⟨o,es',ep,ho',r⟩:=hm
   exact⟨o,es',ep,kk _ o (fun hc'=>(hf _ (sub _ hc')).2.1 rfl) ho',r⟩
  .refine(I.hok c y e).stay (fun d o hd e'=>?_) (fun d e'=>e') fun d zs e'=>e'
   rcases hd with h|h
   .subst h
    exact kk d o (nb d y e) e'
   .exact kk d o (nb d _ h) e'
 self:=fun _ _ _ _ _ st h=>wpAny_pyIter_zip st.1 h
section
variable {X:Cx}
def zFH (K:PySem.W.Frag) (ta:TA):TI:=fun σ H R=>ta σ H fun vs H1=>∃a b xs ys,vs=[.ref a,.ref b]/\SqT K H1 a xs/\SqT K H1 b ys/\R (Itz K a b xs ys) H1
theorem zBz {l1 l2:Expr} {ta:TA} {p pos:Pos} {es:List Expr} {k:Nat} {tp:Pos} (hg:Gl X "zip") (hm:X.mg "zip"=none) (ha:PA X [l1,l2] ta) (hs:starEach [l1,l2] X.env=[(false,eval l1 X.env),(false,eval l2 X.env)]:=by rfl) (hs2:starEach [l2] X.env=[(false,eval l2 X.env)]:=by rfl):
 PI X (.Tuple es k tp) (.Call (.Name "zip" p) [l1,l2] [] pos) (zFH X.K ta):=by
 intro pins s σ H R I h
 refine Call_ (z2r I hg hm boot_zip (PyProof.Rows.callWith_type1 (thn (ha pos pins s σ H _ I h) fun us s1 ⟨vs,H1,I1,r1,q1⟩=>?_) (by rw[hs,hs2]) (by rw[hs2];rfl)))
 obtain⟨a,b,xs,ys,e,ta',tb',q⟩:=q1
 subst e
 obtain⟨u,v,rfl,ru,rv⟩:=vals2 r1
 cases (show u=Value.ref a from ru)
 cases (show v=Value.ref b from rv)
 obtain⟨its1,rv1,t1,_⟩:=I1.tuple ta'
 obtain⟨its2,rv2,t2,_⟩:=I1.tuple tb'
 have la:a<s1.heap.objs.size:=by obtain⟨_,e,_⟩:=t1;exact Heap.lt_size e
 have lb:b<s1.heap.objs.size:=by obtain⟨_,e,_⟩:=t2;exact Heap.lt_size e
 refine z9j (show s1.heap.IsTuple a its1.toArray from t1) (show s1.heap.IsTuple b its2.toArray from t2) fun h' a1 a2 a3 a4 a5 a6 a7=>?_
 refine wpAny_pyIter_zip (s:={s1 with heap:=h'}) a1 ?_
 refine⟨s1.heap.objs.size+4,[s1.heap.objs.size+4,s1.heap.objs.size+2,s1.heap.objs.size+3,s1.heap.objs.size,s1.heap.objs.size+1],_,_,H1,rfl,I1.kept (t':=s1.toks) a7,
  z9k _ _ _ _ _ a b xs ys (zipApart_new la lb),⟨a1,a2,⟨_,_,a3⟩,a4,a5⟩,fun c hc=>?_,q⟩
 have ge:s1.heap.objs.size<=c:=by
  simp only[List.mem_cons,List.mem_nil_iff,or_false]at hc
  rcases hc with e|e|e|e|e<;>rw[e]
  .exact Nat.le_add_right _ _
  .exact Nat.le_add_right _ _
  .exact Nat.le_add_right _ _
  .exact Nat.le_refl _
  .exact Nat.le_add_right _ _
 exact I1.fpOk ge (I1.hok.fresh ge)
end
noncomputable def zDT (sc dsc:Scope) (N:List Str) (ix:List Nat):Bool:=
 sc.kind==.function&&sc.names.all (fun y=>y.2 !=.cell)&&sc.names.all (fun y=>y.2 !=.free||dsc.names.lookup y.1==some .cell||dsc.names.lookup y.1==some .free)&&
  sc.names.all (fun y=>y.2 !=.local||sc.names.lookup y.1==some .local)&&ix.all (fun i=>match N[i]? with|some x=>sc.names.lookup x==some .free|none=>false)
theorem BlkSc.look {X:Cx} {sc dsc:Scope} {locs N:List Str} {ix:List Nat} (hs:X.env.scope=dsc) (hN:X.N=N) (c:zDT sc dsc N ix=true):BlkSc X sc locs ix:=by
 unfold zDT at c
 rw[Bool.and_eq_true,Bool.and_eq_true,Bool.and_eq_true,Bool.and_eq_true]at c
 obtain⟨⟨⟨⟨c1,c2⟩,c3⟩,c4⟩,c5⟩:=c
 refine⟨by simpa using c1,fun y hy=>?_,fun y hy hk=>?_,fun y hy hk=>?_,fun i hi=>?_⟩
 .simpa using List.all_eq_true.mp c2 y hy
 .have q:=List.all_eq_true.mp c3 y hy
  have z:X.env.kindOf y.1=dsc.names.lookup y.1:=by rw[<-hs];rfl
  rw[z]
  rw[hk]at q
  simpa using q
 .have q:=List.all_eq_true.mp c4 y hy
  rw[hk]at q
  simpa using q
 .have q:=List.all_eq_true.mp c5 i hi
  rw[hN]
  cases hx:N[i]? with
  |none=>rw[hx]at q;cases q
  |some x=>
   rw[hx]at q
   exact⟨x,rfl,by simpa using q⟩
section
variable {X:Cx} {sc:Scope} {cl:List (Str × Addr)} {C:Addr} {N:List Str} {fp:List Addr} {s2:Shared} {H2:Hp} {pn:List (Addr × Obj)}
theorem z5C:IxR (cxC X sc cl C N fp s2 H2 pn) (zEL X.K):=ix_list
theorem z1H:IxR (cxC X sc cl C N fp s2 H2 pn) (zEM X.K):=ix_tup
theorem zCa:IxR (cxC X sc cl C N fp s2 H2 pn) (rIx X.K):=z48
theorem z5D {es:List Expr} {k n:Nat} {t:TGs} {pos:Pos} (hc:X.calm=true) (h:PGs (cxC X sc cl C N fp s2 H2 pn) es t)
 (hn:(assignEach es (cxC X sc cl C N fp s2 H2 pn).env).length=n:=by rfl) (hst:(assignEach es (cxC X sc cl C N fp s2 H2 pn).env).findIdx? (·.1)=none:=by rfl):
 PG (cxC X sc cl C N fp s2 H2 pn) (.Tuple es k pos) (zEq X.K n t):=z5n hc h hn hst
end
theorem z0i {J:It} {n:Nat} {g:TG} {te:TE} {σ0:St} {H1:Hp} {Fin:List V->Hp->Prop} (Pv:Nat->St->List V->Hp->Prop) (h0:Pv 0 σ0 [] H1) (hn:n<=sizeLine) (len:∀i σ ys H,Pv i σ ys H->ys.length=i)
 (stop:∀σ ys H,Pv n σ ys H->J.stop n H) (go:∀i σ ys H,i<n->Pv i σ ys H->J.go i H)
 (hs:∀i σ ys H x H' (Z:St->List V->Hp->Prop),i<n->Pv i σ ys H->J.yld i H x H'->(∀σ' ys' H',Pv (i+1) σ' ys' H'->Z σ' ys' H')->g x σ H' fun σ2 H2=>te σ2 H2 fun y H3=>Z σ2 (ys++[y]) H3) (hd:∀σ ys H,Pv n σ ys H->Fin ys H):
 ∃W:Nat->Nat->St->List V->Hp->Prop,(∃m,W 0 m σ0 [] H1)/\z9c J g zEu te Fin W:=by
 refine⟨fun i m σ ys H=>m=n-i/\i<=n/\Pv i σ ys H,⟨n,rfl,Nat.zero_le _,h0⟩,?_⟩
 rintro i m σ ys H ⟨rfl,hi,p⟩
 by_cases hlt:i<n
 .refine .inr ⟨go i σ ys H hlt p,by rw[len i σ ys H p];omega,fun x H' y=>?_⟩
  have q:=hs i σ ys H x H' (fun σ2 ys2 H3=>∃m',m'<n-i/\m'=n-(i+1)/\i+1<=n/\Pv (i+1) σ2 ys2 H3) hlt p y fun σ' ys' H'' p'=>⟨n-(i+1),by omega,rfl,hlt,p'⟩
  exact q
 .have e:i=n:=by omega
  subst e
  exact .inl ⟨stop σ ys H p,by rw[len i σ ys H p];exact hn,hd σ ys H p⟩
def Alk:Nat->Hp->V->V->Prop
 |0,_,_,_=>False
 |n+1,H,x,y=>(x=y/\(x=.non\/(∃b,x=.bl b)\/(∃i,x=.int i)\/∃z,x=.str z))\/
   ∃a b xs ys,x=.ref a/\y=.ref b/\((H a=some (.lst xs)/\H b=some (.lst ys))\/(H a=some (.tup xs)/\H b=some (.tup ys)))/\xs.length<=1000000/\xs.length=ys.length/\∀(i:Nat) u v,xs[i]?=some u->ys[i]?=some v->Alk n H u v
theorem Alk.int {n:Nat} {H:Hp} (i:Int):Alk (n+1) H (.int i) (.int i):=.inl ⟨rfl,.inr (.inr (.inl ⟨i,rfl⟩))⟩
theorem Alk.non {n:Nat} {H:Hp}:Alk (n+1) H .non .non:=.inl ⟨rfl,.inl rfl⟩
theorem Alk.bl {n:Nat} {H:Hp} (b:Bool):Alk (n+1) H (.bl b) (.bl b):=.inl ⟨rfl,.inr (.inl ⟨b,rfl⟩)⟩
structure BltA (mg:Str->Option Value):Prop where
 isi:mg "isinstance"=none
 tup:mg "tuple"=none
 lst:mg "list"=none
 boo:mg "bool"=none
 str:mg "str"=none
 int:mg "int"=none
 len:mg "len"=none
 all:mg "all"=none
 rng:mg "range"=none
end L2
namespace G
open PySem
noncomputable def z09:List (Option Int)->Int
 |[]=>0
 |c::r=>c.getD 0+16*z09 r
noncomputable def z0J:List (Option Int)->Int
 |[]=>0
 |c::r=>(if c.isSome=true then 1 else 0)+2*z0J r
def Cell (c:Option Int):Prop:=∀z,c=some z->0<=z/\z<=15
def Cells (r:List (Option Int)):Prop:=∀c∈r,Cell c
theorem Cells.tail {c:Option Int} {r:List (Option Int)} (h:Cells (c::r)):Cells r:=fun d hd=>h d (List.mem_cons_of_mem _ hd)
theorem Cell.get {c:Option Int} (h:Cell c):0<=c.getD 0/\c.getD 0<=15:=by
 cases c with
 |none=>exact⟨by decide,by decide⟩
 |some z=>exact h z rfl
theorem z5E (n:Nat):(16:Int)^(n+1)=16*16^n:=by rw[Int.pow_succ,Int.mul_comm]
theorem z94 (n:Nat):(2:Int)^(n+1)=2*2^n:=by rw[Int.pow_succ,Int.mul_comm]
theorem z60:∀n:Nat,(0:Int)<16^n
 |0=>by decide
 |n+1=>by have:=z60 n;rw[z5E];omega
theorem z38:∀n:Nat,(0:Int)<2^n
 |0=>by decide
 |n+1=>by have:=z38 n;rw[z94];omega
theorem z2m:∀{r:List (Option Int)},Cells r->0<=z09 r/\z09 r<16^r.length
 |[],_=>⟨by decide,by decide⟩
 |c::r,h=>by
  have ih:=z2m h.tail
  have hc:=(h c List.mem_cons_self).get
  show 0<=c.getD 0+16*z09 r/\c.getD 0+16*z09 r<16^(r.length+1)
  rw[z5E]
  omega
theorem z2g:∀(r:List (Option Int)),0<=z0J r/\z0J r<2^r.length
 |[]=>⟨by decide,by decide⟩
 |c::r=>by
  have ih:=z2g r
  show 0<=(if c.isSome=true then 1 else 0)+2*z0J r/\(if c.isSome=true then 1 else 0)+2*z0J r<(2:Int)^(r.length+1)
  rw[z94]
  split<;>omega
theorem z4k (c:Option Int):∀r:List (Option Int),z09 (r++[c])=z09 r+c.getD 0*16^r.length
 |[]=>by show c.getD 0+16*0=0+c.getD 0*1;omega
 |d::r=>by
  have ih:=z4k c r
  show d.getD 0+16*z09 (r++[c])=d.getD 0+16*z09 r+c.getD 0*16^(r.length+1)
  rw[ih,z5E,Int.mul_add,<-Int.mul_assoc,Int.mul_comm 16 (c.getD 0),Int.mul_assoc,Int.add_assoc]
theorem z61 (c:Option Int):∀r:List (Option Int),z0J (r++[c])=z0J r+(if c.isSome=true then 1 else 0)*2^r.length
 |[]=>by show(if c.isSome=true then 1 else 0)+2*0=0+(if c.isSome=true then(1:Int)else 0)*1;omega
 |d::r=>by
  have ih:=z61 c r
  show(if d.isSome=true then 1 else 0)+2*z0J (r++[c])=(if d.isSome=true then 1 else 0)+2*z0J r+(if c.isSome=true then(1:Int)else 0)*2^(r.length+1)
  rw[ih,z94,Int.mul_add,<-Int.mul_assoc,Int.mul_comm 2 (if c.isSome=true then(1:Int)else 0),Int.mul_assoc,Int.add_assoc]
theorem zCb (a d k:Nat) (h:d<2^k):(2^k*a)&&&d=0:=by
 have e1:d&&&(2^k-1)=d:=by rw[Nat.and_two_pow_sub_one_eq_mod,Nat.mod_eq_of_lt h]
 have e2:(2^k*a)&&&(2^k-1)=0:=by rw[Nat.and_two_pow_sub_one_eq_mod,Nat.mul_mod_right]
 have f:(2^k*a)&&&(d&&&(2^k-1))=((2^k*a)&&&(2^k-1))&&&d:=by rw[Nat.and_comm d (2^k-1),Nat.and_assoc]
 rw[e1,e2,Nat.zero_and]at f
 exact f
theorem z4l (k:Nat):((2^k:Nat):Int)=(2:Int)^k:=by
 induction k with
 |zero=>rfl
 |succ k ih=>rw[Nat.pow_succ,Int.natCast_mul,ih,Int.pow_succ];rfl
theorem z6u {p c:Int} {k:Nat} (p0:0<=p) (p1:p<2^k) (c0:0<=c):Builtin.bitOr p (c*2^k)=p+c*2^k:=by
 obtain⟨P,rfl⟩:=Int.eq_ofNat_of_zero_le p0
 obtain⟨C,rfl⟩:=Int.eq_ofNat_of_zero_le c0
 have e:((C:Int)*2^k)=((2^k*C:Nat):Int):=by rw[Int.natCast_mul,z4l,Int.mul_comm]
 rw[e,PyProof.Rows.bitOr_and,PyProof.Rows.bitAnd_pp (Int.natCast_nonneg _) (Int.natCast_nonneg _),Int.toNat_natCast,Int.toNat_natCast]
 have hP:P<2^k:=by
  rw[<-z4l]at p1
  omega
 rw[Nat.and_comm,zCb C P k hP]
 omega
theorem zC0 (x:Nat):(2:Int)^(4*x)=16^x:=by
 induction x with
 |zero=>rfl
 |succ x ih=>
  rw[show 4*(x+1)=4*x+1+1+1+1 by omega,z94,z94,z94,z94,ih,z5E]
  omega
end G
namespace L2
open PySem PySem.Spec PyProof.Rows G
def z0X:Option Int->V
 |none=>.non
 |some z=>.int z
structure RowsAt (H:Hp) (l:Addr) (ps:List Addr) (rows:List (List (Option Int))):Prop where
 lst:H l=some (.lst (ps.map V.ref))
 len:ps.length=rows.length
 row:∀(i:Nat) p r,ps[i]?=some p->rows[i]?=some r->H p=some (.lst (r.map z0X))
theorem RowsAt.mono {H H':Hp} {l:Addr} {ps:List Addr} {rows:List (List (Option Int))} (s:Same H H') (h:RowsAt H l ps rows):RowsAt H' l ps rows:=⟨s _ _ h.lst,h.len,fun i p r e1 e2=>s _ _ (h.row i p r e1 e2)⟩
structure Rect (w h:Nat) (rows:List (List (Option Int))):Prop where
 len:rows.length=h
 h1:1<=h
 h2:h<=64
 w1:1<=w
 w2:w<=64
 row:∀r∈rows,r.length=w/\Cells r
def PicAt (H:Hp) (p:Addr) (w:Nat) (rows:List (List (Option Int))):Prop:=
 ∃pp pm,H p=some (.tup [.int (w:Int),.int (rows.length:Int),.ref pp,.ref pm])/\H pp=some (.tup ((rows.map z09).map V.int))/\H pm=some (.tup ((rows.map z0J).map V.int))
theorem PicAt.mono {H H':Hp} {p:Addr} {w:Nat} {rows:List (List (Option Int))} (s:Same H H') (h:PicAt H p w rows):PicAt H' p w rows:=by
 obtain⟨pp,pm,h1,h2,h3⟩:=h
 exact⟨pp,pm,s _ _ h1,s _ _ h2,s _ _ h3⟩
theorem Alk.cell {n:Nat} {H:Hp} (c:Option Int):Alk (n+1) H (z0X c) (z0X c):=by
 cases c with
 |none=>exact Alk.non
 |some z=>exact Alk.int z
noncomputable def look (w h:Nat) (rows:List (List (Option Int))) (x y:Int):Option Int:=if 0<=x/\x<w/\0<=y/\y<h then(rows.getD y.toNat []).getD x.toNat none else none
theorem zDU {zs:List Int} {y:Int} {z:Int} (h0:0<=y) (h:zs[y.toNat]?=some z):atI (zs.map V.int) y=some (.int z):=by
 have e:y=((y.toNat:Nat):Int):=by omega
 rw[e]
 exact z0x (by rw[List.getElem?_map,h];rfl)
def zC1 (K:PySem.W.Frag):Sp:=fun vs H Q _=>∃(a:Addr) (ns:List Int) (k w h:Int),vs=[.ref a,.int k,.int w,.int h]/\SqL K H a (ns.map V.int)/\0<=k/\k<10000/\1<=w/\w<=64/\1<=h/\h<=64/\
 ∀l ps rows H',Same H H'->H l=none->(∀p∈ps,H p=none)->RowsAt H' l ps rows->Rect w.toNat h.toNat rows->Q (.ref l) H'
def z5F:Sp:=fun vs H Q _=>∃l ps rows w h,vs=[.ref l]/\RowsAt H l ps rows/\Rect w h rows/\∀p H',Same H H'->PicAt H' p w rows->Q (.ref p) H'
def z9l:Sp:=fun vs H Q _=>∃l r,vs=[.ref l]/\H l=some (.lst (r.map z0X))/\Cells r/\r.length<=64/\∀H',Same H H'->Q (.int (z09 r)) H'
def zC2:Sp:=fun vs H Q _=>∃l r,vs=[.ref l]/\H l=some (.lst (r.map z0X))/\Cells r/\r.length<=64/\∀H',Same H H'->Q (.int (z0J r)) H'
theorem zFI (x:Int):Builtin.bitAnd x 1=x%2:=bitAnd_m1 x
structure Ow (P:Program) (w:World) (K:PySem.W.Frag) (mg:Str->Option Value) (base:Heap) (x:Str) (ps:List Str) (k:Nat) (sp:Sp):Prop where
 ex:∃(f:Addr) (fd:FuncData),mg x=some (.ref f)/\PySem.W.keepIn K (.ref f)=true/\Binds K fd ps []/\FnOk P w K mg base CX0 k f fd ps sp
theorem Df.ow {P:Program} {w:World} {K:PySem.W.Frag} {mg:Str->Option Value} {base:Heap} {x:Str} {st:Stmt} {ps:List Str} {f:Addr} {fd:FuncData} {k:Nat} {sp:Sp} (D:Df K mg x st ps f fd) (F:FnOk P w K mg base CX0 k f fd ps sp):
 Ow P w K mg base x ps k sp:=⟨f,fd,D.m,D.F.kp,D.b,F⟩
section
variable {X:Cx} {k j:Nat} {ps:List Str} {sp:Sp} {x:Str} {p pos:Pos} {e:Expr} {es:List Expr} {t:TA}
theorem z0G (O:Ow X.prog X.w X.K X.mg X.base x ps k sp) (hr:Room j X.A) (hg:Gl X x) (ha:PA X (e::es) t) (hk:k<=j:=by decide) (hdb:(x==("__debug__":Str))=false:=by decide)
 (he:starEach (e::es) X.env=(false,eval e X.env)::starEach es X.env:=by rfl) (hpl:(backTo pos (starEach es X.env)).any (·.1)=false:=by rfl):
 PE X (.Call (.Name x p) (e::es) [] pos) (z8T sp [] E0 t):=by
 obtain⟨f,fd,m,kp,b,F⟩:=O.ex
 exact z57 F (hr.mono hk) hg m kp b .nil z5x ha hdb he hpl
end
theorem z29 {c A B:Prop} [Decidable c] (h1:c->A) (h2:¬c->B):if decide c=true then A else B:=by
 by_cases h:c
 .rw[decide_eq_true h,if_pos rfl];exact h1 h
 .rw[decide_eq_false h,if_neg Bool.false_ne_true];exact h2 h
theorem zBD {c A B:Prop} [Decidable c] (h1:¬c->A) (h2:c->B):if(!decide c)=true then A else B:=by
 by_cases h:c
 .rw[decide_eq_true h,Bool.not_true,if_neg Bool.false_ne_true];exact h2 h
 .rw[decide_eq_false h,Bool.not_false,if_pos rfl];exact h1 h
theorem mulL {i j:Int} (h1: -18446744073709551616<i) (h2:i<18446744073709551616):CMul i j:=.inl ⟨h1,h2⟩
theorem mulR {i j:Int} (h1: -18446744073709551616<j) (h2:j<18446744073709551616):CMul i j:=.inr ⟨h1,h2⟩
theorem powS {i j:Int} (h1:0<=j) (h2:j<=1000000) (h3:i.natAbs<18446744073709551616):zEI i j:=⟨h1,h2,h3⟩
theorem szV {xs:List V} (h:xs.length<=100000):xs.length<=sizeLine:=Nat.le_trans h (by decide)
theorem z2v {j:Int} (h1:0<=j) (h2:j<=1000000000): -(2^62)<=j/\j<2^62:=by
 have:(1000000000:Int)<2^62:=by decide
 omega
def zFJ (t u:TS):TS:=fun D σ H=>∃I:St->Hp->Prop,t {D with nx:=I} σ H/\∀σ' H',I σ' H'->u D σ' H'
theorem z2B {X:Cx} {st:Stmt} {rest:List Stmt} {t u:TS} (h1:PS X st t) (h2:PSs X rest u):PSs X (st::rest) (zFJ t u):=by
 intro pins s σ H D I h
 obtain⟨J,h,hj⟩:=h
 refine wpAny_execs_cons (thn (h1 pins s σ H {D with nx:=J} I h) fun f s1 q=>?_)
 cases f with
 |next=>
  obtain⟨σ',H',I',q⟩:=q
  exact h2 pins s1 σ' H' D I' (hj _ _ q)
 |ret v=>exact q
 |brk=>exact q
 |cont=>exact q
end L2
namespace L2
open PySem PySem.Spec PyProof.Rows G
structure RowsB (H0 H:Hp) (l:Addr) (ps:List Addr) (rows:List (List (Option Int))):Prop where
 same:Same H0 H
 fl:H0 l=none
 fp:∀p∈ps,H0 p=none/\p≠l
 rat:RowsAt H l ps rows
theorem Same.put {H0 H:Hp} {p:Addr} {o:HO} (s:Same H0 H) (h:H0 p=none):Same H0 (upd H p o):=fun b u e=>by
 rw[z06 (z0A e h)]
 exact s b u e
theorem RowsB.put {H0 H:Hp} {l p:Addr} {ps:List Addr} {rows:List (List (Option Int))} {o:HO} (B:RowsB H0 H l ps rows) (h0:H0 p=none) (hl:p≠l) (hp:p∉ps):RowsB H0 (upd H p o) l ps rows where
 same:=B.same.put h0
 fl:=B.fl
 fp:=B.fp
 rat:=⟨by rw[z06 (Ne.symm hl)];exact B.rat.lst,B.rat.len,fun i q r e1 e2=>by
  have hq:q≠p:=fun e=>hp (by rw[<-e];exact List.mem_of_getElem? e1)
  rw[z06 hq]
  exact B.rat.row i q r e1 e2⟩
theorem RowsB.push {H0 H:Hp} {l p:Addr} {ps:List Addr} {rows:List (List (Option Int))} {r:List (Option Int)} (B:RowsB H0 H l ps rows) (h0:H0 p=none) (hl:p≠l) (hr:H p=some (.lst (r.map z0X))):
 RowsB H0 (upd H l (.lst (ps.map V.ref++[.ref p]))) l (ps++[p]) (rows++[r]) where
 same:=B.same.put B.fl
 fl:=B.fl
 fp:=fun q hq=>by
  rcases List.mem_append.mp hq with h|h
  .exact B.fp q h
  .rw[List.mem_singleton.mp h]
   exact⟨h0,hl⟩
 rat:=⟨by rw[upd_same,List.map_append];rfl,by rw[List.length_append,List.length_append,B.rat.len];rfl,fun i q s e1 e2=>by
  have hq:q≠l:=by
   rcases List.mem_append.mp (List.mem_of_getElem? e1)with h|h
   .exact(B.fp q h).2
   .rw[List.mem_singleton.mp h]
    exact hl
  rw[z06 hq]
  have hlen:=B.rat.len
  by_cases hi:i<ps.length
  .rw[List.getElem?_append_left hi]at e1
   rw[List.getElem?_append_left (by omega)]at e2
   exact B.rat.row i q s e1 e2
  .rw[List.getElem?_append_right (by omega)]at e1
   rw[List.getElem?_append_right (by omega)]at e2
   rw[hlen]at e1
   cases hj:i-rows.length with
   |zero=>
    rw[hj]at e1 e2
    cases e1
    cases e2
    exact hr
   |succ n=>
    rw[hj]at e1
    cases e1⟩
theorem z6v {H0 H:Hp} {l:Addr} (s:Same H0 H) (h:H l=none):RowsB H0 (upd H l (.lst [])) l [] []:=
 ⟨s.trans (Same.new h),s.free h,(fun _ hp=>nomatch hp),⟨upd_same,rfl,(fun _ _ _ e=>nomatch e)⟩⟩
theorem Rect.ne {w h:Nat} {rows:List (List (Option Int))} (R:Rect w h rows):0<rows.length:=by have:=R.len;have:=R.h1;omega
theorem RowsAt.at {H:Hp} {l:Addr} {ps:List Addr} {rows:List (List (Option Int))} (a:RowsAt H l ps rows) {i:Nat} (hi:i<rows.length):∃p,ps[i]?=some p/\H p=some (.lst ((rows[i]'hi).map z0X)):=by
 have hl:=a.len
 exact⟨ps[i]'(by omega),List.getElem?_eq_getElem _,a.row i _ _ (List.getElem?_eq_getElem _) (List.getElem?_eq_getElem _)⟩
theorem RowsAt.atI {H:Hp} {l:Addr} {ps:List Addr} {rows:List (List (Option Int))} (a:RowsAt H l ps rows) {i:Nat} (hi:i<rows.length):∃p,L2.atI (ps.map V.ref) (i:Int)=some (.ref p)/\H p=some (.lst ((rows[i]'hi).map z0X)):=by
 obtain⟨p,h1,h2⟩:=a.at hi
 exact⟨p,z0x (by rw[List.getElem?_map,h1];rfl),h2⟩
theorem Rect.row0 {w h:Nat} {rows:List (List (Option Int))} (R:Rect w h rows) {i:Nat} (hi:i<rows.length):(rows[i]'hi).length=w/\Cells (rows[i]'hi):=R.row _ (List.getElem_mem hi)
theorem zCc {w h:Nat} {rows:List (List (Option Int))} {x y:Int} (x0:0<=x) (x1:x<w) (y0:0<=y) (y1:y<h) (hy:y.toNat<rows.length) (hx:x.toNat<(rows[y.toNat]'hy).length):look w h rows x y=(rows[y.toNat]'hy)[x.toNat]'hx:=by
 unfold look
 have e1:rows.getD y.toNat []=rows[y.toNat]'hy:=by rw[List.getD_eq_getElem?_getD,List.getElem?_eq_getElem hy];rfl
 rw[if_pos ⟨x0,x1,y0,y1⟩,e1,List.getD_eq_getElem?_getD,List.getElem?_eq_getElem hx]
 rfl
end L2
namespace L2
open PySem PySem.Spec PyProof.Rows G
def inB (x:V) (a b:Int):Bool:=match x with
 |.int i=>decide (a<=i)&&decide (i<=b)
 |_=>false
def z2h:Sp:=fun vs H Q _=>∃x T,vs=[x]/\tyS H x=some T/\Q (.bl (T=="int")) H
theorem z4C:∀T∈zBx,(if z8W T "int"=true then(!z8W T "bool")else false)=(T=="int"):=by decide
theorem z6w {H:Hp} {x:V} {T:String} (h:tyS H x=some T) (n:¬∃i,x=V.int i):(T=="int")=false:=by
 cases x with
 |non=>cases h;rfl
 |bl b=>cases h;rfl
 |int i=>exact absurd ⟨i,rfl⟩ n
 |str z=>cases h;rfl
 |byt b=>cases h
 |flt b=>cases h
 |ty n=>cases h
 |ref a=>
  simp only[tyS]at h
  split at h<;>first|(cases h;rfl)|cases h
def z3p:Sp:=fun vs H Q _=>∃x a b T,vs=[x,.int a,.int b]/\tyS H x=some T/\Q (.bl (inB x a b)) H
def zC3:Sp:=fun vs H Q _=>∃x T,vs=[x]/\tyS H x=some T/\Q (.bl (inB x 1 64)) H
end L2
namespace L2
open PySem PySem.Spec PyProof.Rows G
end L2
namespace L2
open PySem PySem.Spec PyProof.Rows G
set_option maxRecDepth 100000 in
theorem z3j:fillsNumberSlot (.type "tuple") "mul"=pure false:=
 PySem.fillsNumberSlot_seq (id:="tuple.__mul__") (r:=some (.builtin "tuple.__rmul__")) F.slot_tuple_mul.lookup (by decide+kernel) F.slot_tuple_rmul.lookup (by decide+kernel)
set_option maxRecDepth 100000 in
theorem z62:seqRepeat? (.type "tuple")=pure (some (.builtin "tuple.__mul__")):=by
 unfold seqRepeat?
 rw[PySem.seqSlot_of (T:="tuple") (name:="__mul__") (id:="tuple.__mul__") F.slot_tuple_mul.lookup (by decide+kernel),PySem.seqSlot_of (T:="tuple") (name:="__rmul__") (id:="tuple.__rmul__") F.slot_tuple_rmul.lookup (by decide+kernel)]
 rfl
theorem z4T (a:Int) (t:Tok) (l:Addr) (items:Array Value) (n:Nat) (dd:Option Addr) (sl:Array (Option Value)):
 Meets (Builtin.«int.__rmul__» ⟨[.int a t,.ref l],[]⟩) (fun _ R s=>s.heap.get? l=some ⟨.type "tuple",dd,.seq items n,sl⟩/\R (.ok (.ret Value.notImplemented)) s):=
 .of_wp fun prog w A R s h=>by obtain⟨hp,g,d,tk,os⟩:=s;obtain⟨hl,h⟩:=h;wp_walk;exact⟨_,rfl,h⟩
theorem z6x (l:Addr) (v:Value) (n:Nat) (u:Tok) (dd:Option Addr) (sl:Array (Option Value)):
 Meets (Builtin.«tuple.__mul__» ⟨[.ref l,.int 1 u],[]⟩) (fun _ R s=>s.heap.get? l=some ⟨.type "tuple",dd,.seq #[v] n,sl⟩/\R (.ok (.ret (.ref l))) s):=
 .of_wp fun prog w A R s h=>by
  obtain⟨hp,g,d,tk,os⟩:=s;obtain⟨hl,h⟩:=h
  wp_walk;exact⟨_,rfl,h⟩
theorem zDA {α:Type} {M:Model} {A:Around} {E:Value->Shared->Prop} {s:Shared} {c:Prop} [Decidable c] {t f:Sem α} {Q:α->Shared->Prop} (n:¬c) (h:wpAny M A f Q E s):wpAny M A (if c then t else f) Q E s:=by
 rw[if_neg n]
 exact h
theorem z7t (v:Value) (k:Nat):List.foldl (fun x1 x2=>x1++x2) #[] (List.replicate k #[v])=(List.replicate k v).toArray:=by
 have:=foldl_rep [v] k []
 rw[List.nil_append]at this
 refine Eq.trans this ?_
 congr 1
 induction k with
 |zero=>rfl
 |succ k ih=>rw[List.replicate_succ,List.flatten_cons,ih (foldl_rep [v] k []),List.replicate_succ];rfl
theorem z6y (l:Addr) (v:Value) (n:Nat) (k:Int) (u:Tok) (dd:Option Addr) (sl:Array (Option Value)) (h2:2<=k) (h3:k<=10000):
 Meets (Builtin.«tuple.__mul__» ⟨[.ref l,.int k u],[]⟩) (fun _ R s=>s.heap.get? l=some ⟨.type "tuple",dd,.seq #[v] n,sl⟩/\
  R (.ok (.ret (.ref s.heap.objs.size))) {s with heap:=s.heap.push {cls:=.type "tuple",data:=.seq ((List.replicate k.toNat #[v]).foldl (·++·) #[])}}):=
 .of_wp fun prog w A R s h=>by
  obtain⟨hp,g,d,tk,os⟩:=s;obtain⟨hl,h⟩:=h
  have c1:(decide (k< -2^63)||decide (k≥2^63))=false:=by
   have:(10000:Int)<2^63:=by decide
   rw[decide_eq_false (by omega),decide_eq_false (by omega)]
   rfl
  have c2:((#[v]:Array Value).isEmpty||k==1)=false:=by
   have:(k==1)=false:=beq_false_of_ne (by omega)
   rw[this]
   rfl
  have c3:(decide (k<=0)||(#[v]:Array Value).isEmpty)=false:=by
   rw[decide_eq_false (by omega)]
   rfl
  have c4:¬(((#[v]:Array Value).size:Int)*k>(2^63-1)/8):=by
   show¬((1:Int)*k>(2^63-1)/8)
   omega
  have c5:Builtin.Tuple.tupleTooMany (((#[v]:Array Value).size:Int)*k)=false:=by
   show Builtin.Tuple.tupleTooMany ((1:Int)*k)=false
   unfold Builtin.Tuple.tupleTooMany
   have z:(10000:Int)<=(sizeLine:Int):=by decide
   exact decide_eq_false (by omega)
  wp_walk
  refine zDA (by rw[c1];exact Bool.false_ne_true) ?_
  wp_walk
  refine zDA (by rw[c2];exact Bool.false_ne_true) ?_
  refine zDA (by rw[c3];exact Bool.false_ne_true) ?_
  refine zDA c4 ?_
  refine zDA (by rw[c5];exact Bool.false_ne_true) ?_
  wp_walk
  refine zDA (by
   rw[z7t,List.size_toArray,List.length_replicate]
   have z:(10000:Nat)<=sizeLine:=by decide
   omega) ?_
  wp_walk
  exact⟨_,rfl,h⟩
section
variable {X:Cx}
def zEV:R2:=fun x y H Q=>∃a k v,x=.ref a/\y=.int k/\H a=some (.tup [v])/\1<=k/\k<=10000/\∀p H',Same H H'->H' p=some (.tup (List.replicate k.toNat v))->Q (.ref p) H'
theorem z9m:OpR X (binaryOp .Mult) zEV:=by
 intro pins s σ H x y v u Q I rx ry h
 obtain⟨a,k,z,rfl,rfl,ha,k1,k2,q⟩:=h
 cases rx
 obtain⟨t,rfl⟩:=ry
 obtain⟨_,its,rv,o,ho,hc,n,hd⟩:=(show ObjOk X.prog X.w H s.heap a (.tup [z])from I.hok a _ ha)
 obtain⟨w',rfl,rz⟩:=Vals.one rv
 obtain⟨oc,od,dt,sl⟩:=o
 cases (show oc=Value.type "tuple" from hc)
 cases (show dt=Data.seq _ n from hd)
 refine wpAny_binaryOp_repeat_ref (T:="tuple") (U:="int") (by decide) ⟨_,ho,rfl⟩ (fun s'=>typeIs_int s' k t) z3j F.fills_int_mul F.slot_int_rmul z62 F.slot_int_index.lookup
  (call_meets F.slot_int_rmul (typeIs_int s k t) F.entry_int_rmul (F.args_int_rmul_2 _ _) (z4T k t a _ n _ _) ⟨ho,rfl,⟨_,ho,rfl⟩,?_⟩)
 by_cases e:k=1
 .subst e
  exact call_meets F.slot_tuple_mul ⟨_,ho,rfl⟩ F.entry_tuple_mul (F.args_tuple_mul_2 _ _) (z6x a w' n t od sl) ⟨ho,⟨.ref a,H,I,rfl,q a H (Same.refl _) ha⟩⟩
 .refine call_meets F.slot_tuple_mul ⟨_,ho,rfl⟩ F.entry_tuple_mul (F.args_tuple_mul_2 _ _) (z6y a w' n k t od sl (by omega) k2) ⟨ho,?_⟩
  rw[z7t]
  have rr:Vals (List.replicate k.toNat z) (List.replicate k.toNat w'):=by
   induction k.toNat with
   |zero=>exact .nil
   |succ m ih=>rw[List.replicate_succ,List.replicate_succ];exact .cons rz ih
  have hz:(List.replicate k.toNat z).length<=sizeLine:=by
   rw[List.length_replicate]
   exact Nat.le_of_lt (Nat.lt_of_le_of_lt (show k.toNat<=10000 by omega) (by decide))
  exact⟨.ref _,upd H s.heap.objs.size (.tup (List.replicate k.toNat z)),I.laid (t':=s.toks) (fun b u e=>Heap.get?_push_of_some _ e) (Nat.le_refl _) ⟨hz,_,rr,⟨_,Heap.get?_push_size _ rfl,rfl,_,rfl⟩⟩,rfl,q _ _ (Same.new I.fresh) upd_same⟩
end
structure FunD (K:PySem.W.Frag) (x qual:Str) (st:Stmt) (f:Addr) (fd:FuncData) (T:Addr):Prop where
 ex:∃(oc:Value) (od:Option Addr) (kV doc pm:Value) (an:Option Addr) (cdv ct:Value) (osl:Array (Option Value)),
  fd=PySem.W.fnOf x qual (z0E st) (z0D st) (z03 st) (.ref T) kV doc pm an cdv ct/\K.lookup f=some ⟨oc,od,.func fd,osl⟩/\PySem.W.codeIn K cdv qual=true
 kp:PySem.W.keepIn K (.ref f)=true
theorem FunD.ok {P:Program} {w:World} {K:PySem.W.Frag} {mg:Str->Option Value} {base:Heap} {x qual:Str} {st:Stmt} {f T:Addr} {fd:FuncData} {N ps:List Str} {k:Nat} {sp:Sp} (F:FunD K x qual st f fd T) (S:FnScope N ps (z03 st)) (len:∀vs H Q E,sp vs H Q E->vs.length=ps.length)
 (hbody:∀(cdv:Value) (A:Around) (outer:List Env) (s:Shared) (H:Hp) (vs:List V) (Q:VK) (E:XK),Room k (A.deeper (envOfC qual (z03 st) s.heap.objs.size f cdv))->sp vs H Q E->
  ∃t,PSs (z9K CX0 P w K mg base N qual (z03 st) f cdv A outer s H E).nox (z0D st) t/\t {nx:=fun _ H'=>Q .non H',rt:=Q} (start N vs) H):FnOk P w K mg base CX0 (k+1) f fd ps sp:=by
 obtain⟨oc,od,kV,doc,pm,an,cdv,ct,osl,rfl,lk,hcd⟩:=F.ex
 refine zB4 lk hcd S len fun A outer s H vs Q E hr hsp=>?_
 obtain⟨t,h,q⟩:=hbody cdv A outer s H vs Q E hr hsp
 exact⟨t,h.nox,q⟩
structure Owd (P:Program) (w:World) (K:PySem.W.Frag) (mg:Str->Option Value) (base:Heap) (x:Str) (ps:List Str) (dvs:List V) (k:Nat) (sp:Sp):Prop where
 ex:∃(f:Addr) (fd:FuncData) (ds:List Value),mg x=some (.ref f)/\PySem.W.keepIn K (.ref f)=true/\Binds K fd ps ds/\Vals dvs ds/\FnOk P w K mg base CX0 k f fd ps sp
theorem z5G {X:Cx} {k j:Nat} {ps:List Str} {sp:Sp} {dvs:List V} {x:Str} {p pos:Pos} {e:Expr} {es:List Expr} {t:TA} (O:Owd X.prog X.w X.K X.mg X.base x ps dvs k sp) (hr:Room j X.A) (hg:Gl X x) (ha:PA X (e::es) t) (hk:k<=j:=by decide) (hdb:(x==("__debug__":Str))=false:=by decide)
 (he:starEach (e::es) X.env=(false,eval e X.env)::starEach es X.env:=by rfl) (hpl:(backTo pos (starEach es X.env)).any (·.1)=false:=by rfl):
 PE X (.Call (.Name x p) (e::es) [] pos) (z8T sp dvs E0 t):=by
 obtain⟨f,fd,ds,m,kp,b,r,F⟩:=O.ex
 exact z57 F (hr.mono hk) hg m kp b r z5x ha hdb he hpl
section
variable {X:Cx} {sc:Scope} {cl:List (Str × Addr)} {C:Addr} {N:List Str} {fp:List Addr} {s2:Shared} {H2:Hp} {pn:List (Addr × Obj)} {tg l:Expr} {tl:TE}
end
theorem zCd {J:It} {n:Nat} {g:TG} {tt:TT} {te:TE} {σ0:St} {H1:Hp} {Fin:List V->Hp->Prop} (Pv:Nat->St->List V->Hp->Prop) (h0:Pv 0 σ0 [] H1) (hn:n<sizeLine) (len:∀i σ ys H,Pv i σ ys H->ys.length<=i)
 (stop:∀σ ys H,Pv n σ ys H->J.stop n H) (go:∀i σ ys H,i<n->Pv i σ ys H->J.go i H)
 (hs:∀i σ ys H x H' (Z:St->List V->Hp->Prop),i<n->Pv i σ ys H->J.yld i H x H'->(∀σ' ys' H',Pv (i+1) σ' ys' H'->Z σ' ys' H')->g x σ H' fun σ2 H2=>tt σ2 H2 fun b H3=>if b=true then te σ2 H3 fun y H4=>Z σ2 (ys++[y]) H4 else Z σ2 ys H3) (hd:∀σ ys H,Pv n σ ys H->Fin ys H):
 ∃W:Nat->Nat->St->List V->Hp->Prop,(∃m,W 0 m σ0 [] H1)/\z9c J g tt te Fin W:=by
 refine⟨fun i m σ ys H=>m=n-i/\i<=n/\Pv i σ ys H,⟨n,rfl,Nat.zero_le _,h0⟩,?_⟩
 rintro i m σ ys H ⟨rfl,hi,p⟩
 have hl:=len i σ ys H p
 by_cases hlt:i<n
 .refine .inr ⟨go i σ ys H hlt p,by omega,fun x H' y=>?_⟩
  have q:=hs i σ ys H x H' (fun σ2 ys2 H3=>∃m',m'<n-i/\m'=n-(i+1)/\i+1<=n/\Pv (i+1) σ2 ys2 H3) hlt p y fun σ' ys' H'' p'=>⟨n-(i+1),by omega,rfl,hlt,p'⟩
  exact q
 .have e:i=n:=by omega
  subst e
  exact .inl ⟨stop σ ys H p,by omega,hd σ ys H p⟩
structure DfD (K:PySem.W.Frag) (mg:Str->Option Value) (x:Str) (st:Stmt) (ps:List Str) (f:Addr) (fd:FuncData) (T:Addr):Prop where
 F:FunD K x x st f fd T
 b:Binds K fd ps []
 b1:Binds K fd ps [.none]
 m:mg x=some (.ref f)
theorem DfD.ow {P:Program} {w:World} {K:PySem.W.Frag} {mg:Str->Option Value} {base:Heap} {x:Str} {st:Stmt} {ps:List Str} {f T:Addr} {fd:FuncData} {k:Nat} {sp:Sp} (D:DfD K mg x st ps f fd T) (F:FnOk P w K mg base CX0 k f fd ps sp):
 Ow P w K mg base x ps k sp:=⟨f,fd,D.m,D.F.kp,D.b,F⟩
theorem DfD.owd {P:Program} {w:World} {K:PySem.W.Frag} {mg:Str->Option Value} {base:Heap} {x:Str} {st:Stmt} {ps:List Str} {f T:Addr} {fd:FuncData} {k:Nat} {sp:Sp} (D:DfD K mg x st ps f fd T) (F:FnOk P w K mg base CX0 k f fd ps sp):
 Owd P w K mg base x ps [.non] k sp:=⟨f,fd,[.none],D.m,D.F.kp,D.b1,.cons rfl .nil,F⟩
theorem z6z {K:PySem.W.Frag} {x qual:Str} {st:Stmt} {f T:Addr} {oc:Value} {od an:Option Addr} {osl:Array (Option Value)} {kV doc pm cdv ct:Value} (l:K.lookup f=some ⟨oc,od,.func (PySem.W.fnOf x qual (z0E st) (z0D st) (z03 st) (.ref T) kV doc pm an cdv ct),osl⟩)
 (c:PySem.W.codeIn K cdv qual=true) (k:PySem.W.keepIn K (.ref f)=true):FunD K x qual st f (PySem.W.fnOf x qual (z0E st) (z0D st) (z03 st) (.ref T) kV doc pm an cdv ct) T:=⟨⟨oc,od,kV,doc,pm,an,cdv,ct,osl,rfl,l,c⟩,k⟩
end L2
namespace L2
open PySem PySem.Spec PyProof.Rows G
end L2
namespace L2
open PySem PySem.Spec PyProof.Rows G
def z39:Sp:=fun vs H Q _=>∃(w h:Int) (c:Option Int),vs=[.int w,.int h,z0X c]/\1<=w/\w<=64/\1<=h/\h<=64/\Cell c/\∀p H',Same H H'->PicAt H' p w.toNat (List.replicate h.toNat (List.replicate w.toNat c))->Q (.ref p) H'
theorem z5H {α:Type} (x:α):∀k:Nat,(List.replicate k [x]).flatten=List.replicate k x
 |0=>rfl
 |k+1=>by rw[List.replicate_succ,List.flatten_cons,z5H x k,List.replicate_succ];rfl
theorem z63 {c:Option Int} (h:Cell c) (k:Nat):Cells (List.replicate k c):=fun d hd=>by
 rw[List.eq_of_mem_replicate hd]
 exact h
end L2
namespace G
open PySem
noncomputable def z4U:Nat->Int->Int->Bool
 |0,P,M=>decide (P=0)&&decide (M=0)
 |n+1,P,M=>(decide (M%2=1)||decide (P%16=0))&&z4U n (P/16) (M/2)
noncomputable def roomI:Nat->Int->Int
 |0,_=>0
 |n+1,M=>(if M%2=1 then 15 else 0)+16*roomI n (M/2)
theorem z3q:∀(n:Nat) (M:Int),0<=roomI n M/\roomI n M<16^n
 |0,_=>⟨Int.le_refl 0,(show(0:Int)<1 by decide)⟩
 |n+1,M=>by
  have ih:=z3q n (M/2)
  show 0<=(if M%2=1 then 15 else 0)+16*roomI n (M/2)/\(if M%2=1 then 15 else 0)+16*roomI n (M/2)<(16:Int)^(n+1)
  rw[z5E]
  split<;>omega
theorem z4m:∀(n:Nat) (M:Int),roomI (n+1) M=roomI n M+(if M/2^n%2=1 then 15 else 0)*16^n
 |0,M=>by
  show(if M%2=1 then 15 else 0)+16*0=0+(if M/1%2=1 then 15 else 0)*1
  have:M/1=M:=by omega
  rw[this]
  omega
 |n+1,M=>by
  have ih:=z4m n (M/2)
  have e:roomI (n+1+1) M=(if M%2=1 then 15 else 0)+16*roomI (n+1) (M/2):=rfl
  have e':roomI (n+1) M=(if M%2=1 then 15 else 0)+16*roomI n (M/2):=rfl
  have d:M/2/2^n=M/2^(n+1):=by rw[Int.ediv_ediv_of_nonneg (by decide),z94]
  rw[e,ih,e',d,z5E,Int.mul_add,<-Int.mul_assoc,<-Int.mul_assoc,Int.mul_comm 16 (if M/2^(n+1)%2=1 then 15 else 0)]
  omega
theorem zEW (P r R:Int) (hP:0<=P) (hR:0<=R) (hr:r=0\/r=15):Builtin.bitAnd P (r+16*R)=(if r=15 then P%16 else 0)+16*Builtin.bitAnd (P/16) R:=by
 obtain⟨p,rfl⟩:=Int.eq_ofNat_of_zero_le hP
 obtain⟨q,rfl⟩:=Int.eq_ofNat_of_zero_le hR
 have e1:((p:Int)/16).toNat=p/16:=by omega
 rw[PyProof.Rows.bitAnd_pp (by omega) (by rcases hr with h|h<;>rw[h]<;>omega),PyProof.Rows.bitAnd_pp (by omega) (by omega),e1,Int.toNat_natCast,Int.toNat_natCast]
 have key:∀m:Nat,m<16->((p&&&(m+16*q):Nat))=((p%16&&&m))+16*(p/16&&&q):=fun m hm=>by
  have a:=Nat.and_mod_two_pow (a:=p) (b:=m+16*q) (n:=4)
  have b:=Nat.and_div_two_pow (a:=p) (b:=m+16*q) (n:=4)
  have c1:(m+16*q)%2^4=m:=by show(m+16*q)%16=m;omega
  have c2:(m+16*q)/2^4=q:=by show(m+16*q)/16=q;omega
  rw[c1]at a
  rw[c2]at b
  have a':(p&&&(m+16*q))%16=p%16&&&m:=a
  have b':(p&&&(m+16*q))/16=p/16&&&q:=b
  omega
 rcases hr with h|h
 .subst h
  have t:((0:Int)+16*(q:Int)).toNat=0+16*q:=by omega
  rw[t,key 0 (by decide),Nat.and_zero,if_neg (by decide)]
  omega
 .subst h
  have t:((15:Int)+16*(q:Int)).toNat=15+16*q:=by omega
  have m15:p%16&&&15=p%16:=by
   have:=Nat.and_two_pow_sub_one_eq_mod (p%16) 4
   rw[show 2^4-1=15 from rfl]at this
   rw[this]
   show p%16%16=p%16
   omega
  rw[t,key 15 (by decide),m15,if_pos rfl]
  omega
theorem z4n:∀(n:Nat) (P M:Int),0<=P->0<=M->z4U n P M=(decide (M/2^n=0)&&decide (Builtin.bitAnd P (Builtin.bitNot (roomI n M))=0))
 |0,P,M,hP,hM=>by
  show(decide (P=0)&&decide (M=0))=(decide (M/1=0)&&decide (Builtin.bitAnd P (Builtin.bitNot 0)=0))
  rw[PyProof.Rows.bitAnd_not,PyProof.Rows.bitAnd_zero,Bool.and_comm]
  have e1:M/1=M:=by omega
  have e2:P-0=P:=by omega
  rw[e1,e2]
 |n+1,P,M,hP,hM=>by
  have ih:=z4n n (P/16) (M/2) (by omega) (by omega)
  have hr:=z3q n (M/2)
  have h0:(if M%2=1 then(15:Int)else 0)=0\/(if M%2=1 then(15:Int)else 0)=15:=by split<;>simp
  have a:=zEW P (if M%2=1 then 15 else 0) (roomI n (M/2)) hP hr.1 h0
  have d:M/2/2^n=M/2^(n+1):=by rw[Int.ediv_ediv_of_nonneg (by decide),z94]
  have le:Builtin.bitAnd (P/16) (roomI n (M/2))<=P/16:=by
   rw[PyProof.Rows.bitAnd_pp (by omega) hr.1]
   have:=Nat.and_le_left (n:=(P/16).toNat) (m:=(roomI n (M/2)).toNat)
   omega
  show((decide (M%2=1)||decide (P%16=0))&&z4U n (P/16) (M/2))=(decide (M/2^(n+1)=0)&&decide (Builtin.bitAnd P (Builtin.bitNot ((if M%2=1 then 15 else 0)+16*roomI n (M/2)))=0))
  rw[PyProof.Rows.bitAnd_not P,a,ih,d,PyProof.Rows.bitAnd_not (P/16)]
  generalize Builtin.bitAnd (P/16) (roomI n (M/2))=b at le
  by_cases hm:M%2=1
  .rw[if_pos hm,if_pos rfl,decide_eq_true hm,Bool.true_or,Bool.true_and]
   congr 1
   exact decide_eq_decide.mpr ⟨fun h=>by omega,fun h=>by omega⟩
  .rw[if_neg hm,if_neg (by decide),decide_eq_false hm,Bool.false_or,<-Bool.and_assoc,Bool.and_comm (decide (P%16=0)),Bool.and_assoc]
   congr 1
   rw[<-Bool.decide_and]
   exact decide_eq_decide.mpr ⟨fun⟨h1,h2⟩=>by omega,fun h=>by constructor<;>omega⟩
end G
namespace L2
open PySem PySem.Spec PyProof.Rows
def zEX (K:PySem.W.Frag):R2:=fun x y H Q=>∃a b xs ys,x=.ref a/\y=.ref b/\SqT K H a xs/\SqT K H b ys/\xs.length+ys.length<=sizeLine/\
 (xs=[]->Q (.ref b) H)/\(xs≠[]->ys=[]->Q (.ref a) H)/\(xs≠[]->ys≠[]->∀p,H p=none->Q (.ref p) (upd H p (.tup (xs++ys))))
section
variable {X:Cx}
theorem z9n:OpR X (binaryOp .Add) (zEX X.K):=by
 intro pins s σ H x y v u Q I rx ry h
 obtain⟨a,b,xs,ys,rfl,rfl,ha,hb,hz,q0,q1,q2⟩:=h
 by_cases hx:xs=[]
 .cases rx
  cases ry
  obtain⟨its,r1,p1,_⟩:=I.tuple ha
  obtain⟨its2,r2,p2,_⟩:=I.tuple hb
  obtain⟨⟨cls,dd,data,sl⟩,ho,hc,n,hd⟩:=id p1
  obtain⟨⟨cls2,dd2,data2,sl2⟩,ho2,hc2,n2,hd2⟩:=id p2
  simp only at hc hd hc2 hd2
  subst hc hd hc2 hd2
  have hv:its=[]:=r1.nil_iff.mpr hx
  exact concat_meets ⟨_,ho,rfl⟩ ⟨_,ho2,rfl⟩ noFill_tuple_add seq_tuple_add PySem.F.slot_tuple_add PySem.F.entry_tuple_add (PySem.F.args_tuple_add_2 _ _)
   (tuple_addW0 a b its.toArray its2.toArray n n2 dd dd2 sl sl2 (by simp[hv])) ⟨ho,ho2,⟨.ref b,H,I,rfl,q0 hx⟩⟩
 .exact zCQ pins s σ H _ _ v u Q I rx ry ⟨a,b,xs,ys,rfl,rfl,ha,hb,hx,hz,q1 hx,q2 hx⟩
theorem z4D:∀(ns ms:List Int),((List.range (min ns.length ms.length)).all (fun j=>ns.getD j 0==ms.getD j 0)&&ns.length==ms.length)=decide (ns=ms)
 |[],[]=>rfl
 |[],m::ms=>rfl
 |n::ns,[]=>rfl
 |n::ns,m::ms=>by
  have ih:=z4D ns ms
  have e:min (n::ns).length (m::ms).length=min ns.length ms.length+1:=by rw[List.length_cons,List.length_cons];omega
  rw[e,List.range_succ_eq_map,List.all_cons,List.all_map]
  have e2:((fun j=>(n::ns).getD j 0==(m::ms).getD j 0)∘Nat.succ)=fun j=>ns.getD j 0==ms.getD j 0:=rfl
  have e3:((n::ns).length==(m::ms).length)=(ns.length==ms.length):=by
   rw[List.length_cons,List.length_cons]
   by_cases hh:ns.length=ms.length
   .rw[hh];simp
   .rw[beq_eq_false_iff_ne.mpr hh,beq_eq_false_iff_ne.mpr (by omega)]
  rw[e2,e3,Bool.and_assoc,ih]
  show((n==m)&&decide (ns=ms))=decide (n::ns=m::ms)
  by_cases h1:n=m
  .by_cases h2:ns=ms
   .rw[h1,h2];simp
   .rw[decide_eq_false h2,Bool.and_false,decide_eq_false (fun h=>h2 (by injection h))]
  .rw[beq_eq_false_iff_ne.mpr h1,Bool.false_and,decide_eq_false (fun h=>h1 (by injection h))]
theorem z64 {pins:List (Addr × Obj)} {σ:St} {H:Hp} {s:Shared} {A:Around} {a b:Addr} {ns ms:List Int} (hu:A.units<cLine) (I:Inv X pins σ H s) (ha:SqT X.K H a (ns.map V.int)) (hb:SqT X.K H b (ms.map V.int)):SeqAt.EqAt A s (.ref a) (.ref b) (decide (ns=ms)):=by
 by_cases e:a=b
 .subst e
  have q:=I.tuple_inj ha hb
  have q':ns=ms:=(List.map_inj_right (fun _ _ h=>by injection h)).mp q
  rw[decide_eq_true q']
  exact SeqAt.EqAt.same _
 .obtain⟨its,r1,p1,_⟩:=I.tuple ha
  obtain⟨its2,r2,p2,_⟩:=I.tuple hb
  have l1:=r1.length
  have l2:=r2.length
  rw[List.length_map]at l1 l2
  refine SeqAt.EqAt.of_refs e ?_
  have q:=SeqAt.RcAt.tuples (A:=A) (s:=s) (e:=fun j=>ns.getD j 0==ms.getD j 0) p1 p2 hu fun j h1 h2=>?_
  .rw[List.size_toArray,List.size_toArray,<-l1,<-l2,z4D]at q
   exact q
  .rw[List.size_toArray]at h1 h2
   have g1:(ns.map V.int)[j]?=some (.int (ns.getD j 0)):=by
    rw[List.getElem?_map,List.getD_eq_getElem?_getD,List.getElem?_eq_getElem (by omega)];rfl
   have g2:(ms.map V.int)[j]?=some (.int (ms.getD j 0)):=by
    rw[List.getElem?_map,List.getD_eq_getElem?_getD,List.getElem?_eq_getElem (by omega)];rfl
   obtain⟨u1,e1,t1,rfl⟩:=Vals.get r1 g1
   obtain⟨u2,e2,t2,rfl⟩:=Vals.get r2 g2
   have f1:its.toArray[j]=Value.int (ns.getD j 0) t1:=by
    rw[List.getElem?_eq_getElem h1]at e1
    simpa using Option.some.inj e1
   have f2:its2.toArray[j]=Value.int (ms.getD j 0) t2:=by
    rw[List.getElem?_eq_getElem h2]at e2
    simpa using Option.some.inj e2
   rw[f1,f2]
   exact SeqAt.EqAt.int_int _ _ _ _
def zFK (K:PySem.W.Frag):R2:=fun x y H Q=>∃(a b pa pb qa qb:Addr) (w h w' h':Int) (ns ms ns' ms':List Int),x=.ref a/\y=.ref b/\SqT K H a [.int w,.int h,.ref pa,.ref pb]/\SqT K H b [.int w',.int h',.ref qa,.ref qb]/\
 SqT K H pa (ns.map V.int)/\SqT K H pb (ms.map V.int)/\SqT K H qa (ns'.map V.int)/\SqT K H qb (ms'.map V.int)/\Q (.bl ((w==w')&&((h==h')&&(decide (ns=ns')&&decide (ms=ms'))))) H
theorem zDV (hu:X.A.units+1<cLine):OpR X (compareOp .Eq) (zFK X.K):=by
 intro pins s σ H x y v u Q I rx ry h0
 obtain⟨a,b,pa,pb,qa,qb,w,h,w',h',ns,ms,ns',ms',rfl,rfl,ha,hb,h1,h2,h3,h4,q⟩:=h0
 cases rx
 cases ry
 obtain⟨its,r1,p1,_⟩:=I.tuple ha
 obtain⟨its2,r2,p2,_⟩:=I.tuple hb
 cases r1 with
 |@cons _ u1 _ _ x1 r1=>cases r1 with
  |@cons _ u2 _ _ x2 r1=>cases r1 with
   |@cons _ u3 _ _ x3 r1=>cases r1 with
    |@cons _ u4 _ _ x4 r1=>
     cases r1
     cases r2 with
     |@cons _ v1 _ _ y1 r2=>cases r2 with
      |@cons _ v2 _ _ y2 r2=>cases r2 with
       |@cons _ v3 _ _ y3 r2=>cases r2 with
        |@cons _ v4 _ _ y4 r2=>
         cases r2
         obtain⟨t1,rfl⟩:=x1
         obtain⟨t2,rfl⟩:=x2
         obtain⟨t3,rfl⟩:=y1
         obtain⟨t4,rfl⟩:=y2
         cases (show u3=Value.ref pa from x3)
         cases (show u4=Value.ref pb from x4)
         cases (show v3=Value.ref qa from y3)
         cases (show v4=Value.ref qb from y4)
         have d1:=z64 (A:=X.A.in1) hu I h1 h3
         have d2:=z64 (A:=X.A.in1) hu I h2 h4
         refine SeqAt.eq_tupleAt (e:=fun j=>match j with|0=>w==w'|1=>h==h'|2=>decide (ns=ns')|_=>decide (ms=ms')) p1 p2 (by omega) (fun j j1 j2=>?_) ⟨.bl _,H,I,rfl,?_⟩
         .have c4:j<4:=j1
          match j,c4 with
          |0,_=>exact SeqAt.EqAt.int_int _ _ _ _
          |1,_=>exact SeqAt.EqAt.int_int _ _ _ _
          |2,_=>exact d1
          |3,_=>exact d2
         .have e:((List.range (min 4 4)).all (fun j=>match j with|0=>w==w'|1=>h==h'|2=>decide (ns=ns')|_=>decide (ms=ms'))&&((4:Nat)==4))=((w==w')&&((h==h')&&(decide (ns=ns')&&decide (ms=ms')))):=by
           show(((w==w')&&((h==h')&&(decide (ns=ns')&&(decide (ms=ms')&&true))))&&true)=_
           rw[Bool.and_true,Bool.and_true]
          show Q (.bl ((List.range (min 4 4)).all (fun j=>match j with|0=>w==w'|1=>h==h'|2=>decide (ns=ns')|_=>decide (ms=ms'))&&((4:Nat)==4))) H
          rw[e]
          exact q
def zEY (i j:Int):Prop:=i.natAbs<2^1000/\j.natAbs<2^1000
theorem z70 {x:Int} {n:Nat} (h:x.natAbs<2^n):Builtin.Int.intBits x<=n:=by
 unfold Builtin.Int.intBits
 split
 .exact Nat.zero_le _
 .rename_i h0
  have hx:x.natAbs≠0:=fun e=>h0 (by rw[Int.natAbs_eq_zero.mp e];rfl)
  exact(Nat.log2_lt hx).mpr h
theorem zCe:OpR X (binaryOp .Mult) (rI zEY fun i j=>.int (i*j)):=opI fun _ _ _ _ _ _ _ hc q=>mul_int q (IntMulOk.of_bits (Nat.le_trans (z70 hc.1) (by decide)) (Nat.le_trans (z70 hc.2) (by decide)))
end
def z9o:Sp:=fun vs H Q _=>∃w m:Int,vs=[.int w,.int m]/\0<=w/\w<=64/\0<=m/\Q (.int (G.roomI w.toNat m)) H
end L2
namespace G
noncomputable def tk:Nat->List (Option Int)->List (Option Int)
 |0,_=>[]
 |w+1,[]=>none::tk w []
 |w+1,c::r=>c::tk w r
theorem z9p:∀(w:Nat) (r:List (Option Int)),(tk w r).length=w
 |0,_=>rfl
 |w+1,[]=>by show(tk w []).length+1=w+1;rw[z9p w]
 |w+1,c::r=>by show(tk w r).length+1=w+1;rw[z9p w]
theorem z9q:∀(w:Nat) (r:List (Option Int)) (i:Nat),i<w->(tk w r)[i]?=some ((r[i]?).join)
 |0,_,i,h=>absurd h (Nat.not_lt_zero i)
 |w+1,[],0,_=>rfl
 |w+1,[],i+1,h=>by
  show(tk w [])[i]?=_
  rw[z9q w [] i (by omega)]
  rfl
 |w+1,c::r,0,_=>rfl
 |w+1,c::r,i+1,h=>by
  show(tk w r)[i]?=_
  rw[z9q w r i (by omega)]
  rfl
theorem z65 {b c p m:Int} (hb:0<b) (hm:0<m) (c0:0<=c) (c1:c<b):(c+b*p)%(b*m)=c+b*(p%m):=by
 have e:p=p%m+m*(p/m):=(Int.emod_add_mul_ediv p m).symm
 have q0:=Int.emod_nonneg p (show m≠0 by omega)
 have q1:=Int.emod_lt_of_pos p hm
 have e1:c+b*p=(c+b*(p%m))+b*m*(p/m):=by
  rw[Int.mul_assoc,Int.add_assoc,<-Int.mul_add,<-e]
 rw[e1,Int.add_mul_emod_self_left]
 have h0:0<=b*(p%m):=Int.mul_nonneg (by omega) q0
 refine Int.emod_eq_of_lt (by omega) ?_
 have h1:b*(p%m+1)<=b*m:=Int.mul_le_mul_of_nonneg_left (by omega) (by omega)
 rw[Int.mul_add]at h1
 omega
theorem z5I:∀(w:Nat) {r:List (Option Int)},Cells r->z09 (tk w r)=z09 r%16^w
 |0,r,_=>by
  show(0:Int)=z09 r%1
  omega
 |w+1,[],h=>by
  have ih:=z5I w h
  show(0:Int)+16*z09 (tk w [])=0%16^(w+1)
  rw[ih]
  show(0:Int)+16*(0%16^w)=_
  rw[Int.zero_emod,Int.zero_emod]
  rfl
 |w+1,c::r,h=>by
  have ih:=z5I w h.tail
  have hc:=(h c List.mem_cons_self).get
  show c.getD 0+16*z09 (tk w r)=(c.getD 0+16*z09 r)%16^(w+1)
  rw[ih,z5E,z65 (by decide) (z60 w) hc.1 (by omega)]
theorem z71:∀(w:Nat) (r:List (Option Int)),z0J (tk w r)=z0J r%2^w
 |0,r=>by
  show(0:Int)=z0J r%1
  omega
 |w+1,[]=>by
  have ih:=z71 w []
  show(if(none:Option Int).isSome=true then(1:Int)else 0)+2*z0J (tk w [])=0%2^(w+1)
  rw[ih,if_neg (by simp)]
  show(0:Int)+2*(0%2^w)=_
  rw[Int.zero_emod,Int.zero_emod]
  rfl
 |w+1,c::r=>by
  have ih:=z71 w r
  show(if c.isSome=true then(1:Int)else 0)+2*z0J (tk w r)=((if c.isSome=true then 1 else 0)+2*z0J r)%2^(w+1)
  rw[ih,z94,z65 (by decide) (z38 w) (by split<;>decide) (by split<;>decide)]
theorem z4o:∀(x:Nat) {r:List (Option Int)},Cells r->z09 (r.drop x)=z09 r/16^x
 |0,r,_=>by
  show z09 r=z09 r/1
  omega
 |x+1,[],_=>by
  show(0:Int)=0/16^(x+1)
  rw[Int.zero_ediv]
 |x+1,c::r,h=>by
  have ih:=z4o x h.tail
  have hc:=(h c List.mem_cons_self).get
  show z09 (r.drop x)=(c.getD 0+16*z09 r)/16^(x+1)
  rw[z5E,<-Int.ediv_ediv_of_nonneg (by decide),ih]
  congr 1
  omega
theorem z66:∀(x:Nat) (r:List (Option Int)),z0J (r.drop x)=z0J r/2^x
 |0,r=>by
  show z0J r=z0J r/1
  omega
 |x+1,[]=>by
  show(0:Int)=0/2^(x+1)
  rw[Int.zero_ediv]
 |x+1,c::r=>by
  have ih:=z66 x r
  show z0J (r.drop x)=((if c.isSome=true then 1 else 0)+2*z0J r)/2^(x+1)
  rw[z94,<-Int.ediv_ediv_of_nonneg (by decide),ih]
  congr 1
  split<;>omega
theorem z67 (r:List (Option Int)):∀k:Nat,z09 (List.replicate k none++r)=z09 r*16^k
 |0=>by
  show z09 r=z09 r*1
  omega
 |k+1=>by
  have ih:=z67 r k
  show(0:Int)+16*z09 (List.replicate k none++r)=_
  rw[ih,z5E,<-Int.mul_assoc,<-Int.mul_assoc,Int.mul_comm (z09 r) 16]
  omega
theorem z7u (r:List (Option Int)):∀k:Nat,z0J (List.replicate k none++r)=z0J r*2^k
 |0=>by
  show z0J r=z0J r*1
  omega
 |k+1=>by
  have ih:=z7u r k
  show(if(none:Option Int).isSome=true then(1:Int)else 0)+2*z0J (List.replicate k none++r)=_
  rw[ih,z94,<-Int.mul_assoc,<-Int.mul_assoc,Int.mul_comm (z0J r) 2,if_neg (by simp)]
  omega
noncomputable def z3A (x:Int) (r:List (Option Int)):List (Option Int):=if 0<=x then r.drop x.toNat else List.replicate (-x).toNat none++r
noncomputable def z9r (b at' many:Int):Int:=(if 0<=at' then b/2^at'.toNat else b*2^(-at').toNat)%2^many.toNat
theorem z72 {x:Int} {r:List (Option Int)} (h:Cells r):Cells (z3A x r):=by
 unfold z3A
 split
 .exact fun c hc=>h c (List.mem_of_mem_drop hc)
 .intro c hc
  rcases List.mem_append.mp hc with e|e
  .rw[List.eq_of_mem_replicate e];exact fun z q=>nomatch q
  .exact h c e
theorem z9s {r:List (Option Int)} (h:Cells r) (x:Int) (w:Nat):z9r (z09 r) (4*x) (4*(w:Int))=z09 (tk w (z3A x r)):=by
 rw[z5I w (z72 h)]
 unfold z9r z3A
 have e:(4*(w:Int)).toNat=4*w:=by omega
 rw[e,zC0]
 by_cases hx:0<=x
 .have e2:(4*x).toNat=4*x.toNat:=by omega
  rw[if_pos (by omega),if_pos hx,z4o _ h,e2,zC0]
 .have e2:(-(4*x)).toNat=4*(-x).toNat:=by omega
  rw[if_neg (by omega),if_neg hx,z67,e2,zC0]
theorem zBE (r:List (Option Int)) (x:Int) (w:Nat):z9r (z0J r) x (w:Int)=z0J (tk w (z3A x r)):=by
 rw[z71]
 unfold z9r z3A
 have e:((w:Int)).toNat=w:=by omega
 rw[e]
 by_cases hx:0<=x
 .rw[if_pos hx,if_pos hx,z66]
 .rw[if_neg hx,if_neg hx,z7u]
noncomputable def atR (r:List (Option Int)) (x:Int):Option Int:=if 0<=x then(r[x.toNat]?).join else none
theorem z9t (r:List (Option Int)) (x:Int) (i:Nat):((z3A x r)[i]?).join=atR r (x+i):=by
 unfold z3A atR
 by_cases hx:0<=x
 .have e:x.toNat+i=(x+(i:Int)).toNat:=by omega
  rw[if_pos hx,if_pos (by omega),List.getElem?_drop,e]
 .rw[if_neg hx]
  by_cases hi:0<=x+(i:Int)
  .have e:i-(-x).toNat=(x+(i:Int)).toNat:=by omega
   rw[if_pos hi,List.getElem?_append_right (by rw[List.length_replicate];omega),List.length_replicate,e]
  .rw[if_neg hi,List.getElem?_append_left (by rw[List.length_replicate];omega),List.getElem?_replicate,if_pos (by omega)]
   rfl
theorem z9u (r:List (Option Int)) (x:Int) (w:Nat):tk w (z3A x r)=(List.range w).map fun(i:Nat)=>atR r (x+(i:Int)):=by
 refine List.ext_getElem? fun i=>?_
 by_cases hi:i<w
 .rw[z9q w _ i hi,z9t,List.getElem?_map,List.getElem?_range hi]
  rfl
 .rw[List.getElem?_eq_none (by rw[z9p];omega),List.getElem?_eq_none (by rw[List.length_map,List.length_range];omega)]
end G
namespace G
open PySem
theorem zC4 (k a A d D:Nat) (ha:a<2^k) (hd:d<2^k):(a+2^k*A)&&&(d+2^k*D)=(a&&&d)+2^k*(A&&&D):=by
 have m1:(a+2^k*A)%2^k=a:=by rw[Nat.add_mul_mod_self_left,Nat.mod_eq_of_lt ha]
 have m2:(d+2^k*D)%2^k=d:=by rw[Nat.add_mul_mod_self_left,Nat.mod_eq_of_lt hd]
 have p:0<2^k:=Nat.pow_pos (by decide)
 have d1:(a+2^k*A)/2^k=A:=by rw[Nat.add_mul_div_left _ _ p,Nat.div_eq_of_lt ha,Nat.zero_add]
 have d2:(d+2^k*D)/2^k=D:=by rw[Nat.add_mul_div_left _ _ p,Nat.div_eq_of_lt hd,Nat.zero_add]
 have e:=Nat.mod_add_div ((a+2^k*A)&&&(d+2^k*D)) (2^k)
 rw[Nat.and_mod_two_pow,Nat.and_div_two_pow,m1,m2,d1,d2]at e
 exact e.symm
theorem z73 {a A d D:Int} (a0:0<=a) (a1:a<16) (d0:0<=d) (d1:d<16) (hA:0<=A) (hD:0<=D):Builtin.bitAnd (a+16*A) (d+16*D)=Builtin.bitAnd a d+16*Builtin.bitAnd A D:=by
 obtain⟨a,rfl⟩:=Int.eq_ofNat_of_zero_le a0
 obtain⟨d,rfl⟩:=Int.eq_ofNat_of_zero_le d0
 obtain⟨A,rfl⟩:=Int.eq_ofNat_of_zero_le hA
 obtain⟨D,rfl⟩:=Int.eq_ofNat_of_zero_le hD
 have t1:((a:Int)+16*(A:Int)).toNat=a+2^4*A:=by show _=a+16*A;omega
 have t2:((d:Int)+16*(D:Int)).toNat=d+2^4*D:=by show _=d+16*D;omega
 rw[PyProof.Rows.bitAnd_pp (by omega) (by omega),PyProof.Rows.bitAnd_pp a0 d0,PyProof.Rows.bitAnd_pp hA hD,t1,t2,Int.toNat_natCast,Int.toNat_natCast,Int.toNat_natCast,Int.toNat_natCast,zC4 4 a A d D (by show a<16;omega) (by show d<16;omega)]
 show(((a&&&d)+16*(A&&&D):Nat):Int)=_
 omega
theorem zDW {a A d D:Int} (a0:0<=a) (a1:a<2) (d0:0<=d) (d1:d<2) (hA:0<=A) (hD:0<=D):Builtin.bitAnd (a+2*A) (d+2*D)=Builtin.bitAnd a d+2*Builtin.bitAnd A D:=by
 obtain⟨a,rfl⟩:=Int.eq_ofNat_of_zero_le a0
 obtain⟨d,rfl⟩:=Int.eq_ofNat_of_zero_le d0
 obtain⟨A,rfl⟩:=Int.eq_ofNat_of_zero_le hA
 obtain⟨D,rfl⟩:=Int.eq_ofNat_of_zero_le hD
 have t1:((a:Int)+2*(A:Int)).toNat=a+2^1*A:=by show _=a+2*A;omega
 have t2:((d:Int)+2*(D:Int)).toNat=d+2^1*D:=by show _=d+2*D;omega
 rw[PyProof.Rows.bitAnd_pp (by omega) (by omega),PyProof.Rows.bitAnd_pp a0 d0,PyProof.Rows.bitAnd_pp hA hD,t1,t2,Int.toNat_natCast,Int.toNat_natCast,Int.toNat_natCast,Int.toNat_natCast,zC4 1 a A d D (by show a<2;omega) (by show d<2;omega)]
 show(((a&&&d)+2*(A&&&D):Nat):Int)=_
 omega
theorem zC5 {a A d D:Int} (a0:0<=a) (a1:a<16) (d0:0<=d) (d1:d<16) (hA:0<=A) (hD:0<=D):Builtin.bitOr (a+16*A) (d+16*D)=Builtin.bitOr a d+16*Builtin.bitOr A D:=by
 rw[PyProof.Rows.bitOr_and,z73 a0 a1 d0 d1 hA hD,PyProof.Rows.bitOr_and a d,PyProof.Rows.bitOr_and A D]
 omega
theorem zEZ {a A d D:Int} (a0:0<=a) (a1:a<2) (d0:0<=d) (d1:d<2) (hA:0<=A) (hD:0<=D):Builtin.bitOr (a+2*A) (d+2*D)=Builtin.bitOr a d+2*Builtin.bitOr A D:=by
 rw[PyProof.Rows.bitOr_and,zDW a0 a1 d0 d1 hA hD,PyProof.Rows.bitOr_and a d,PyProof.Rows.bitOr_and A D]
 omega
theorem zDX (a:Int):Builtin.bitOr a 0=a:=by rw[PyProof.Rows.bitOr_and,PyProof.Rows.bitAnd_zero];omega
theorem zEv (a:Int):Builtin.bitOr 0 a=a:=by rw[PyProof.Rows.bitOr_comm,zDX]
noncomputable def layR:List (Option Int)->List (Option Int)->List (Option Int)
 |u::us,c::cs=>c.or u::layR us cs
 |_,_=>[]
theorem z9v:∀(us cs:List (Option Int)),us.length=cs.length->(layR us cs).length=us.length
 |[],[],_=>rfl
 |u::us,c::cs,h=>by
  show(layR us cs).length+1=us.length+1
  rw[z9v us cs (by simpa using h)]
 |[],_::_,h=>by cases h
 |_::_,[],h=>by cases h
theorem z9w:∀(us cs:List (Option Int)) (i:Nat),us.length=cs.length->i<us.length->(layR us cs)[i]?=some (((cs[i]?).join).or ((us[i]?).join))
 |u::us,c::cs,0,_,_=>rfl
 |u::us,c::cs,i+1,h,hi=>by
  show(layR us cs)[i]?=_
  rw[z9w us cs i (by simpa using h) (by simpa using hi)]
  rfl
 |[],_,_,_,hi=>by cases hi
 |_::_,[],_,h,_=>by cases h
theorem z7v:∀(us cs:List (Option Int)),us.length=cs.length->Builtin.bitOr (z0J us) (z0J cs)=z0J (layR us cs)
 |[],[],_=>by show Builtin.bitOr 0 0=0;rw[zDX]
 |[],_::_,h=>by cases h
 |_::_,[],h=>by cases h
 |u::us,c::cs,h=>by
  have ih:=z7v us cs (by simpa using h)
  have h1:=z2g us
  have h2:=z2g cs
  show Builtin.bitOr ((if u.isSome=true then 1 else 0)+2*z0J us) ((if c.isSome=true then 1 else 0)+2*z0J cs)=(if(c.or u).isSome=true then 1 else 0)+2*z0J (layR us cs)
  rw[zEZ (by split<;>decide) (by split<;>decide) (by split<;>decide) (by split<;>decide) h1.1 h2.1,ih]
  congr 1
  cases u with
  |none=>
   show Builtin.bitOr 0 (if c.isSome=true then 1 else 0)=_
   rw[zEv]
   cases c<;>rfl
  |some a=>
   cases c with
   |none=>
    show Builtin.bitOr 1 0=1
    rw[zDX]
   |some b=>
    show Builtin.bitOr 1 1=1
    rw[PyProof.Rows.bitOr_and,PyProof.Rows.bitAnd_self]
    rfl
theorem z68:∀(us cs:List (Option Int)),us.length=cs.length->Cells us->Cells cs->
 Builtin.bitOr (Builtin.bitAnd (z09 us) (Builtin.bitNot (roomI us.length (z0J cs)))) (z09 cs)=z09 (layR us cs)
 |[],[],_,_,_=>by
  show Builtin.bitOr (Builtin.bitAnd 0 (Builtin.bitNot 0)) 0=0
  rw[zDX,PyProof.Rows.bitAnd_not,PyProof.Rows.bitAnd_zero]
  rfl
 |[],_::_,h,_,_=>by cases h
 |_::_,[],h,_,_=>by cases h
 |u::us,c::cs,h,hu,hc=>by
  have ih:=z68 us cs (by simpa using h) hu.tail hc.tail
  have p1:=z2m hu.tail
  have p2:=z2m hc.tail
  have c1:=(hu u List.mem_cons_self).get
  have c2:=(hc c List.mem_cons_self).get
  have m:=z2g cs
  have er:roomI (us.length+1) (z0J (c::cs))=(if c.isSome=true then 15 else 0)+16*roomI us.length (z0J cs):=by
   show(if((if c.isSome=true then 1 else 0)+2*z0J cs)%2=1 then(15:Int)else 0)+16*roomI us.length (((if c.isSome=true then 1 else 0)+2*z0J cs)/2)=_
   have e2:((if c.isSome=true then 1 else 0)+2*z0J cs)/2=z0J cs:=by split<;>omega
   rw[e2]
   congr 1
   cases c with
   |none=>rw[if_neg (by simp),if_neg (by simp)]
   |some z=>rw[if_pos (by rw[if_pos (show(some z).isSome=true from rfl)];omega),if_pos (show(some z).isSome=true from rfl)]
  have rr:=z3q us.length (z0J cs)
  rw[PyProof.Rows.bitAnd_not]at ih
  have le:Builtin.bitAnd (z09 us) (roomI us.length (z0J cs))<=z09 us:=by
   rw[PyProof.Rows.bitAnd_pp p1.1 rr.1]
   have:=Nat.and_le_left (n:=(z09 us).toNat) (m:=(roomI us.length (z0J cs)).toNat)
   omega
  show Builtin.bitOr (Builtin.bitAnd (u.getD 0+16*z09 us) (Builtin.bitNot (roomI (us.length+1) (z0J (c::cs))))) (c.getD 0+16*z09 cs)=(c.or u).getD 0+16*z09 (layR us cs)
  rw[er,PyProof.Rows.bitAnd_not,<-ih]
  cases c with
  |none=>
   rw[if_neg (by simp),z73 c1.1 (by omega) (by decide) (by decide) p1.1 rr.1,PyProof.Rows.bitAnd_zero]
   have e:u.getD 0+16*z09 us-(0+16*Builtin.bitAnd (z09 us) (roomI us.length (z0J cs)))=u.getD 0+16*(z09 us-Builtin.bitAnd (z09 us) (roomI us.length (z0J cs))):=by omega
   rw[e]
   show Builtin.bitOr _ (0+16*z09 cs)=u.getD 0+_
   rw[zC5 c1.1 (by omega) (by decide) (by decide) (by omega) p2.1,zDX]
  |some z=>
   have z0:(0:Int)<=z/\z<=15:=c2
   rw[if_pos (show(some z).isSome=true from rfl),z73 c1.1 (by omega) (by decide) (by decide) p1.1 rr.1,PyProof.Rows.bitAnd_m4]
   have e:u.getD 0+16*z09 us-(u.getD 0%16+16*Builtin.bitAnd (z09 us) (roomI us.length (z0J cs)))=0+16*(z09 us-Builtin.bitAnd (z09 us) (roomI us.length (z0J cs))):=by omega
   rw[e]
   show Builtin.bitOr _ (z+16*z09 cs)=z+_
   rw[zC5 (by decide) (by decide) z0.1 (by omega) (by omega) p2.1,zEv]
def isP (r:List (Option Int)) (i:Nat):Prop:=((r[i]?).join).isSome=true
end G
namespace G
theorem zDY {r:List (Option Int)} {i:Nat} (h:isP r i):i<r.length:=by
 unfold isP at h
 cases hi:r[i]? with
 |none=>rw[hi]at h;cases h
 |some c=>exact(List.getElem?_eq_some_iff.mp hi).1
end G
namespace L2
open G
abbrev Rws:=List (List (Option Int))
noncomputable def z3B (rows:Rws) (x y:Nat):Option Int:=(((rows[y]?).getD [])[x]?).join
noncomputable def z1r (w h:Nat) (f:Nat->Nat->Option Int):Rws:=(List.range h).map fun y=>(List.range w).map fun x=>f x y
theorem z7w (w h:Nat) (f:Nat->Nat->Option Int):(z1r w h f).length=h:=by unfold z1r;rw[List.length_map,List.length_range]
theorem z7x {w h:Nat} {f:Nat->Nat->Option Int} {y:Nat} (hy:y<h):(z1r w h f)[y]?=some ((List.range w).map fun x=>f x y):=by
 unfold z1r
 rw[List.getElem?_map,List.getElem?_range hy]
 rfl
theorem z69 {w h:Nat} {f:Nat->Nat->Option Int} {x y:Nat} (hx:x<w) (hy:y<h):z3B (z1r w h f) x y=f x y:=by
 unfold z3B
 rw[z7x hy]
 show(((List.range w).map fun x=>f x y)[x]?).join=_
 rw[List.getElem?_map,List.getElem?_range hx]
 rfl
theorem z3U {w h:Nat} {f g:Nat->Nat->Option Int} (e:∀x y,x<w->y<h->f x y=g x y):z1r w h f=z1r w h g:=by
 unfold z1r
 refine List.map_congr_left fun y hy=>List.map_congr_left fun x hx=>e x y (List.mem_range.mp hx) (List.mem_range.mp hy)
theorem Rect.cell {w h:Nat} {rows:Rws} (R:Rect w h rows) (x y:Nat):Cell (z3B rows x y):=by
 unfold z3B
 cases hy:rows[y]? with
 |none=>exact fun z e=>nomatch e
 |some r=>
  show Cell ((r[x]?).join)
  cases hx:r[x]? with
  |none=>exact fun z e=>nomatch e
  |some c=>exact(R.row r (List.mem_of_getElem? hy)).2 c (List.mem_of_getElem? hx)
theorem z2i {w h:Nat} {f:Nat->Nat->Option Int} (h1:1<=h) (h2:h<=64) (w1:1<=w) (w2:w<=64) (hc:∀x y,Cell (f x y)):Rect w h (z1r w h f):=
 ⟨z7w w h f,h1,h2,w1,w2,fun r hr=>by
  unfold z1r at hr
  obtain⟨y,_,rfl⟩:=List.mem_map.mp hr
  refine⟨by rw[List.length_map,List.length_range],fun c hc'=>?_⟩
  obtain⟨x,_,rfl⟩:=List.mem_map.mp hc'
  exact hc x y⟩
def zFL (w h:Nat) (rows:Rws):Rws:=z1r w h fun x y=>z3B rows x (h-1-y)
theorem Rect.upd {w h:Nat} {rows:Rws} (R:Rect w h rows):Rect w h (zFL w h rows):=z2i R.h1 R.h2 R.w1 R.w2 fun _ _=>R.cell _ _
theorem z9x (w y:Nat) (f:Nat->Nat->Option Int):z1r w (y+1) f=z1r w y f++[(List.range w).map fun x=>f x y]:=by
 unfold z1r
 rw[List.range_succ,List.map_append]
 rfl
end L2
namespace L2
open PySem PySem.Spec PyProof.Rows G
def zEa (i j:Int):Prop:=0<=j/\j<=1000000/\i.natAbs<2^1000
theorem zFM {X:Cx}:OpR X (binaryOp .LShift) (rI zEa fun i j=>.int (i*2^j.toNat)):=opI fun i j _ _ _ _ _ hc q=>lshift_int hc.1 (by
 have hb:Builtin.Int.intBits i<=1000:=z70 hc.2.2
 have h2:=hc.2.1
 omega) q
def rowAt (rows:List (List (Option Int))) (y:Int):List (Option Int):=if 0<=y then(rows[y.toNat]?).getD []else []
def zAt (zs:List Int) (y:Int):Int:=if 0<=y then(zs[y.toNat]?).getD 0 else 0
theorem z74 (f:List (Option Int)->Int) (h0:f []=0) (rows:List (List (Option Int))) (y:Int):zAt (rows.map f) y=f (rowAt rows y):=by
 unfold zAt rowAt
 split
 .rw[List.getElem?_map]
  cases rows[y.toNat]? with
  |none=>exact h0.symm
  |some r=>rfl
 .exact h0.symm
theorem z2y {w h:Nat} {rows:List (List (Option Int))} (R:Rect w h rows) (y:Int):Cells (rowAt rows y):=by
 unfold rowAt
 split
 .cases hr:rows[y.toNat]? with
  |none=>exact fun _ h=>nomatch h
  |some r=>exact(R.row r (List.mem_of_getElem? hr)).2
 .exact fun _ h=>nomatch h
theorem z3V {w h:Nat} {rows:List (List (Option Int))} (R:Rect w h rows) (x y:Int):look w h rows x y=atR (rowAt rows y) x:=by
 have hR:=R.len
 unfold look atR rowAt
 by_cases hy:0<=y
 .rw[if_pos hy]
  by_cases hy2:y<h
  .have hl:y.toNat<rows.length:=by omega
   have hw:=(R.row0 hl).1
   have eg:rows.getD y.toNat []=rows[y.toNat]'hl:=by rw[List.getD_eq_getElem?_getD,List.getElem?_eq_getElem hl];rfl
   rw[eg,List.getElem?_eq_getElem hl]
   show(if 0<=x/\x<w/\0<=y/\y<h then(rows[y.toNat]'hl).getD x.toNat none else none)=if 0<=x then((rows[y.toNat]'hl)[x.toNat]?).join else none
   by_cases hx:0<=x
   .rw[if_pos hx]
    by_cases hx2:x<w
    .rw[if_pos ⟨hx,hx2,hy,hy2⟩,List.getD_eq_getElem?_getD,List.getElem?_eq_getElem (by omega)]
     rfl
    .rw[if_neg (fun h=>hx2 h.2.1),List.getElem?_eq_none (by omega)]
     rfl
   .rw[if_neg hx,if_neg (fun h=>hx h.1)]
  .rw[if_neg (fun h=>hy2 h.2.2.2),List.getElem?_eq_none (show rows.length<=y.toNat by omega)]
   show none=if 0<=x then(([]:List (Option Int))[x.toNat]?).join else none
   split<;>rfl
 .rw[if_neg hy,if_neg (fun h=>hy h.2.2.1)]
  split<;>rfl
noncomputable def z75 (rows:List (List (Option Int))) (x y:Int) (w:Nat):List (Option Int):=(List.range w).map fun(i:Nat)=>atR (rowAt rows y) (x+(i:Int))
noncomputable def cutRows (rows:List (List (Option Int))) (x y:Int) (w h:Nat):List (List (Option Int)):=(List.range h).map fun(j:Nat)=>z75 rows x (y+(j:Int)) w
theorem z3r (rows:List (List (Option Int))) (x y:Int) (w:Nat):(z75 rows x y w).length=w:=by unfold z75;rw[List.length_map,List.length_range]
theorem z2M (rows:List (List (Option Int))) (x y:Int) (w h:Nat):(cutRows rows x y w h).length=h:=by unfold cutRows;rw[List.length_map,List.length_range]
theorem z7y {r:List (Option Int)} (h:Cells r) (x:Int):Cell (atR r x):=by
 unfold atR
 split
 .cases hr:r[x.toNat]? with
  |none=>exact fun z e=>nomatch e
  |some c=>exact h c (List.mem_of_getElem? hr)
 .exact fun z e=>nomatch e
theorem z8Y {w h:Nat} {rows:List (List (Option Int))} (R:Rect w h rows) (x y:Int) (w':Nat):Cells (z75 rows x y w'):=fun c hc=>by
 unfold z75 at hc
 obtain⟨i,_,rfl⟩:=List.mem_map.mp hc
 exact z7y (z2y R y) _
theorem zBF {w h:Nat} {rows:List (List (Option Int))} (R:Rect w h rows) (x y:Int) {w' h':Nat} (w1:1<=w') (w2:w'<=64) (h1:1<=h') (h2:h'<=64):Rect w' h' (cutRows rows x y w' h'):=
 ⟨z2M _ _ _ _ _,h1,h2,w1,w2,fun r hr=>by
  unfold cutRows at hr
  obtain⟨j,_,rfl⟩:=List.mem_map.mp hr
  exact⟨z3r _ _ _ _,z8Y R _ _ _⟩⟩
theorem z8Z {w h:Nat} {rows:List (List (Option Int))} (R:Rect w h rows) (x y:Int) (w':Nat):z09 (z75 rows x y w')=z9r (zAt (rows.map z09) y) (4*x) (4*(w':Int)):=by
 rw[z74 z09 rfl,z9s (z2y R y),z9u]
 rfl
theorem z9y (rows:List (List (Option Int))) (x y:Int) (w':Nat):z0J (z75 rows x y w')=z9r (zAt (rows.map z0J) y) x (w':Int):=by
 rw[z74 z0J rfl,zBE,z9u]
 rfl
theorem zCf {w h:Nat} {rows:List (List (Option Int))} (R:Rect w h rows) {x:Int} {w':Nat} (hx:x<= -(w':Int)\/(w:Int)<=x) (y:Int) (h':Nat):cutRows rows x y w' h'=List.replicate h' (List.replicate w' none):=by
 refine List.eq_replicate_iff.mpr ⟨z2M _ _ _ _ _,fun r hr=>?_⟩
 unfold cutRows at hr
 obtain⟨j,_,rfl⟩:=List.mem_map.mp hr
 refine List.eq_replicate_iff.mpr ⟨z3r _ _ _ _,fun c hc=>?_⟩
 unfold z75 at hc
 obtain⟨i,hi,rfl⟩:=List.mem_map.mp hc
 have hi':i<w':=List.mem_range.mp hi
 rw[<-z3V R]
 unfold look
 rw[if_neg (by omega)]
theorem z6A {w h:Nat} {rows:List (List (Option Int))} (R:Rect w h rows) (f:List (Option Int)->Int) (h0:f []=0) (hf:∀r,Cells r->r.length=w->0<=f r/\f r<2^256) (y:Int):0<=zAt (rows.map f) y/\zAt (rows.map f) y<2^256:=by
 rw[z74 f h0]
 unfold rowAt
 split
 .cases hr:rows[y.toNat]? with
  |none=>show 0<=f []/\f []<2^256;rw[h0];exact⟨by decide,by decide⟩
  |some r=>exact hf r (R.row r (List.mem_of_getElem? hr)).2 (R.row r (List.mem_of_getElem? hr)).1
 .rw[h0];exact⟨by decide,by decide⟩
theorem z6B {n:Nat} (h:n<=64):(16:Int)^n<=2^256/\(2:Int)^n<=2^256:=by
 have key:∀{a b:Nat},a<=b->(2:Int)^a<=2^b:=fun{a b} hab=>by
  rw[<-z4l,<-z4l]
  exact Int.ofNat_le.mpr (Nat.pow_le_pow_right (by decide) hab)
 exact⟨by rw[<-zC0];exact key (by omega),key (by omega)⟩
theorem z6C {w h:Nat} {rows:List (List (Option Int))} (R:Rect w h rows) (y:Int):0<=zAt (rows.map z09) y/\zAt (rows.map z09) y<2^256:=
 z6A R z09 rfl (fun r hc hl=>by
  have h1:=z2m hc
  have h2:=(z6B (n:=r.length) (by have:=R.w2;omega)).1
  omega) y
theorem z76 {w h:Nat} {rows:List (List (Option Int))} (R:Rect w h rows) (y:Int):0<=zAt (rows.map z0J) y/\zAt (rows.map z0J) y<2^256:=
 z6A R z0J rfl (fun r hc hl=>by
  have h1:=z2g r
  have h2:=(z6B (n:=r.length) (by have:=R.w2;omega)).2
  omega) y
theorem z9z {b:Int} {m:Nat} (h:0<=b):Builtin.bitAnd b (1*2^m-1)=b%2^m:=by
 obtain⟨n,rfl⟩:=Int.eq_ofNat_of_zero_le h
 have p:=z38 m
 have e:(1:Int)*2^m-1=((2^m-1:Nat):Int):=by
  have:=Nat.pow_pos (n:=m) (show 0<2 by decide)
  rw[Int.ofNat_sub (by omega),z4l]
  omega
 rw[e,PyProof.Rows.bitAnd_pp (Int.natCast_nonneg _) (Int.natCast_nonneg _),Int.toNat_natCast,Int.toNat_natCast,Nat.and_two_pow_sub_one_eq_mod,Int.natCast_emod,z4l]
def z6D:Sp:=fun vs H Q _=>∃(t:Addr) (zs:List Int) (y:Int),vs=[.ref t,.int y]/\H t=some (.tup (zs.map V.int))/\Q (.int (zAt zs y)) H
def z6E:Sp:=fun vs H Q _=>∃b a m:Int,vs=[.int b,.int a,.int m]/\0<=b/\b<2^256/\ -1000<=a/\a<=1000/\0<=m/\m<=1000/\Q (.int (z9r b a m)) H
def zDZ:Sp:=fun vs H Q _=>∃p x y w h rows w' h',vs=[.ref p,.int x,.int y,.int w',.int h']/\PicAt H p w rows/\Rect w h rows/\1<=w'/\w'<=64/\1<=h'/\h'<=64/\
 ∀q H',Same H H'->PicAt H' q w'.toNat (cutRows rows x y w'.toNat h'.toNat)->Q (.ref q) H'
end L2
namespace L2
open PySem PySem.Spec PyProof.Rows G
structure Made (H H2:Hp) (f:Nat->List (Option Int)) (i:Nat) (qs:List Addr):Prop where
 same:Same H H2
 len:qs.length=i
 fr:∀q∈qs,H q=none
 at':∀(j:Nat) q,qs[j]?=some q->H2 q=some (.lst ((f j).map z0X))
 nd:qs.Nodup
theorem Made.rows {H H2:Hp} {f:Nat->List (Option Int)} {n:Nat} {qs:List Addr} {l:Addr} (M:Made H H2 f n qs) (nl:H2 l=none):RowsB H (upd H2 l (.lst (qs.map V.ref))) l qs ((List.range n).map f) where
 same:=M.same.trans (Same.new nl)
 fl:=M.same.free nl
 fp:=fun p hp=>⟨M.fr p hp,fun e=>by
  obtain⟨j,hj,ej⟩:=List.mem_iff_getElem.mp hp
  have:=M.at' j p (by rw[List.getElem?_eq_getElem hj,ej])
  rw[e,nl]at this
  cases this⟩
 rat:=⟨upd_same,by rw[M.len,List.length_map,List.length_range],fun i p r e1 e2=>by
  have hi:i<n:=by
   have:=(List.getElem?_eq_some_iff.mp e1).1
   have:=M.len
   omega
  rw[List.getElem?_map,List.getElem?_range hi]at e2
  cases e2
  exact(Same.new nl) _ _ (M.at' i p e1)⟩
theorem z4p {α:Type} (f:Nat->α) (i:Nat):(List.range (i+1)).map f=(List.range i).map f++[f i]:=by
 rw[List.range_succ,List.map_append]
 rfl
theorem PicAt.of {H:Hp} {p:Addr} {w:Nat} {rows rows':List (List (Option Int))} (h:PicAt H p w rows) (e:rows=rows'):PicAt H p w rows':=e▸h
theorem RowsAt.cell {H:Hp} {l:Addr} {ps:List Addr} {rows:List (List (Option Int))} {w h:Nat} (a:RowsAt H l ps rows) (R:Rect w h rows) {x y:Nat} (hx:x<w) (hy:y<h):
 ∃p xs,ps[y]?=some p/\L2.atI (ps.map V.ref) (y:Int)=some (.ref p)/\H p=some (.lst xs)/\L2.atI xs (x:Int)=some (z0X (z3B rows x y)):=by
 have hR:=R.len
 have hl:y<rows.length:=by omega
 obtain⟨p,e0,g⟩:=a.at hl
 have e1:L2.atI (ps.map V.ref) (y:Int)=some (.ref p):=z0x (by rw[List.getElem?_map,e0];rfl)
 have hw:=(R.row0 hl).1
 refine⟨p,_,e0,e1,g,z0x ?_⟩
 have e:z3B rows x y=(rows[y]'hl)[x]'(by omega):=by
  unfold z3B
  rw[List.getElem?_eq_getElem hl]
  show((rows[y]'hl)[x]?).join=_
  rw[List.getElem?_eq_getElem (by omega)]
  rfl
 rw[List.getElem?_map,List.getElem?_eq_getElem (by omega),e]
 rfl
abbrev z2b (h:Heap) (T:Addr) (x y v:Value):Prop:=h.get? T=some {cls:=.type "tuple",data:=.seq #[x,y,v]}
structure Ap3 (z TI TO i1 i2 i3 l1 l2 l3:Addr):Prop where
 TIz:TI≠z
 TOz:TO≠z
 i1z:i1≠z
 i2z:i2≠z
 i3z:i3≠z
 TITO:TI≠TO
 TIi1:TI≠i1
 TIi2:TI≠i2
 TIi3:TI≠i3
 TOi1:TO≠i1
 TOi2:TO≠i2
 TOi3:TO≠i3
 i12:i1≠i2
 i13:i1≠i3
 i23:i2≠i3
 l1z:l1≠z
 l2z:l2≠z
 l3z:l3≠z
 l2i1:l2≠i1
 l2TO:l2≠TO
 l3i1:l3≠i1
 l3i2:l3≠i2
 l3TO:l3≠TO
theorem zCg {n l1 l2 l3:Nat} (h1:l1<n) (h2:l2<n) (h3:l3<n):Ap3 (n+5) (n+3) (n+4) n (n+1) (n+2) l1 l2 l3:=by
 constructor<;>(show(_:Nat)≠(_:Nat);omega)
section
variable {prog:Program} {w:World} {A:Around} {E:Value->Shared->Prop} {s:Shared}
theorem z4E {T:Addr} {a b c x:Value} {k:Nat} {Q:Unit->Shared->Prop} (hT:z2b s.heap T a b c)
 (h:∀h',h'.get? T=some {cls:=.type "tuple",data:=.seq ((#[a,b,c]:Array Value).setIfInBounds k x)}->Heap.SameBut T s.heap h'->Q () {s with heap:=h'}):
 wpAny (model prog w) A (updateSeq T (·.setIfInBounds k x)) Q E s:=by
 refine wpAny_updateSeq hT rfl (h _ ?_ (Heap.SameBut.update ..))
 rw[Heap.get?_update_self _ hT rfl]
 simp[Obj.mapSeq]
theorem zA0 {z TI TO i1 i2 i3 l1 l2 l3:Addr} {k:Nat} {xs ys vs:Array Value} {x y v a b c:Value} {Q:Value->Shared->Prop} (D:Ap3 z TI TO i1 i2 i3 l1 l2 l3)
 (gz:IsZip s.heap z TI TO .none) (gI:z2b s.heap TI (.ref i1) (.ref i2) (.ref i3)) (gO:z2b s.heap TO a b c)
 (j1:s.heap.IsTupleIter i1 l1 k) (j2:s.heap.IsTupleIter i2 l2 k) (j3:s.heap.IsTupleIter i3 l3 k) (t1:s.heap.IsTuple l1 xs) (t2:s.heap.IsTuple l2 ys) (t3:s.heap.IsTuple l3 vs) (hx:xs[k]?=some x) (hy:ys[k]?=some y) (hv:vs[k]?=some v)
 (kk:∀h',IsZip h' z TI TO (rawInt s.heap.objs.size)->z2b h' TO x y v->h'.IsTupleIter i1 l1 (k+1)->h'.IsTupleIter i2 l2 (k+1)->h'.IsTupleIter i3 l3 (k+1)->z2b h' s.heap.objs.size x y v->h'.objs.size=s.heap.objs.size+1->
  (∀c o,c≠z->c≠TO->c≠i1->c≠i2->c≠i3->s.heap.get? c=some o->h'.get? c=some o)->Q (.ref s.heap.objs.size) {s with heap:=h'}):
 wpAny (model prog w) A (Builtin.«zip.__next__» ⟨[.ref z],[]⟩) (fun fin s'=>∃v,fin=.done (.ret v)/\Q v s') E s:=by
 show wpAny _ _ (field (.ref z) 2>>=_) _ _ _
 refine wpAny_bind (wpAny_field gz rfl (x:=.bool false) rfl ?_)
 show wpAny _ _ (field (.ref z) 3>>=_) _ _ _
 refine wpAny_bind (wpAny_field gz rfl (x:=.ref TI) rfl ?_)
 refine wpAny_bind (wpAny_seqItems gI rfl ?_)
 show wpAny _ _ (Builtin.SmallTypes.ownedTupleIsFree (.ref z)>>=_) _ _ _
 refine wpAny_bind ?_
 unfold Builtin.SmallTypes.ownedTupleIsFree
 refine wpAny_bind (wpAny_field gz rfl (x:=.none) rfl (wpAny_pure ?_))
 simp only[if_true]
 refine wpAny_bind (wpAny_rule ?_)
 refine wpAny_bind (wpAny_field gz rfl (x:=.ref TO) rfl ?_)
 refine wpAny_bind (wpAny_setField_rec gz (by simp) fun q1 gz1 b1=>?_)
 replace gz1:IsZip q1 z TI TO .ellipsis:=gz1
 refine wpAny_bind ?_
 simp only[List.zipIdx_cons,List.zipIdx_nil,List.forIn_cons,List.forIn_nil]
 refine wpAny_bind (wpAny_bind (wpAny_onRaise ?_))
 show wpAny _ _ (Builtin.SmallTypes.nextOf (.ref i1)>>=_) _ _ _
 refine wpAny_bind (z1u (j1.extBut b1.extBut D.i1z) (t1.extBut b1.extBut D.l1z) hx fun q2 j12 b2=>wpAny_pure ?_)
 have gO2:z2b q2 TO a b c:=b2.extBut _ _ D.TOi1 (b1.extBut _ _ D.TOz gO)
 refine wpAny_bind (wpAny_seqItems gO2 rfl ?_)
 refine wpAny_bind (z4E gO2 fun q3 gO3 b3=>?_)
 replace gO3:z2b q3 TO x b c:=gO3
 refine wpAny_bind (wpAny_letGo (wpAny_pure ?_))
 refine wpAny_bind (wpAny_bind (wpAny_onRaise ?_))
 show wpAny _ _ (Builtin.SmallTypes.nextOf (.ref i2)>>=_) _ _ _
 refine wpAny_bind (z1u (((j2.extBut b1.extBut D.i2z).extBut b2.extBut D.i12.symm).extBut b3.extBut D.TOi2.symm) (((t2.extBut b1.extBut D.l2z).extBut b2.extBut D.l2i1).extBut b3.extBut D.l2TO) hy fun q4 j24 b4=>wpAny_pure ?_)
 have gO4:z2b q4 TO x b c:=b4.extBut _ _ D.TOi2 gO3
 refine wpAny_bind (wpAny_seqItems gO4 rfl ?_)
 refine wpAny_bind (z4E gO4 fun q5 gO5 b5=>?_)
 replace gO5:z2b q5 TO x y c:=gO5
 refine wpAny_bind (wpAny_letGo (wpAny_pure ?_))
 refine wpAny_bind (wpAny_bind (wpAny_onRaise ?_))
 show wpAny _ _ (Builtin.SmallTypes.nextOf (.ref i3)>>=_) _ _ _
 refine wpAny_bind (z1u (((((j3.extBut b1.extBut D.i3z).extBut b2.extBut D.i13.symm).extBut b3.extBut D.TOi3.symm).extBut b4.extBut D.i23.symm).extBut b5.extBut D.TOi3.symm) (((((t3.extBut b1.extBut D.l3z).extBut b2.extBut D.l3i1).extBut b3.extBut D.l3TO).extBut b4.extBut D.l3i2).extBut b5.extBut D.l3TO) hv fun q6 j36 b6=>wpAny_pure ?_)
 have gO6:z2b q6 TO x y c:=b6.extBut _ _ D.TOi3 gO5
 refine wpAny_bind (wpAny_seqItems gO6 rfl ?_)
 refine wpAny_bind (z4E gO6 fun q7 gO7 b7=>?_)
 replace gO7:z2b q7 TO x y v:=gO7
 refine wpAny_bind (wpAny_letGo (wpAny_pure (wpAny_pure ?_)))
 refine wpAny_bind (wpAny_seqItems gO7 rfl ?_)
 refine wpAny_bind (wpAny_newTuple ?_)
 have sz:q7.objs.size=s.heap.objs.size:=by rw[b7.1,b6.1,b5.1,b4.1,b3.1,b2.1,b1.1]
 have gz7:IsZip q7 z TI TO .ellipsis:=b7.extBut _ _ D.TOz.symm (b6.extBut _ _ D.i3z.symm (b5.extBut _ _ D.TOz.symm (b4.extBut _ _ D.i2z.symm (b3.extBut _ _ D.TOz.symm (b2.extBut _ _ D.i1z.symm gz1)))))
 have kk7:∀c o,c≠z->c≠TO->c≠i1->c≠i2->c≠i3->s.heap.get? c=some o->q7.get? c=some o:=fun c o c1 c2 c3 c4 c5 e=>b7.extBut _ _ c2 (b6.extBut _ _ c5 (b5.extBut _ _ c2 (b4.extBut _ _ c4 (b3.extBut _ _ c2 (b2.extBut _ _ c3 (b1.extBut _ _ c1 e))))))
 have j17:q7.IsTupleIter i1 l1 (k+1):=((((j12.extBut b3.extBut D.TOi1.symm).extBut b4.extBut D.i12).extBut b5.extBut D.TOi1.symm).extBut b6.extBut D.i13).extBut b7.extBut D.TOi1.symm
 have j27:q7.IsTupleIter i2 l2 (k+1):=((j24.extBut b5.extBut D.TOi2.symm).extBut b6.extBut D.i23).extBut b7.extBut D.TOi2.symm
 have j37:q7.IsTupleIter i3 l3 (k+1):=j36.extBut b7.extBut D.TOi3.symm
 have zlt:z<q7.objs.size:=Heap.lt_size gz7
 show wpAny _ _ (Builtin.SmallTypes.ownedTupleHandOut (.ref z) (.ref q7.objs.size)>>=_) _ _ _
 refine wpAny_bind ?_
 unfold Builtin.SmallTypes.ownedTupleHandOut
 have gz8:IsZip (q7.push {cls:=.type "tuple",data:=.seq #[x,y,v]}) z TI TO .ellipsis:=Heap.get?_push_of_some _ gz7
 refine wpAny_bind (wpAny_setField_rec gz8 (by simp) fun q9 gz9 b9=>?_)
 replace gz9:IsZip q9 z TI TO (rawInt q7.objs.size):=gz9
 refine wpAny_setField_rec gz9 (by simp) fun q10 gz10 b10=>?_
 replace gz10:IsZip q10 z TI TO (rawInt q7.objs.size):=gz10
 have up:∀c o,c≠z->q7.get? c=some o->q10.get? c=some o:=fun c o c1 e=>b10.extBut _ _ c1 (b9.extBut _ _ c1 (Heap.get?_push_of_some _ e))
 have gT:z2b q10 q7.objs.size x y v:=b10.extBut _ _ (Nat.ne_of_gt zlt) (b9.extBut _ _ (Nat.ne_of_gt zlt) (Heap.get?_push_size _ rfl))
 have sz10:q10.objs.size=q7.objs.size+1:=by rw[b10.1,b9.1,Heap.size_push]
 rw[sz]at gz10 gT sz10
 refine wpAny_pure ⟨_,rfl,?_⟩
 show Q (.ref q7.objs.size) _
 rw[sz]
 exact kk q10 gz10 (up _ _ D.TOz gO7) (j17.at fun o e=>up _ o D.i1z e) (j27.at fun o e=>up _ o D.i2z e) (j37.at fun o e=>up _ o D.i3z e) gT sz10 fun c o c1 c2 c3 c4 c5 e=>up c o c1 (kk7 c o c1 c2 c3 c4 c5 e)
theorem zBG {z TI TO i1 i2 i3 l1:Addr} {k:Nat} {xs:Array Value} {Q:PySem.Fin->Shared->Prop} (hh:A.handled=none) (i1z:i1≠z) (l1z:l1≠z)
 (gz:IsZip s.heap z TI TO .none) (gI:z2b s.heap TI (.ref i1) (.ref i2) (.ref i3))
 (j1:s.heap.IsTupleIter i1 l1 k) (t1:s.heap.IsTuple l1 xs) (hx:xs[k]?=none)
 (kE:∀h' e,(∀c o,c≠z->c≠i1->s.heap.get? c=some o->h'.get? c=some o)->(∃o,h'.get? e=some o/\o.cls=.type "StopIteration")->E (.ref e) {s with heap:=h'}):
 wpAny (model prog w) A (Builtin.«zip.__next__» ⟨[.ref z],[]⟩) Q E s:=by
 show wpAny _ _ (field (.ref z) 2>>=_) _ _ _
 refine wpAny_bind (wpAny_field gz rfl (x:=.bool false) rfl ?_)
 show wpAny _ _ (field (.ref z) 3>>=_) _ _ _
 refine wpAny_bind (wpAny_field gz rfl (x:=.ref TI) rfl ?_)
 refine wpAny_bind (wpAny_seqItems gI rfl ?_)
 show wpAny _ _ (Builtin.SmallTypes.ownedTupleIsFree (.ref z)>>=_) _ _ _
 refine wpAny_bind ?_
 unfold Builtin.SmallTypes.ownedTupleIsFree
 refine wpAny_bind (wpAny_field gz rfl (x:=.none) rfl (wpAny_pure ?_))
 simp only[if_true]
 refine wpAny_bind (wpAny_rule ?_)
 refine wpAny_bind (wpAny_field gz rfl (x:=.ref TO) rfl ?_)
 refine wpAny_bind (wpAny_setField_rec gz (by simp) fun q1 gz1 b1=>?_)
 replace gz1:IsZip q1 z TI TO .ellipsis:=gz1
 refine wpAny_bind ?_
 simp only[List.zipIdx_cons,List.zipIdx_nil,List.forIn_cons,List.forIn_nil]
 refine wpAny_bind (wpAny_bind (wpAny_onRaise ?_))
 show wpAny _ _ (Builtin.SmallTypes.nextOf (.ref i1)>>=_) _ _ _
 refine wpAny_bind (z4B hh (j1.extBut b1.extBut i1z) (t1.extBut b1.extBut l1z) hx fun q2 e b2 he=>?_)
 obtain⟨oe,ge,ce⟩:=he
 have gz2:IsZip q2 z TI TO .ellipsis:=b2 _ _ i1z.symm gz1
 have ez:e≠z:=fun p=>by subst p;rw[gz2]at ge;cases ge;simp at ce
 exact wpAny_setField_rec gz2 (by simp) fun q3 _ b3=>kE q3 e (fun c o c1 c3 p=>b3.extBut _ _ c1 (b2 _ _ c3 (b1.extBut _ _ c1 p))) ⟨oe,b3.extBut _ _ ez ge,ce⟩
theorem z4V (a b c:Value):checkTypeCall "zip" ⟨[a,b,c],[]⟩=pure ():=by kernel_rfl
theorem z5J (a b c:Value):checkBuiltinCall "zip.__new__" ⟨[.type "zip",a,b,c],[]⟩=pure ():=by kernel_rfl
theorem z77 (a b c d:Value):argsOk "object.__init__" ⟨[a,b,c,d],[]⟩:=by
 unfold argsOk;rw[signature?_of (id:="object.__init__") (n:=['_','_','t','i','n','i','_','_']) (o:=['t','c','e','j','b','o']) (by kernel_rfl) F.owner_object];kernel_rfl
noncomputable abbrev zw1 (h:Heap) (l1:Addr):Heap:=h.push {cls:=.type "tuple_iterator",data:=.fields #[.ref l1,.int 0 0]}
noncomputable abbrev zw2 (h:Heap) (l1 l2:Addr):Heap:=(zw1 h l1).push {cls:=.type "tuple_iterator",data:=.fields #[.ref l2,.int 0 0]}
noncomputable abbrev zw3 (h:Heap) (l1 l2 l3:Addr):Heap:=(zw2 h l1 l2).push {cls:=.type "tuple_iterator",data:=.fields #[.ref l3,.int 0 0]}
noncomputable abbrev zw4 (h:Heap) (l1 l2 l3:Addr):Heap:=(zw3 h l1 l2 l3).push {cls:=.type "tuple",data:=.seq #[.ref h.objs.size,.ref (zw1 h l1).objs.size,.ref (zw2 h l1 l2).objs.size]}
noncomputable abbrev zw5 (h:Heap) (l1 l2 l3:Addr):Heap:=(zw4 h l1 l2 l3).push {cls:=.type "tuple",data:=.seq #[.none,.none,.none]}
noncomputable abbrev zw6 (h:Heap) (l1 l2 l3:Addr):Heap:=(zw5 h l1 l2 l3).push {cls:=.type "zip",data:=.fields #[.none,.bool false,.bool false,.ref (zw3 h l1 l2 l3).objs.size,.ref (zw4 h l1 l2 l3).objs.size]}
theorem z8a (l1 l2 l3:Addr) (xs ys vs:Array Value):
 Meets (Builtin.«zip.__new__» ⟨[.type "zip",.ref l1,.ref l2,.ref l3],[]⟩) (fun _ R s=>s.heap.IsTuple l1 xs/\s.heap.IsTuple l2 ys/\s.heap.IsTuple l3 vs/\R (.ok (.ret (.ref (zw5 s.heap l1 l2 l3).objs.size))) {s with heap:=zw6 s.heap l1 l2 l3}):=
 .of_wp fun prog w A R s h=>by
  obtain⟨hp,g,d,tk,os⟩:=s
  obtain⟨t1,t2,t3,h⟩:=h
  have hsub:=sub_zip
  have hL1:Heap.IsTuple (Shared.heap ⟨hp,g,d,tk,os⟩) l1 xs:=t1
  have hL2:Heap.IsTuple (Shared.heap ⟨hp.push {cls:=.type "tuple_iterator",data:=.fields #[.ref l1,.int 0 0]},g,d,tk,os⟩) l2 ys:=t2.at fun o e=>Heap.get?_push_of_some _ e
  have hL3:Heap.IsTuple (Shared.heap ⟨(hp.push {cls:=.type "tuple_iterator",data:=.fields #[.ref l1,.int 0 0]}).push {cls:=.type "tuple_iterator",data:=.fields #[.ref l2,.int 0 0]},g,d,tk,os⟩) l3 vs:=(t3.at fun o e=>Heap.get?_push_of_some _ e).at fun o e=>Heap.get?_push_of_some _ e
  wp_walk using wpAny_pyIter_tuple hL1,wpAny_pyIter_tuple hL2,wpAny_pyIter_tuple hL3
  exact⟨_,rfl,h⟩
theorem zA1 {l1 l2 l3:Addr} {xs ys vs:Array Value} {Q:Value->Shared->Prop} (t1:s.heap.IsTuple l1 xs) (t2:s.heap.IsTuple l2 ys) (t3:s.heap.IsTuple l3 vs)
 (h:∀h',IsZip h' (s.heap.objs.size+5) (s.heap.objs.size+3) (s.heap.objs.size+4) .none->z2b h' (s.heap.objs.size+3) (.ref s.heap.objs.size) (.ref (s.heap.objs.size+1)) (.ref (s.heap.objs.size+2))->
  z2b h' (s.heap.objs.size+4) .none .none .none->h'.IsTupleIter s.heap.objs.size l1 0->h'.IsTupleIter (s.heap.objs.size+1) l2 0->h'.IsTupleIter (s.heap.objs.size+2) l3 0->
  (∀c o,s.heap.get? c=some o->h'.get? c=some o)->Q (.ref (s.heap.objs.size+5)) {s with heap:=h'}):
 wpAny (model prog w) A (call (.type "zip") [.ref l1,.ref l2,.ref l3]) Q E s:=by
 refine callType_new F.called_zip (by decide) (z4V _ _ _) (z5J _ _ _) (fun obj=>z77 obj _ _ _) F.entry_zip_new (z8a l1 l2 l3 xs ys vs) ⟨t1,t2,t3,?_⟩
 have z1:(zw1 s.heap l1).objs.size=s.heap.objs.size+1:=Heap.size_push ..
 have z2:(zw2 s.heap l1 l2).objs.size=s.heap.objs.size+2:=by rw[Heap.size_push,z1]
 have z3:(zw3 s.heap l1 l2 l3).objs.size=s.heap.objs.size+3:=by rw[Heap.size_push,z2]
 have z4:(zw4 s.heap l1 l2 l3).objs.size=s.heap.objs.size+4:=by rw[Heap.size_push,z3]
 have z5:(zw5 s.heap l1 l2 l3).objs.size=s.heap.objs.size+5:=by rw[Heap.size_push,z4]
 have g6:(zw6 s.heap l1 l2 l3).get? (zw5 s.heap l1 l2 l3).objs.size=some _:=Heap.get?_push_size _ rfl
 have g5:(zw6 s.heap l1 l2 l3).get? (zw4 s.heap l1 l2 l3).objs.size=some _:=Heap.get?_push_of_some _ (Heap.get?_push_size _ rfl)
 have g4:(zw6 s.heap l1 l2 l3).get? (zw3 s.heap l1 l2 l3).objs.size=some _:=Heap.get?_push_of_some _ (Heap.get?_push_of_some _ (Heap.get?_push_size _ rfl))
 have g3:(zw6 s.heap l1 l2 l3).get? (zw2 s.heap l1 l2).objs.size=some _:=Heap.get?_push_of_some _ (Heap.get?_push_of_some _ (Heap.get?_push_of_some _ (Heap.get?_push_size _ rfl)))
 have g2:(zw6 s.heap l1 l2 l3).get? (zw1 s.heap l1).objs.size=some _:=Heap.get?_push_of_some _ (Heap.get?_push_of_some _ (Heap.get?_push_of_some _ (Heap.get?_push_of_some _ (Heap.get?_push_size _ rfl))))
 have g1:(zw6 s.heap l1 l2 l3).get? s.heap.objs.size=some _:=Heap.get?_push_of_some _ (Heap.get?_push_of_some _ (Heap.get?_push_of_some _ (Heap.get?_push_of_some _ (Heap.get?_push_of_some _ (Heap.get?_push_size _ rfl)))))
 show _/\_
 rw[z3,z4,z5]at g6
 rw[z1,z2,z3]at g4
 rw[z4]at g5
 rw[z2]at g3
 rw[z1]at g2
 rw[z5]
 exact⟨⟨_,g6,rfl⟩,h _ g6 g4 g5 ⟨_,g1,rfl,rfl⟩ ⟨_,g2,rfl,rfl⟩ ⟨_,g3,rfl,rfl⟩ fun c o p=>Heap.get?_push_of_some _ (Heap.get?_push_of_some _ (Heap.get?_push_of_some _ (Heap.get?_push_of_some _ (Heap.get?_push_of_some _ (Heap.get?_push_of_some _ p)))))⟩
end
def Itw (K:PySem.W.Frag) (a b c:Addr) (xs ys zs:List V):It:=
 ⟨fun i H=>SqT K H a xs/\SqT K H b ys/\SqT K H c zs/\i<xs.length/\i<ys.length/\i<zs.length,fun i H x H'=>∃T u v r,H T=none/\x=.ref T/\H'=upd H T (.tup [u,v,r])/\xs[i]?=some u/\ys[i]?=some v/\zs[i]?=some r,
  fun i H=>SqT K H a xs/\xs.length<=i⟩
theorem zA2 {P:Program} {w:World} {K:PySem.W.Frag} {es:List Expr} {k:Nat} {pos:Pos} (z TI TO i1 i2 i3 a b c:Addr) (xs ys zs:List V) (D:Ap3 z TI TO i1 i2 i3 a b c):
 Turn P w K (.Tuple es k pos) (Itw K a b c xs ys zs) [z,TI,TO,i1,i2,i3] z (fun i h=>IsZip h z TI TO .none/\z2b h TI (.ref i1) (.ref i2) (.ref i3)/\(∃u v r,z2b h TO u v r)/\h.IsTupleIter i1 a i/\h.IsTupleIter i2 b i/\h.IsTupleIter i3 c i) where
 mem:=List.mem_cons_self
 obj:=fun i h st d hc=>by
  obtain⟨gz,gI,⟨u,v,r,gO⟩,⟨o1,e1,c1,d1⟩,⟨o2,e2,c2,d2⟩,⟨o3,e3,c3,d3⟩⟩:=st
  simp only[List.mem_cons,List.mem_nil_iff,or_false]at hc
  rcases hc with rfl|rfl|rfl|rfl|rfl|rfl
  .exact⟨_,gz,fun v q=>by cases q⟩
  .exact⟨_,gI,fun v q=>by cases q⟩
  .exact⟨_,gO,fun v q=>by cases q⟩
  .exact⟨o1,e1,fun v q=>by rw[d1]at q;cases q⟩
  .exact⟨o2,e2,fun v q=>by rw[d2]at q;cases q⟩
  .exact⟨o3,e3,fun v q=>by rw[d3]at q;cases q⟩
 keep:=fun i h h' st kk=>by
  obtain⟨gz,gI,⟨u,v,r,gO⟩,j1,j2,j3⟩:=st
  exact⟨kk z (by simp) _ gz,kk TI (by simp) _ gI,⟨u,v,r,kk TO (by simp) _ gO⟩,j1.at fun o e=>kk i1 (by simp) o e,j2.at fun o e=>kk i2 (by simp) o e,j3.at fun o e=>kk i3 (by simp) o e⟩
 item:=by
  intro X hP hw hK hc i pins s σ H E I hf st hg
  subst hP hw hK
  obtain⟨ha,hb,hc',hi,hj,hk⟩:=hg
  obtain⟨gz,gI,⟨p,q,r',gO⟩,j1,j2,j3⟩:=st
  obtain⟨its1,rv1,t1,_⟩:=I.tuple ha
  obtain⟨its2,rv2,t2,_⟩:=I.tuple hb
  obtain⟨its3,rv3,t3,_⟩:=I.tuple hc'
  have hx:xs[i]?=some xs[i]:=List.getElem?_eq_getElem hi
  have hy:ys[i]?=some ys[i]:=List.getElem?_eq_getElem hj
  have hz:zs[i]?=some zs[i]:=List.getElem?_eq_getElem hk
  obtain⟨u,hu,ru⟩:=rv1.get hx
  obtain⟨v,hv,rv⟩:=rv2.get hy
  obtain⟨r,hr,rr⟩:=rv3.get hz
  have nT:H s.heap.objs.size=none:=I.hok.fresh (Nat.le_refl _)
  have F0:∀d∈[z,TI,TO,i1,i2,i3],H d=none:=fun d hd=>(hf d hd).1
  have ty:s.TypeIs (.ref z) "zip":=⟨_,gz,rfl⟩
  unfold pyNext
  refine wpAny_bind (wpAny_attempt (wpAny_callSpecial?_slot (name:=Str.ofString "__next__") ty F.slot_zip_next (wpAny_call_entry F.slot_zip_next ty F.entry_zip_next
   (zA0 D gz gI gO j1 j2 j3 (show s.heap.IsTuple a its1.toArray from t1) (show s.heap.IsTuple b its2.toArray from t2) (show s.heap.IsTuple c its3.toArray from t3) (x:=u) (y:=v) (v:=r) (by simpa using hu) (by simpa using hv) (by simpa using hr) fun h' a1 a2 a3 a4 a4' a5 a6 a7=>wpAny_pure ?_) (F.args_zip_next_1 _))))
  refine⟨.ref s.heap.objs.size,rfl,wpAny_letOwnedTupleGo_zip a1 fun h'' gz'' sb=>?_⟩
  have lt:∀{c o},s.heap.get? c=some o->c≠s.heap.objs.size:=fun e=>Nat.ne_of_lt (Heap.lt_size e)
  have kk:∀d o,d∉[z,TO,i1,i2,i3]->s.heap.get? d=some o->h''.get? d=some o:=fun d o hd e=>by
   simp only[List.mem_cons,List.mem_nil_iff,or_false,not_or]at hd
   exact(sb.2 d hd.1).trans (a7 d o hd.1 hd.2.1 hd.2.2.1 hd.2.2.2.1 hd.2.2.2.2 e)
  have gT:z2b h'' s.heap.objs.size u v r:=(sb.2 _ (Ne.symm (lt gz))).trans a5
  have sub:∀d,d∈[z,TO,i1,i2,i3]->d∈[z,TI,TO,i1,i2,i3]:=fun d hd=>by
   simp only[List.mem_cons,List.mem_nil_iff,or_false]at hd⊢
   rcases hd with h|h|h|h|h<;>simp[h]
  have nb:∀d y,H d=some y->d∉[z,TO,i1,i2,i3]:=fun d y e hd=>by
   rw[F0 d (sub d hd)]at e
   cases e
  have I1:Inv X pins σ (upd H s.heap.objs.size (.tup [xs[i],ys[i],zs[i]])) {s with heap:=h'',toks:=s.toks}:=by
   refine I.step (g':=s.gens) (d':=s.drawn) (ch:=[z,TO,i1,i2,i3]) (fun d hd=>?_) (fun d o _ _ hd e _=>kk d o hd e) (fun d o _ _ hd e _=>⟨o.slots,kk d o hd e⟩) (fun d o _ e n=>?_)
    (fun d o hd e=>⟨o,kk d o hd e⟩) (fun d zs e=>?_) (fun d ob y e=>?_) (fun d ps e=>⟨#[],?_⟩) (fun m hm=>?_) (fun d y e=>?_) I.bare
   .obtain⟨_,f1,_,f3,f4,f5⟩:=hf d (sub d hd)
    exact⟨f3,f1,f4,f5⟩
   .rw[z06 (lt e)]
    exact n
   .rw[z06 (z0A e nT)]
    exact e
   .rw[z06 (z0A e nT)]
    exact e
   .rw[z06 (z0A e nT),e]
    simp
   .obtain⟨o,es',ep,ho',r⟩:=hm
    refine⟨o,es',ep,kk _ o (fun hd=>?_) ho',r⟩
    exact(hf _ (sub _ hd)).2.1 rfl
   .by_cases hb':d=s.heap.objs.size
    .subst hb'
     rw[upd_same]at e
     cases e
     exact⟨by show 3<=sizeLine;decide,[u,v,r],.cons ru (.cons rv (.cons rr .nil)),_,gT,rfl,_,rfl⟩
    .rw[z06 hb']at e
     refine(I.hok d y e).stay (fun d' o hd e'=>?_) (fun d' e'=>by rw[z06 (z0A e' nT)];exact e') fun d' zs e'=>by rw[z06 (z0A e' nT)];exact e'
     rcases hd with h|h
     .subst h
      exact kk d' o (nb d' y e) e'
     .exact kk d' o (nb d' _ h) e'
  refine⟨.ref s.heap.objs.size,_,I1,rfl,⟨_,xs[i],ys[i],zs[i],nT,rfl,rfl,hx,hy,hz⟩,⟨gz'',(sb.2 _ D.TIz).trans (a7 _ _ D.TIz D.TITO D.TIi1 D.TIi2 D.TIi3 gI),⟨_,_,_,(sb.2 _ D.TOz).trans a2⟩,a3.at fun o e=>(sb.2 _ D.i1z).trans e,a4.at fun o e=>(sb.2 _ D.i2z).trans e,a4'.at fun o e=>(sb.2 _ D.i3z).trans e⟩,fun d hd=>?_⟩
  rw[z06]
  .exact F0 d hd
  .simp only[List.mem_cons,List.mem_nil_iff,or_false]at hd
   rcases hd with rfl|rfl|rfl|rfl|rfl|rfl
   .exact lt gz
   .exact lt gI
   .exact lt gO
   .obtain⟨_,e,_⟩:=j1;exact lt e
   .obtain⟨_,e,_⟩:=j2;exact lt e
   .obtain⟨_,e,_⟩:=j3;exact lt e
 done:=by
  intro X hP hw hK hc i pins s σ H E I hf st hg
  subst hP hw hK
  obtain⟨ha,hend⟩:=hg
  obtain⟨gz,gI,⟨p,q,r',gO⟩,j1,j2,j3⟩:=st
  obtain⟨its1,rv1,t1,_⟩:=I.tuple ha
  have l1:=rv1.length
  have hx:its1.toArray[i]?=none:=by rw[List.getElem?_toArray];exact List.getElem?_eq_none (by omega)
  have sub:∀d,d∈[z,i1]->d∈[z,TI,TO,i1,i2,i3]:=fun d hd=>by
   simp only[List.mem_cons,List.mem_nil_iff,or_false]at hd⊢
   rcases hd with h|h<;>simp[h]
  have nb:∀d y,H d=some y->d∉[z,i1]:=fun d y e hd=>by
   rw[(hf d (sub d hd)).1]at e
   cases e
  have ty:s.TypeIs (.ref z) "zip":=⟨_,gz,rfl⟩
  unfold pyNext
  refine wpAny_bind (wpAny_attempt (wpAny_callSpecial?_slot (name:=Str.ofString "__next__") ty F.slot_zip_next (wpAny_call_entry F.slot_zip_next ty F.entry_zip_next
   (zBG (I.ok.hd hc) D.i1z D.l1z gz gI j1 (show s.heap.IsTuple a its1.toArray from t1) hx fun h' e a7 he=>?_) (F.args_zip_next_1 _))))
  obtain⟨oe,hoe,hce⟩:=he
  refine wpAny_bind (wpAny_isInstance (T:="StopIteration") (b:=true) ⟨oe,hoe,hce⟩ isSubtype_stop ?_)
  refine wpAny_pure ⟨rfl,?_⟩
  have kk:∀d o,d∉[z,i1]->s.heap.get? d=some o->h'.get? d=some o:=fun d o hd e=>by
   simp only[List.mem_cons,List.mem_nil_iff,or_false,not_or]at hd
   exact a7 d o hd.1 hd.2 e
  refine I.step (t':=s.toks) (g':=s.gens) (d':=s.drawn) (ch:=[z,i1]) (fun d hd=>?_) (fun d o _ _ hd e _=>kk d o hd e) (fun d o _ _ hd e _=>⟨o.slots,kk d o hd e⟩) (fun d o _ e n=>n)
   (fun d o hd e=>⟨o,kk d o hd e⟩) (fun d zs e=>e) (fun d ob y e=>e) (fun d ps e=>⟨#[],by rw[e];simp⟩) (fun m hm=>?_) (fun d y e=>?_) I.bare
  .obtain⟨_,f1,_,f3,f4,f5⟩:=hf d (sub d hd)
   exact⟨f3,f1,f4,f5⟩
  .obtain⟨o,es',ep,ho',r⟩:=hm
   exact⟨o,es',ep,kk _ o (fun hd=>(hf _ (sub _ hd)).2.1 rfl) ho',r⟩
  .refine(I.hok d y e).stay (fun d' o hd e'=>?_) (fun d' e'=>e') fun d' zs e'=>e'
   rcases hd with h|h
   .subst h
    exact kk d' o (nb d' y e) e'
   .exact kk d' o (nb d' _ h) e'
 self:=fun _ _ _ _ _ st h=>wpAny_pyIter_zip st.1 h
section
variable {X:Cx}
theorem vals3 {x y z:V} {us:List Value} (h:Vals [x,y,z] us):∃a b c,us=[a,b,c]/\RelV x a/\RelV y b/\RelV z c:=by
 cases h with
 |cons h1 t=>cases t with
  |cons h2 t=>cases t with
   |cons h3 t=>cases t;exact⟨_,_,_,rfl,h1,h2,h3⟩
def zEb (K:PySem.W.Frag) (ta:TA):TI:=fun σ H R=>ta σ H fun vs H1=>∃a b c xs ys zs,vs=[.ref a,.ref b,.ref c]/\SqT K H1 a xs/\SqT K H1 b ys/\SqT K H1 c zs/\R (Itw K a b c xs ys zs) H1
theorem zCh {e1 e2 e3:Expr} {ta:TA} {p pos:Pos} {es:List Expr} {k:Nat} {tp:Pos} (hg:Gl X "zip") (hm:X.mg "zip"=none) (ha:PA X [e1,e2,e3] ta) (hs:starEach [e1,e2,e3] X.env=(false,eval e1 X.env)::starEach [e2,e3] X.env:=by rfl) (hp:(backTo pos (starEach [e2,e3] X.env)).any (·.1)=false:=by rfl):
 PI X (.Tuple es k tp) (.Call (.Name "zip" p) [e1,e2,e3] [] pos) (zEb X.K ta):=by
 intro pins s σ H R I h
 refine Call_ (z2r I hg hm boot_zip (PyProof.Rows.callWith_type1 (thn (ha pos pins s σ H _ I h) fun us s1 ⟨vs,H1,I1,r1,q1⟩=>?_) hs hp))
 obtain⟨a,b,c,xs,ys,zs,e,ta',tb',tc',q⟩:=q1
 subst e
 obtain⟨u,v,r,rfl,ru,rv,rr⟩:=vals3 r1
 cases (show u=Value.ref a from ru)
 cases (show v=Value.ref b from rv)
 cases (show r=Value.ref c from rr)
 obtain⟨its1,rv1,t1,_⟩:=I1.tuple ta'
 obtain⟨its2,rv2,t2,_⟩:=I1.tuple tb'
 obtain⟨its3,rv3,t3,_⟩:=I1.tuple tc'
 have la:a<s1.heap.objs.size:=by obtain⟨_,e,_⟩:=t1;exact Heap.lt_size e
 have lb:b<s1.heap.objs.size:=by obtain⟨_,e,_⟩:=t2;exact Heap.lt_size e
 have lc:c<s1.heap.objs.size:=by obtain⟨_,e,_⟩:=t3;exact Heap.lt_size e
 refine zA1 (show s1.heap.IsTuple a its1.toArray from t1) (show s1.heap.IsTuple b its2.toArray from t2) (show s1.heap.IsTuple c its3.toArray from t3) fun h' a1 a2 a3 a4 a5 a6 a7=>?_
 refine wpAny_pyIter_zip (s:={s1 with heap:=h'}) a1 ?_
 refine⟨s1.heap.objs.size+5,[s1.heap.objs.size+5,s1.heap.objs.size+3,s1.heap.objs.size+4,s1.heap.objs.size,s1.heap.objs.size+1,s1.heap.objs.size+2],_,_,H1,rfl,I1.kept (t':=s1.toks) a7,
  zA2 _ _ _ _ _ _ a b c xs ys zs (zCg la lb lc),⟨a1,a2,⟨_,_,_,a3⟩,a4,a5,a6⟩,fun d hd=>?_,q⟩
 have ge:s1.heap.objs.size<=d:=by
  simp only[List.mem_cons,List.mem_nil_iff,or_false]at hd
  rcases hd with e|e|e|e|e|e<;>rw[e]
  .exact Nat.le_add_right _ _
  .exact Nat.le_add_right _ _
  .exact Nat.le_add_right _ _
  .exact Nat.le_refl _
  .exact Nat.le_add_right _ _
  .exact Nat.le_add_right _ _
 exact I1.fpOk ge (I1.hok.fresh ge)
end
section
variable {X:Cx}
end
structure Df2 (K:PySem.W.Frag) (mg:Str->Option Value) (x:Str) (st:Stmt) (ps:List Str) (f:Addr) (fd:FuncData) (T:Addr) (d e:Int):Prop where
 F:FunD K x x st f fd T
 b:Binds K fd ps []
 b1:∃t,Binds K fd ps [.int e t]
 b2:∃t u,Binds K fd ps [.int d t,.int e u]
 m:mg x=some (.ref f)
section
variable {P:Program} {w:World} {K:PySem.W.Frag} {mg:Str->Option Value} {base:Heap} {x:Str} {st:Stmt} {ps:List Str} {f T:Addr} {fd:FuncData} {k:Nat} {sp:Sp} {d e:Int}
theorem Df2.ow (D:Df2 K mg x st ps f fd T d e) (F:FnOk P w K mg base CX0 k f fd ps sp):Ow P w K mg base x ps k sp:=⟨f,fd,D.m,D.F.kp,D.b,F⟩
theorem Df2.owd1 (D:Df2 K mg x st ps f fd T d e) (F:FnOk P w K mg base CX0 k f fd ps sp):Owd P w K mg base x ps [.int e] k sp:=by
 obtain⟨t,b⟩:=D.b1
 exact⟨f,fd,[.int e t],D.m,D.F.kp,b,.cons ⟨_,rfl⟩ .nil,F⟩
theorem Df2.owd2 (D:Df2 K mg x st ps f fd T d e) (F:FnOk P w K mg base CX0 k f fd ps sp):Owd P w K mg base x ps [.int d,.int e] k sp:=by
 obtain⟨t,u,b⟩:=D.b2
 exact⟨f,fd,[.int d t,.int e u],D.m,D.F.kp,b,.cons ⟨_,rfl⟩ (.cons ⟨_,rfl⟩ .nil),F⟩
end
end L2
namespace L2
open PySem PySem.Spec PyProof.Rows G
def z4F:Sp:=fun vs H Q _=>∃w lo up m:Int,vs=[.int w,.int lo,.int up,.int m]/\0<=w/\w<=64/\0<=m/\Q (.int (Builtin.bitOr (Builtin.bitAnd lo (Builtin.bitNot (roomI w.toNat m))) up)) H
noncomputable def z0j (us cs:Rws):Rws:=List.zipWith layR us cs
theorem z4G {us cs:Rws} {j:Nat} {u c:List (Option Int)} (hu:us[j]?=some u) (hc:cs[j]?=some c):(z0j us cs)[j]?=some (layR u c):=by
 unfold z0j
 rw[List.getElem?_zipWith,hu,hc]
theorem z4H {us cs:Rws} (h:us.length=cs.length):(z0j us cs).length=us.length:=by
 unfold z0j
 rw[List.length_zipWith,h,Nat.min_self]
noncomputable def llR (w w2 h2:Nat) (rows rows2:Rws) (x y:Int) (j:Nat):List (Option Int):=(List.range w).map fun(i:Nat)=>(look w2 h2 rows2 ((i:Int)-x) ((j:Int)-y)).or (z3B rows i j)
theorem zA3 {w h w2 h2:Nat} {rows rows2:Rws} (R:Rect w h rows) (R2:Rect w2 h2 rows2) (x y:Int):(List.range h).map (llR w w2 h2 rows rows2 x y)=z0j rows (cutRows rows2 (-x) (-y) w h):=by
 have hR:=R.len
 refine List.ext_getElem? fun j=>?_
 by_cases hj:j<h
 .have hl:j<rows.length:=by omega
  have hu:rows[j]?=some (rows[j]'hl):=List.getElem?_eq_getElem hl
  have hc:(cutRows rows2 (-x) (-y) w h)[j]?=some (z75 rows2 (-x) (-y+(j:Int)) w):=by
   unfold cutRows
   rw[List.getElem?_map,List.getElem?_range hj]
   rfl
  have hw:=(R.row0 hl).1
  rw[z4G hu hc,List.getElem?_map,List.getElem?_range hj]
  show some (llR w w2 h2 rows rows2 x y j)=_
  congr 1
  refine List.ext_getElem? fun i=>?_
  by_cases hi:i<w
  .rw[z9w _ _ i (by rw[z3r];omega) (by omega)]
   unfold llR z75
   rw[List.getElem?_map,List.getElem?_range hi,List.getElem?_map,List.getElem?_range hi]
   show some ((look w2 h2 rows2 ((i:Int)-x) ((j:Int)-y)).or (z3B rows i j))=some ((Option.some (atR (rowAt rows2 (-y+(j:Int))) (-x+(i:Int)))).join.or _)
   have e1:(i:Int)-x= -x+(i:Int):=by omega
   have e2:(j:Int)-y= -y+(j:Int):=by omega
   rw[z3V R2,e1,e2]
   have e3:z3B rows i j=((rows[j]'hl)[i]?).join:=by
    unfold z3B
    rw[hu]
    rfl
   rw[e3]
   rfl
  .rw[List.getElem?_eq_none (by unfold llR;rw[List.length_map,List.length_range];omega),List.getElem?_eq_none (by rw[z9v _ _ (by rw[z3r];omega)];omega)]
 .rw[List.getElem?_eq_none (by rw[List.length_map,List.length_range];omega),List.getElem?_eq_none (by rw[z4H (by rw[z2M];omega)];omega)]
def zA4:Sp:=fun vs H Q _=>∃(p o:Addr) (x y:Int) (w h w2 h2:Nat) (rows rows2:Rws),vs=[.ref p,.ref o,.int x,.int y]/\PicAt H p w rows/\Rect w h rows/\PicAt H o w2 rows2/\Rect w2 h2 rows2/\
 ∀q H',Same H H'->PicAt H' q w (z0j rows (cutRows rows2 (-x) (-y) w h))->Q (.ref q) H'
def pt (rows:Rws) (x y:Nat):Prop:=(z3B rows x y).isSome=true
theorem zEc {w h:Nat} {rows:Rws} (R:Rect w h rows) {x y:Nat} (p:pt rows x y):x<w/\y<h:=by
 have hR:=R.len
 unfold pt z3B at p
 cases hr:rows[y]? with
 |none=>
  rw[hr]at p
  have p':((([]:List (Option Int))[x]?).join).isSome=true:=p
  cases x<;>cases p'
 |some r=>
  rw[hr]at p
  have hw:=(R.row r (List.mem_of_getElem? hr)).1
  have hy:=(List.getElem?_eq_some_iff.mp hr).1
  have hx:=zDY (r:=r) (i:=x) p
  omega
structure Gone (w:Nat) (rows:Rws) (y x:Nat) (A D:List Int):Prop where
 len:A.length=D.length
 small:A.length<=y*w+x
 a:∀z,z∈A↔∃x' y':Nat,(y'<y\/(y'=y/\x'<x))/\pt rows x' y'/\z=(x':Int)
 d:∀z,z∈D↔∃x' y':Nat,(y'<y\/(y'=y/\x'<x))/\pt rows x' y'/\z=(y':Int)
theorem Gone.row {w h:Nat} {rows:Rws} (R:Rect w h rows) {y:Nat} {A D:List Int} (g:Gone w rows y w A D):Gone w rows (y+1) 0 A D:=by
 have key:∀x' y':Nat,pt rows x' y'->((y'<y\/(y'=y/\x'<w))↔(y'<y+1\/(y'=y+1/\x'<0))):=fun x' y' p=>by
  have:=(zEc R p).1
  omega
 refine⟨g.len,by have:=g.small;rw[Nat.add_mul];omega,fun z=>(g.a z).trans ⟨?_,?_⟩,fun z=>(g.d z).trans ⟨?_,?_⟩⟩
 all_goals
  rintro⟨x',y',h,p,e⟩
  exact⟨x',y',by first|exact(key x' y' p).mp h|exact(key x' y' p).mpr h,p,e⟩
end L2
namespace L2
open PySem PySem.Spec PyProof.Rows G
def zA5 (K:PySem.W.Frag):Sp:=fun vs H Q _=>∃(a:Addr) (ns:List Int) (k:Int),vs=[.ref a,.int k]/\SqL K H a (ns.map V.int)/\0<=k/\k<100000/\∀c,Cell c->Q (z0X c) H
def zA6:Sp:=fun vs H Q _=>∃(p d:Addr) (w h:Nat) (rows:Rws),vs=[.ref p,.ref d]/\PicAt H p w rows/\PicAt H d w rows/\Rect w h rows/\∀H',Same H H'->Q (.bl true) H'
abbrev Bx:=Int × Int × Int × Int
noncomputable def bxV (b:Bx):List V:=[.int b.1,.int b.2.1,.int b.2.2.1,.int b.2.2.2]
noncomputable def zBH (b:Bx) (i j:Int):Bool:=(decide (b.1<=i)&&decide (i<b.1+b.2.2.1))&&(decide (b.2.1<=j)&&decide (j<b.2.1+b.2.2.2))
noncomputable def zE4 (w h:Nat) (dx dy:Int) (i j:Int):Bool:=!(decide (0<=i+dx)&&decide (i+dx<w))||!(decide (0<=j+dy)&&decide (j+dy<h))
def zE5 (w h:Nat) (b:Bx):Prop:=1<=b.2.2.1/\1<=b.2.2.2/\0<=b.1/\0<=b.2.1/\b.1+b.2.2.1<=w/\b.2.1+b.2.2.2<=h
structure FreshOk (w h:Nat) (dx dy:Int) (bs:List Bx):Prop where
 len:bs.length<=2
 box:∀b∈bs,zE5 w h b
 cnt:∀i j:Nat,i<w->j<h->bs.countP (fun b=>zBH b i j)=if zE4 w h dx dy i j=true then 1 else 0
structure BxsAt (H:Hp) (l:Addr) (ts:List Addr) (bs:List Bx):Prop where
 lst:H l=some (.lst (ts.map V.ref))
 len:ts.length=bs.length
 at':∀(i:Nat) t b,ts[i]?=some t->bs[i]?=some b->H t=some (.tup (bxV b))
end L2
namespace L2
open PySem PySem.Spec PyProof.Rows G
def z1h (z:Int):Int:=if z<0 then-z else z
theorem z2N (z:Int):(z<0/\z1h z= -z)\/(0<=z/\z1h z=z):=by
 unfold z1h
 by_cases h:z<0
 .rw[if_pos h];exact .inl ⟨h,rfl⟩
 .rw[if_neg h];exact .inr ⟨by omega,rfl⟩
noncomputable def bxA (w h:Nat) (dx:Int):List Bx:=if 0<z1h dx then [(if 0<dx then(w:Int)-dx else 0,0,z1h dx,(h:Int))]else []
noncomputable def bxB (w h:Nat) (dx dy:Int):List Bx:=if 0<z1h dy then [(if 0<dx then 0 else z1h dx,if 0<dy then(h:Int)-dy else 0,(w:Int)-z1h dx,z1h dy)]else []
theorem zA7 {w h:Nat} {dx dy:Int} (w1:1<=w) (h1:1<=h) (c:(w:Int)<=z1h dx\/(h:Int)<=z1h dy):FreshOk w h dx dy [(0,0,(w:Int),(h:Int))]:=by
 refine⟨Nat.le_succ 1,fun b hb=>?_,fun i j hi hj=>?_⟩
 .cases List.mem_singleton.mp hb
  exact⟨by show(1:Int)<=w;omega,by show(1:Int)<=h;omega,Int.le_refl _,Int.le_refl _,by show(0:Int)+w<=w;omega,by show(0:Int)+h<=h;omega⟩
 .have a:=z2N dx
  have b:=z2N dy
  have e1:zBH (0,0,(w:Int),(h:Int)) i j=true:=by
   unfold zBH
   rw[decide_eq_true (by show(0:Int)<=i;omega),decide_eq_true (by show(i:Int)<0+w;omega),decide_eq_true (by show(0:Int)<=j;omega),decide_eq_true (by show(j:Int)<0+h;omega)]
   rfl
  have e2:zE4 w h dx dy i j=true:=by
   unfold zE4
   by_cases c1:0<=(i:Int)+dx/\(i:Int)+dx<w
   .have c2:¬(0<=(j:Int)+dy/\(j:Int)+dy<h):=by omega
    rw[<-Bool.decide_and,<-Bool.decide_and,decide_eq_false c2]
    simp
   .rw[<-Bool.decide_and,decide_eq_false c1]
    simp
  rw[List.countP_cons_of_pos (by exact e1),e2]
  rfl
theorem zA8 {w h:Nat} {dx dy:Int} (w1:1<=w) (h1:1<=h) (c1:¬(w:Int)<=z1h dx) (c2:¬(h:Int)<=z1h dy):FreshOk w h dx dy (bxA w h dx++bxB w h dx dy):=by
 have a:=z2N dx
 have b:=z2N dy
 refine⟨?_,fun x hx=>?_,fun i j hi hj=>?_⟩
 .have l1:(bxA w h dx).length<=1:=by
   unfold bxA
   by_cases z:0<z1h dx
   .rw[if_pos z];exact Nat.le_refl _
   .rw[if_neg z];exact Nat.zero_le _
  have l2:(bxB w h dx dy).length<=1:=by
   unfold bxB
   by_cases z:0<z1h dy
   .rw[if_pos z];exact Nat.le_refl _
   .rw[if_neg z];exact Nat.zero_le _
  rw[List.length_append]
  omega
 .unfold bxA bxB at hx
  rcases List.mem_append.mp hx with hx|hx
  .split at hx
   .cases List.mem_singleton.mp hx
    unfold zE5
    dsimp only
    refine⟨by omega,by omega,?_,by omega,?_,by omega⟩<;>split<;>omega
   .cases hx
  .split at hx
   .cases List.mem_singleton.mp hx
    unfold zE5
    dsimp only
    refine⟨by omega,by omega,?_,?_,?_,?_⟩<;>split<;>omega
   .cases hx
 .have kA:(bxA w h dx).countP (fun b=>zBH b i j)=if(!(decide (0<=(i:Int)+dx)&&decide ((i:Int)+dx<w)))=true then 1 else 0:=by
   unfold bxA
   rw[<-Bool.decide_and]
   by_cases z:0<z1h dx
   .rw[if_pos z]
    by_cases o:0<=(i:Int)+dx/\(i:Int)+dx<w
    .rw[decide_eq_true o,List.countP_cons_of_neg]
     .rfl
     .unfold zBH
      dsimp only
      rw[<-Bool.decide_and,<-Bool.decide_and,<-Bool.decide_and,decide_eq_true_iff]
      intro q
      by_cases p:0<dx
      .rw[if_pos p]at q;omega
      .rw[if_neg p]at q;omega
    .rw[decide_eq_false o,List.countP_cons_of_pos]
     .rfl
     .unfold zBH
      dsimp only
      rw[<-Bool.decide_and,<-Bool.decide_and,<-Bool.decide_and,decide_eq_true_iff]
      by_cases p:0<dx
      .rw[if_pos p];omega
      .rw[if_neg p];omega
   .rw[if_neg z,decide_eq_true (by omega)]
    rfl
  have kB:(bxB w h dx dy).countP (fun b=>zBH b i j)=if((decide (0<=(i:Int)+dx)&&decide ((i:Int)+dx<w))&&!(decide (0<=(j:Int)+dy)&&decide ((j:Int)+dy<h)))=true then 1 else 0:=by
   unfold bxB
   rw[<-Bool.decide_and,<-Bool.decide_and,<-decide_not,<-Bool.decide_and]
   by_cases z:0<z1h dy
   .rw[if_pos z]
    by_cases o:(0<=(i:Int)+dx/\(i:Int)+dx<w)/\¬(0<=(j:Int)+dy/\(j:Int)+dy<h)
    .rw[decide_eq_true o,List.countP_cons_of_pos]
     .rfl
     .unfold zBH
      dsimp only
      rw[<-Bool.decide_and,<-Bool.decide_and,<-Bool.decide_and,decide_eq_true_iff]
      by_cases p:0<dx
      .by_cases p2:0<dy
       .rw[if_pos p,if_pos p2];omega
       .rw[if_pos p,if_neg p2];omega
      .by_cases p2:0<dy
       .rw[if_neg p,if_pos p2];omega
       .rw[if_neg p,if_neg p2];omega
    .rw[decide_eq_false o,List.countP_cons_of_neg]
     .rfl
     .unfold zBH
      dsimp only
      rw[<-Bool.decide_and,<-Bool.decide_and,<-Bool.decide_and,decide_eq_true_iff]
      intro q
      by_cases p:0<dx
      .by_cases p2:0<dy
       .rw[if_pos p,if_pos p2]at q;omega
       .rw[if_pos p,if_neg p2]at q;omega
      .by_cases p2:0<dy
       .rw[if_neg p,if_pos p2]at q;omega
       .rw[if_neg p,if_neg p2]at q;omega
   .rw[if_neg z,decide_eq_false (by omega)]
    rfl
  rw[List.countP_append,kA,kB]
  unfold zE4
  generalize (decide (0<=(i:Int)+dx)&&decide ((i:Int)+dx<w))=u
  generalize (decide (0<=(j:Int)+dy)&&decide ((j:Int)+dy<h))=v
  cases u<;>cases v<;>rfl
def Sc (x:V):Prop:=x=.non\/(∃b,x=.bl b)\/(∃i,x=.int i)\/(∃z,x=.str z)\/∃a,x=.ref a
theorem Sc.int (i:Int):Sc (.int i):=.inr (.inr (.inl ⟨i,rfl⟩))
theorem Sc.non:Sc .non:=.inl rfl
theorem Sc.str (z:Str):Sc (.str z):=.inr (.inr (.inr (.inl ⟨z,rfl⟩)))
theorem Sc.ref (a:Addr):Sc (.ref a):=.inr (.inr (.inr (.inr ⟨a,rfl⟩)))
def Eqv:Nat->Hp->V->V->Prop
 |0,_,x,y=>x=y/\Sc x
 |n+1,H,x,y=>(x=y/\Sc x)\/∃a b xs ys,x=.ref a/\y=.ref b/\((H a=some (.lst xs)/\H b=some (.lst ys))\/(H a=some (.tup xs)/\H b=some (.tup ys)))/\xs.length=ys.length/\∀(i:Nat) u v,xs[i]?=some u->ys[i]?=some v->Eqv n H u v
theorem Eqv.same {n:Nat} {H:Hp} {x:V} (h:Sc x):Eqv n H x x:=by
 cases n with
 |zero=>exact⟨rfl,h⟩
 |succ n=>exact .inl ⟨rfl,h⟩
theorem z6F:∀{xs:List V} {its:List Value} {j:Nat} {v:Value},Vals xs its->its[j]?=some v->∃x,xs[j]?=some x/\RelV x v
 |_,_,_,_,.nil,e=>by simp at e
 |_,_,0,_,.cons r _,e=>by
  simp at e
  exact⟨_,rfl,e▸r⟩
 |_,_,j+1,_,.cons _ rs,e=>z6F (j:=j) rs (by simpa using e)
theorem zDa {A:Around} {k:Nat} (hr:Room k A):A.units+9<cLine:=by
 have:=hr.un
 omega
section
variable {X:Cx} {pins:List (Addr × Obj)} {σ:St} {H:Hp} {s:Shared} {A:Around}
theorem z7z {a b:Addr} {xs ys:List V} (hu:A.units<cLine) (I:Inv X pins σ H s) (ha:H a=some (.lst xs)) (hb:H b=some (.lst ys)) (hl:xs.length=ys.length)
 (he:∀(j:Nat) x y vx vy,xs[j]?=some x->ys[j]?=some y->RelV x vx->RelV y vy->SeqAt.EqAt A.in1 s vx vy true):SeqAt.RcAt A s (.ref a) (.ref b) true/\SeqAt.RcNeAt A s (.ref a) (.ref b) false:=by
 obtain⟨its,r1,p1,_⟩:=I.list (SqL.of ha)
 obtain⟨its2,r2,p2,_⟩:=I.list (SqL.of hb)
 have l1:=r1.length
 have l2:=r2.length
 have hsz:its.toArray.size=its2.toArray.size:=by rw[List.size_toArray,List.size_toArray];omega
 have hx:∀(j:Nat) (h1:j<its.toArray.size) (h2:j<its2.toArray.size),SeqAt.EqAt A.in1 s its.toArray[j] its2.toArray[j] ((fun _=>true) j):=fun j h1 h2=>by
  have i1:j<its.length:=by simpa using h1
  have i2:j<its2.length:=by simpa using h2
  obtain⟨x,ex,rx⟩:=z6F r1 (List.getElem?_eq_getElem i1)
  obtain⟨y,ey,ry⟩:=z6F r2 (List.getElem?_eq_getElem i2)
  have:=he j x y _ _ ex ey rx ry
  simpa using this
 have e:((List.range its.toArray.size).all fun _=>true)=true:=by simp
 have q1:=SeqAt.RcAt.lists (A:=A) (s:=s) (e:=fun _=>true) p1.isList p2.isList hsz hu hx
 have q2:=SeqAt.RcNeAt.lists (A:=A) (s:=s) (e:=fun _=>true) p1.isList p2.isList hsz hu hx
 rw[e]at q1 q2
 exact⟨q1,q2⟩
theorem zA9 {a b:Addr} {xs ys:List V} (hu:A.units<cLine) (I:Inv X pins σ H s) (ha:H a=some (.tup xs)) (hb:H b=some (.tup ys)) (hl:xs.length=ys.length)
 (he:∀(j:Nat) x y vx vy,xs[j]?=some x->ys[j]?=some y->RelV x vx->RelV y vy->SeqAt.EqAt A.in1 s vx vy true):SeqAt.RcAt A s (.ref a) (.ref b) true/\SeqAt.RcNeAt A s (.ref a) (.ref b) false:=by
 obtain⟨its,r1,p1,_⟩:=I.tuple (SqT.of ha)
 obtain⟨its2,r2,p2,_⟩:=I.tuple (SqT.of hb)
 have l1:=r1.length
 have l2:=r2.length
 have hx:∀(j:Nat) (h1:j<its.toArray.size) (h2:j<its2.toArray.size),SeqAt.EqAt A.in1 s its.toArray[j] its2.toArray[j] ((fun _=>true) j):=fun j h1 h2=>by
  have i1:j<its.length:=by simpa using h1
  have i2:j<its2.length:=by simpa using h2
  obtain⟨x,ex,rx⟩:=z6F r1 (List.getElem?_eq_getElem i1)
  obtain⟨y,ey,ry⟩:=z6F r2 (List.getElem?_eq_getElem i2)
  have:=he j x y _ _ ex ey rx ry
  simpa using this
 have e1:((List.range (min its.toArray.size its2.toArray.size)).all (fun _=>true)&&its.toArray.size==its2.toArray.size)=true:=by
  rw[List.size_toArray,List.size_toArray,<-l1,<-l2,hl]
  simp
 have q1:=SeqAt.RcAt.tuples (A:=A) (s:=s) (e:=fun _=>true) p1 p2 hu hx
 have q2:=SeqAt.RcNeAt.tuples (A:=A) (s:=s) (e:=fun _=>true) p1 p2 hu hx
 rw[e1]at q1 q2
 exact⟨q1,q2⟩
theorem zDb {n:Nat}:∀{A:Around} {x y:V} {vx vy:Value},A.units+n<cLine->Inv X pins σ H s->Eqv n H x y->RelV x vx->RelV y vy->SeqAt.EqAt A s vx vy true:=by
 have zDH:∀{A:Around} {x:V} {vx vy:Value},Sc x->RelV x vx->RelV x vy->SeqAt.EqAt A s vx vy true:=fun{A x vx vy} h rx ry=>by
  rcases h with rfl|⟨b,rfl⟩|⟨i,rfl⟩|⟨z,rfl⟩|⟨a,rfl⟩
  .cases (show vx=Value.none from rx)
   cases (show vy=Value.none from ry)
   exact SeqAt.EqAt.same _
  .cases (show vx=Value.bool b from rx)
   cases (show vy=Value.bool b from ry)
   exact SeqAt.EqAt.same _
  .obtain⟨t1,rfl⟩:=rx
   obtain⟨t2,rfl⟩:=ry
   have:=SeqAt.EqAt.int_int (A:=A) (s:=s) i t1 i t2
   rw[beq_self_eq_true]at this
   exact this
  .obtain⟨t1,rfl⟩:=rx
   obtain⟨t2,rfl⟩:=ry
   have:=SeqAt.EqAt.str_str (A:=A) (s:=s) z t1 z t2
   rw[beq_self_eq_true]at this
   exact this
  .cases (show vx=Value.ref a from rx)
   cases (show vy=Value.ref a from ry)
   exact SeqAt.EqAt.same _
 induction n with
 |zero=>
  intro A x y vx vy hu I h rx ry
  obtain⟨rfl,hs⟩:=h
  exact zDH hs rx ry
 |succ n ih=>
  intro A x y vx vy hu I h rx ry
  rcases h with⟨rfl,hs⟩|⟨a,b,xs,ys,rfl,rfl,e3,e5,e6⟩
  .exact zDH hs rx ry
  .cases (show vx=Value.ref a from rx)
   cases (show vy=Value.ref b from ry)
   by_cases e:a=b
   .subst e
    exact SeqAt.EqAt.same _
   .refine SeqAt.EqAt.of_refs e ?_
    have hx:∀(j:Nat) x y vx vy,xs[j]?=some x->ys[j]?=some y->RelV x vx->RelV y vy->SeqAt.EqAt A.in1 s vx vy true:=fun j x y vx vy h1 h2 r1 r2=>ih (A:=A.in1) (show A.units+1+n<cLine by omega) I (e6 j x y h1 h2) r1 r2
    rcases e3 with⟨p,q⟩|⟨p,q⟩
    .exact(z7z (by omega) I p q e5 hx).1
    .exact(zA9 (by omega) I p q e5 hx).1
end
def EqT (n:Nat) (H:Hp) (x y:V):Prop:=∃a b xs ys,x=.ref a/\y=.ref b/\((H a=some (.lst xs)/\H b=some (.lst ys))\/(H a=some (.tup xs)/\H b=some (.tup ys)))/\xs.length=ys.length/\∀(i:Nat) u v,xs[i]?=some u->ys[i]?=some v->Eqv n H u v
theorem EqT.tints {n:Nat} {H:Hp} {a b:Addr} {zs:List Int} (ha:H a=some (.tup (zs.map V.int))) (hb:H b=some (.tup (zs.map V.int))):EqT n H (.ref a) (.ref b):=⟨a,b,_,_,rfl,rfl,.inr ⟨ha,hb⟩,rfl,fun i u v h1 h2=>by
 rw[h1]at h2
 cases h2
 obtain⟨z,rfl⟩:=z7s (List.mem_of_getElem? h1)
 exact Eqv.same (Sc.int z)⟩
def zFN (n:Nat):R2:=fun x y H Q=>EqT n H x y/\Q (.bl false) H
section
variable {X:Cx} {n:Nat}
theorem zDc (hu:X.A.units+9<cLine) (hn:n<=8:=by decide):OpR X (compareOp .NotEq) (zFN n):=by
 intro pins s σ H x y v u Q I rx ry h0
 obtain⟨⟨a,b,xs,ys,rfl,rfl,e3,e5,e6⟩,q⟩:=h0
 cases rx
 cases ry
 have hx:∀(j:Nat) x y vx vy,xs[j]?=some x->ys[j]?=some y->RelV x vx->RelV y vy->SeqAt.EqAt X.A.in1 s vx vy true:=fun j x y vx vy h1 h2 r1 r2=>zDb (A:=X.A.in1) (show X.A.units+1+n<cLine by omega) I (e6 j x y h1 h2) r1 r2
 rcases e3 with⟨p,p2⟩|⟨p,p2⟩
 .exact(z7z (by omega) I p p2 e5 hx).2 X.prog X.w X.xe _ ⟨.bl _,H,I,rfl,q⟩
 .exact(zA9 (by omega) I p p2 e5 hx).2 X.prog X.w X.xe _ ⟨.bl _,H,I,rfl,q⟩
end
noncomputable def z5l (z:Str) (lo hi:Option Int):Str:=⟨((z.cps.toList.drop (HT.sIx z.length 0 lo)).take (HT.sIx z.length z.length hi-HT.sIx z.length 0 lo)).toArray⟩
theorem zAA (n:Nat) (v:Option Int) (d:Nat):(match v with
 |none=>(d:Int)
 |some i=>max 0 (min (if i<0 then i+(n:Int)else i) (n:Int)))=((HT.sIx n d v:Nat):Int):=by
 cases v with
 |none=>rfl
 |some i=>
  simp only[HT.sIx]
  by_cases h:i<0
  .simp only[h,if_true]<;>omega
  .simp only[h,if_false]<;>omega
theorem zC6 (lo hi:Option Int) (n:Nat):Builtin.Str.strSliceIndices lo hi 1 n=(List.range (HT.sIx n n hi-HT.sIx n 0 lo)).map (HT.sIx n 0 lo+·):=by
 have h1:=zAA n lo 0
 have h2:=zAA n hi n
 unfold Builtin.Str.strSliceIndices
 simp only[show(1:Int)>0 by decide,if_true]
 rw[<-sliceRange_one]
 congr 1
theorem z5K (z:Str) (lo hi:Option Int):(z5l z lo hi).length<=z.length:=by
 show((z.cps.toList.drop (HT.sIx z.length 0 lo)).take (HT.sIx z.length z.length hi-HT.sIx z.length 0 lo)).toArray.size<=z.cps.size
 rw[List.size_toArray,List.length_take,List.length_drop,Array.length_toList]
 omega
def zFO:V->Option Int->Option Int->Hp->VK->Prop:=fun x lo hi H Q=>∃z,x=.str z/\z.length<=sizeLine/\Q (.str (z5l z lo hi)) H
section
variable {X:Cx}
theorem part_of:∀{v:Value} {o:Option Int},IsPart v o->∃p:Option (Int × Tok),v=partValue p/\p.map (·.1)=o
 |_,_,.none=>⟨none,rfl,rfl⟩
 |_,_,.int i t=>⟨some (i,t),rfl,rfl⟩
theorem zC7:SlR X zFO:=by
 intro pins s σ H x v vl vu lo hi sl Q I rx hs pl pu h
 obtain⟨z,rfl,hz,q⟩:=h
 obtain⟨t,rfl⟩:=rx
 obtain⟨l,rfl,rfl⟩:=part_of pl
 obtain⟨u,rfl,rfl⟩:=part_of pu
 refine⟨"str",_,F.slot_str_getitem.lookup,typeIs_str _ z t,?_⟩
 refine wpAny_getItem_str_slice (l:=l) (u:=u) (st:=none) hs rfl ?_
 have e:(slicePicked z l u none).filterMap (z.cps[·]?)=(z.cps.toList.drop (HT.sIx z.length 0 (l.map (·.1)))).take (HT.sIx z.length z.length (u.map (·.1))-HT.sIx z.length 0 (l.map (·.1))):=by
  unfold slicePicked
  rw[show((none:Option (Int × Tok)).map (·.1)).getD 1=1 from rfl,zC6,pick_run]
 unfold sliceMade
 by_cases c:(((none:Option (Int × Tok)).map (·.1)).getD 1==1&&(slicePicked z l u none).length==z.length)=true
 .rw[if_pos c]
  have hl:(slicePicked z l u none).length=z.length:=by
   have:=(Bool.and_eq_true _ _).mp c
   exact beq_iff_eq.mp this.2
  have e2:z5l z (l.map (·.1)) (u.map (·.1))=z:=by
   have hl2:HT.sIx z.length z.length (u.map (·.1))-HT.sIx z.length 0 (l.map (·.1))=z.length:=by
    unfold slicePicked at hl
    rw[show((none:Option (Int × Tok)).map (·.1)).getD 1=1 from rfl,zC6,List.length_map,List.length_range]at hl
    exact hl
   have hle:=HT.sIx_le z.length z.length (Nat.le_refl _) (u.map (·.1))
   have h0:HT.sIx z.length 0 (l.map (·.1))=0\/z.length=0:=by omega
   unfold z5l
   rw[hl2]
   have hd:z.cps.toList.drop (HT.sIx z.length 0 (l.map (·.1)))=z.cps.toList:=by
    rcases h0 with h0|h0
    .rw[h0,List.drop_zero]
    .have hnil:z.cps.toList=[]:=List.eq_nil_of_length_eq_zero (by rw[Array.length_toList];exact h0)
     rw[hnil,List.drop_nil]
   rw[hd,show z.length=z.cps.toList.length from(Array.length_toList).symm,List.take_length]
  exact⟨.str z,H,I,⟨t,rfl⟩,by rw[e2]at q;exact q⟩
 .rw[if_neg c,e]
  exact⟨Nat.le_trans (z5K z _ _) hz,.str (z5l z _ _),H,I.tok _,⟨_,rfl⟩,q⟩
end
end L2
namespace L2
open PySem PySem.Spec PyProof.Rows G
noncomputable def z1t (ns:List Int) (k p m:Int):Int:=if ns.length=0 then 0 else(ns.getD (k%(ns.length:Int)).toNat 0+k*k)*48271%p%m
theorem z1J {ns:List Int} {k p m:Int} (h:0<m):0<=z1t ns k p m/\z1t ns k p m<m:=by
 unfold z1t
 split
 .exact⟨Int.le_refl _,h⟩
 .exact⟨Int.emod_nonneg _ (by omega),Int.emod_lt_of_pos _ h⟩
def z2z (K:PySem.W.Frag):Sp:=fun vs H Q _=>∃(a:Addr) (ns:List Int) (k p m:Int),vs=[.ref a,.int k,.int p,.int m]/\SqL K H a (ns.map V.int)/\0<=k/\k<1000000/\0<p/\0<m/\Q (.int (z1t ns k p m)) H
theorem zBI {ns:List Int} (h:0<ns.length) (k:Int):atI (ns.map V.int) (k%((ns.map V.int).length:Int))=some (.int (ns.getD (k%(ns.length:Int)).toNat 0)):=by
 have e:((ns.map V.int).length:Int)=(ns.length:Int):=by rw[List.length_map]
 rw[e]
 have h1:=Int.emod_nonneg k (show(ns.length:Int)≠0 by omega)
 have h2:=Int.emod_lt_of_pos k (show(0:Int)<ns.length by omega)
 have e2:k%(ns.length:Int)=(((k%(ns.length:Int)).toNat:Nat):Int):=by omega
 have hj:(k%(ns.length:Int)).toNat<ns.length:=by omega
 have e3:ns.getD (k%(ns.length:Int)).toNat 0=ns[(k%(ns.length:Int)).toNat]:=by rw[List.getD_eq_getElem?_getD,List.getElem?_eq_getElem hj];rfl
 rw[e3]
 conv=>lhs;rw[e2]
 exact z0x (by rw[List.getElem?_map,List.getElem?_eq_getElem hj];rfl)
noncomputable def sgnL:List Nat:=((List.range 95).map fun c=>c+32).filter fun c=>decide (c≠37)
theorem z3C:sgnL.length=94:=by decide+kernel
theorem zCi:sgnL.Nodup:=by decide+kernel
def one (c:Nat):Str:=⟨#[c]⟩
theorem one_inj {a b:Nat} (h:one a=one b):a=b:=by
 have:=congrArg (fun z:Str=>z.cps[0]?) h
 simpa [one]using this
theorem zCj (c:Nat):(one c).length=1:=rfl
def z5L (n:Int):Nat:=sgnL.getD (n%94).toNat 0
def sgn (n:Int):Str:=one (z5L n)
theorem zDd (n:Int):atI sgnL (n%94)=some (z5L n):=by
 have h1:=Int.emod_nonneg n (show(94:Int)≠0 by decide)
 have h2:=Int.emod_lt_of_pos n (show(0:Int)<94 by decide)
 have e2:n%94=(((n%94).toNat:Nat):Int):=by omega
 have hj:(n%94).toNat<sgnL.length:=by rw[z3C];omega
 unfold z5L
 rw[List.getD_eq_getElem?_getD,List.getElem?_eq_getElem hj]
 conv=>lhs;rw[e2]
 exact z0x (List.getElem?_eq_getElem hj)
theorem z80 {a b:Int} (h:z5L a=z5L b):a%94=b%94:=by
 have ha1:=Int.emod_nonneg a (show(94:Int)≠0 by decide)
 have ha2:=Int.emod_lt_of_pos a (show(0:Int)<94 by decide)
 have hb1:=Int.emod_nonneg b (show(94:Int)≠0 by decide)
 have hb2:=Int.emod_lt_of_pos b (show(0:Int)<94 by decide)
 have hj:(a%94).toNat<sgnL.length:=by rw[z3C];omega
 have hk:(b%94).toNat<sgnL.length:=by rw[z3C];omega
 unfold z5L at h
 rw[List.getD_eq_getElem?_getD,List.getD_eq_getElem?_getD,List.getElem?_eq_getElem hj,List.getElem?_eq_getElem hk]at h
 have:=(List.getElem_inj zCi).mp h
 omega
def zAB:Sp:=fun vs H Q _=>∃n:Int,vs=[.int n]/\Q (.str (sgn n)) H
structure Sg where
 c:Nat
 w:Nat
 rows:Rws
def SgAt (hg:Nat) (H:Hp) (t:Addr) (S:Sg):Prop:=∃rl ps,H t=some (.tup [.str (one S.c),.ref rl])/\RowsAt H rl ps S.rows/\Rect S.w hg S.rows
def PrAt (hg:Nat) (H:Hp) (t:Addr) (S:Sg):Prop:=∃p,H t=some (.tup [.str (one S.c),.ref p])/\PicAt H p S.w S.rows/\Rect S.w hg S.rows
theorem SgAt.mono {hg:Nat} {H H':Hp} {t:Addr} {S:Sg} (s:Same H H') (h:SgAt hg H t S):SgAt hg H' t S:=let ⟨rl,ps,a,b,c⟩:=h;⟨rl,ps,s _ _ a,b.mono s,c⟩
theorem PrAt.mono {hg:Nat} {H H':Hp} {t:Addr} {S:Sg} (s:Same H H') (h:PrAt hg H t S):PrAt hg H' t S:=let ⟨p,a,b,c⟩:=h;⟨p,s _ _ a,b.mono s,c⟩
structure ListS (R:Hp->Addr->Sg->Prop) (H:Hp) (l:Addr) (ts:List Addr) (Ss:List Sg):Prop where
 lst:H l=some (.lst (ts.map V.ref))
 len:ts.length=Ss.length
 at':∀(i:Nat) t S,ts[i]?=some t->Ss[i]?=some S->R H t S
abbrev SgsAt (hg:Nat):=ListS (SgAt hg)
abbrev PrsAt (hg:Nat):=ListS (PrAt hg)
theorem SgsAt.mono {hg:Nat} {H H':Hp} {l:Addr} {ts:List Addr} {Ss:List Sg} (s:Same H H') (h:SgsAt hg H l ts Ss):SgsAt hg H' l ts Ss:=⟨s _ _ h.lst,h.len,fun i t S a b=>(h.at' i t S a b).mono s⟩
theorem PrsAt.mono {hg:Nat} {H H':Hp} {l:Addr} {ts:List Addr} {Ss:List Sg} (s:Same H H') (h:PrsAt hg H l ts Ss):PrsAt hg H' l ts Ss:=⟨s _ _ h.lst,h.len,fun i t S a b=>(h.at' i t S a b).mono s⟩
theorem ListS.get {R:Hp->Addr->Sg->Prop} {H:Hp} {l:Addr} {ts:List Addr} {Ss:List Sg} (h:ListS R H l ts Ss) {i:Nat} (hi:i<Ss.length):∃t,ts[i]?=some t/\R H t (Ss[i]'hi)/\atI (ts.map V.ref) ((i:Nat):Int)=some (.ref t):=by
 have h1:i<ts.length:=by rw[h.len];exact hi
 have e:=List.getElem?_eq_getElem h1
 exact⟨_,e,h.at' i _ _ e (List.getElem?_eq_getElem hi),z0x (by rw[List.getElem?_map,e];rfl)⟩
theorem zBJ {R:Hp->Addr->Sg->Prop} {H H':Hp} {ts:List Addr} {Ss:List Sg} {t:Addr} (mono:∀t S,R H t S->R H' t S) (h:∀(j:Nat) t S,ts[j]?=some t->Ss[j]?=some S->R H t S) (hn:∀S,Ss[ts.length]?=some S->R H' t S):
 ∀(j:Nat) u S,(ts++[t])[j]?=some u->Ss[j]?=some S->R H' u S:=fun j u S e1 e2=>by
 by_cases hj:j<ts.length
 .rw[List.getElem?_append_left hj]at e1
  exact mono u S (h j u S e1 e2)
 .rw[List.getElem?_append_right (by omega)]at e1
  cases hk:j-ts.length with
  |zero=>
   rw[hk]at e1
   cases e1
   have ej:j=ts.length:=by omega
   rw[ej]at e2
   exact hn S e2
  |succ n=>
   rw[hk]at e1
   cases e1
def zAC (K:PySem.W.Frag):Sp:=fun vs H Q _=>∃(a:Addr) (ns:List Int) (k m h:Int),vs=[.ref a,.int k,.int m,.int h]/\SqL K H a (ns.map V.int)/\0<=k/\k<1000/\1<=m/\m<=60/\1<=h/\h<=64/\
 ∀l ts Ss H',Same H H'->H l=none->SgsAt h.toNat H' l ts Ss->Ss.length=m.toNat->(∀(i:Nat) S,Ss[i]?=some S->S.c=z5L (z1t ns k 10039 94+37*i))->Q (.ref l) H'
def zAD:Sp:=fun vs H Q _=>∃(l:Addr) (ts:List Addr) (Ss:List Sg) (hg:Nat),vs=[.ref l]/\SgsAt hg H l ts Ss/\Ss.length<=60/\∀m us H',Same H H'->H m=none->PrsAt hg H' m us Ss->Q (.ref m) H'
noncomputable def known (Ss:List Sg) (c:Nat):Bool:=Ss.any fun S=>decide (S.c=c)
def TextOf (Ss:List Sg) (z:Str):Prop:=∀c∈z.cps.toList,known Ss c=true
def SgAtX (l:Addr) (hg:Nat) (H:Hp) (t:Addr) (S:Sg):Prop:=∃rl ps,H t=some (.tup [.str (one S.c),.ref rl])/\RowsAt H rl ps S.rows/\Rect S.w hg S.rows/\rl≠l/\∀p∈ps,p≠l
theorem SgAtX.mono {l:Addr} {hg:Nat} {H H':Hp} {t:Addr} {S:Sg} (s:Same H H') (h:SgAtX l hg H t S):SgAtX l hg H' t S:=let ⟨rl,ps,a,b,c⟩:=h;⟨rl,ps,s _ _ a,b.mono s,c⟩
theorem SgAtX.put {l:Addr} {hg:Nat} {H:Hp} {t:Addr} {S:Sg} {xs:List V} {o:HO} (hl:H l=some (.lst xs)) (h:SgAtX l hg H t S):SgAtX l hg (upd H l o) t S:=
 let ⟨rl,ps,a,b,c,d,e⟩:=h;⟨rl,ps,(z06 (z2C a hl fun z=>nomatch z)).trans a,⟨(z06 d).trans b.lst,b.len,fun i p r x y=>(z06 (e p (List.mem_of_getElem? x))).trans (b.row i p r x y)⟩,c,d,e⟩
theorem SgAtX.at {l:Addr} {hg:Nat} {H:Hp} {t:Addr} {S:Sg} (h:SgAtX l hg H t S):SgAt hg H t S:=let ⟨rl,ps,a,b,c,_⟩:=h;⟨rl,ps,a,b,c⟩
theorem zAE {R:Hp->Addr->Sg->Prop} {H H':Hp} {ts:List Addr} {Ss:List Sg} {t:Addr} {S:Sg} (hl:ts.length=Ss.length) (mono:∀t S,R H t S->R H' t S) (h:∀(j:Nat) t S,ts[j]?=some t->Ss[j]?=some S->R H t S) (hn:R H' t S):
 ∀(j:Nat) u T,(ts++[t])[j]?=some u->(Ss++[S])[j]?=some T->R H' u T:=fun j u T e1 e2=>by
 by_cases hj:j<ts.length
 .rw[List.getElem?_append_left hj]at e1
  rw[List.getElem?_append_left (by omega)]at e2
  exact mono u T (h j u T e1 e2)
 .rw[List.getElem?_append_right (by omega)]at e1 e2
  cases hk:j-ts.length with
  |zero=>
   rw[hk]at e1
   rw[<-hl,hk]at e2
   cases e1
   cases e2
   exact hn
  |succ n=>
   rw[hk]at e1
   cases e1
theorem zBK {Ss:List Sg} {S:Sg} {f:Nat->Nat} (h:∀(i:Nat) S,Ss[i]?=some S->S.c=f i) (hn:S.c=f Ss.length):∀(i:Nat) T,(Ss++[S])[i]?=some T->T.c=f i:=fun i T e=>by
 by_cases hj:i<Ss.length
 .rw[List.getElem?_append_left hj]at e
  exact h i T e
 .rw[List.getElem?_append_right (by omega)]at e
  cases hk:i-Ss.length with
  |zero=>
   rw[hk]at e
   cases e
   have:i=Ss.length:=by omega
   rw[this]
   exact hn
  |succ n=>
   rw[hk]at e
   cases e
theorem z6G {Ss:List Sg} {S:Sg} (h:S∈Ss):known Ss S.c=true:=List.any_eq_true.mpr ⟨S,h,decide_eq_true rfl⟩
section
variable {X:Cx}
end
section
variable {X:Cx} {pins:List (Addr × Obj)} {σ:St} {H:Hp} {s:Shared}
theorem Inv.adopt {a:Addr} {o:HO} {h':Heap} {tk:Nat} (I:Inv X pins σ H s) (F:z93 X pins H a) (k:∀b u,b≠a->s.heap.get? b=some u->h'.get? b=some u) (ha:∃u,h'.get? a=some u) (new:ObjOk X.prog X.w (upd H a o) h' a o):
 Inv X pins σ (upd H a o) {s with heap:=h',toks:=tk}:=by
 obtain⟨f0,f1,f2,f3,f4,f5⟩:=F
 have nH:∀{b:Addr} {u:HO},H b=some u->b≠a:=fun e=>z0A e f0
 have nch:∀{b:Addr},b∉[a]->b≠a:=fun h z=>h (by simp[z])
 refine I.step (g':=s.gens) (d':=s.drawn) (t':=tk) (ch:=[a]) (fun b hb=>?_) (fun b u _ _ c e _=>k b u (nch c) e) (fun b u _ _ c e _=>⟨u.slots,k b u (nch c) e⟩) (fun b u c _ n=>by rw[z06 (nch c)];exact n) (fun b u c e=>⟨u,k b u (nch c) e⟩)
  (fun b xs e=>by rw[z06 (nH e)];exact e) (fun b u xs e=>by rw[z06 (nH e)];exact e) (fun b ps e=>⟨#[],by rw[z06 (nH e),e];simp⟩) (fun m hm=>?_) (fun b u e=>?_) I.bare
 .have e:b=a:=by simpa using hb
  subst e
  exact⟨f3,f1,f4,f5⟩
 .obtain⟨u,es,ep,ho,r⟩:=hm
  exact⟨u,es,ep,k _ u (Ne.symm f1) ho,r⟩
 .by_cases z:b=a
  .subst z
   rw[upd_same]at e
   cases e
   exact new
  .rw[z06 z]at e
   refine(I.hok b u e).stay (fun c v hc q=>k c v ?_ q) (fun c q=>by rw[z06 (nH q)];exact q) fun c xs q=>by rw[z06 (nH q)];exact q
   rcases hc with rfl|hc
   .exact z
   .exact nH hc
end
structure Fly (P:Program) (w:World) (st:List Env) (H H':Hp) (B:Heap) (a C t:Addr) (h h':Heap):Prop where
 un:Un (frs st) [] H H' h h'
 keep:∀b o,h.get? b=some o->H b=none->b∉frs st->B.get? b=some o
 thr:∀b o,h.get? b=some o->b∉frs st->∃o',B.get? b=some o'
 hok:HOk P w H' B
 fl:Heap.FlyingW B st a (.ref C) (.ref t) h'
def CX1 (P:Program) (w:World):CXT:=fun st H s E e s'=>∃(a t C:Addr) (B:Heap) (H':Hp),e=.ref a/\s'.os=s.os/\AllBare s'.gens/\Fly P w st H H' B a C t s.heap s'.heap/\E (.ref C) none H'
section
variable {X:Cx} {pins:List (Addr × Obj)} {σ:St} {H H':Hp} {s:Shared}
theorem nin {b:Addr}:b∉([]:List Addr):=fun h=>nomatch h
theorem z5M {env:Env} {outer:List Env} {L:Addr} (hf:env.frame=some L):frs (env::outer)=L::frs outer:=by
 unfold frs
 rw[List.filterMap_cons,hf]
theorem Fly.leave {B:Heap} {a C t:Addr} {h1 h':Heap} (I:Inv X pins σ H s) (hst:X.stack=X.env::X.outer) (hf:X.env.frame=some X.env.locals) (hex:X.ex=[]) (F:Fly X.prog X.w X.stack H H' B a C t s.heap h1)
 (fl:Heap.FlyingW B X.outer a (.ref C) (.ref t) h') (sm:h1.UpToSlots h'):Fly X.prog X.w X.outer X.H₀ H' B a C t X.s₀.heap h':=by
 have hS:frs X.stack=X.env.locals::frs X.outer:=by rw[hst];exact z5M hf
 have hx:∀b,b∉X.ex:=fun b=>by rw[hex];exact nin
 have ne:∀b o,X.s₀.heap.get? b=some o->b≠X.env.locals:=fun b o e=>Nat.ne_of_lt (Nat.lt_of_lt_of_le (Heap.lt_size e) I.ok.above)
 have out:∀b o,X.s₀.heap.get? b=some o->b∉frs X.outer->b∉frs X.stack:=fun b o e n hb=>by
  rw[hS]at hb
  rcases List.mem_cons.mp hb with z|z
  .exact ne b o e z
  .exact n z
 have inn:∀b,b∈frs X.outer->b∈frs X.stack:=fun b hb=>by rw[hS];exact List.mem_cons_of_mem _ hb
 have kB:∀b o,X.s₀.heap.get? b=some o->X.H₀ b=none->b∉frs X.outer->B.get? b=some o:=fun b o e n nb=>
  F.keep b o (I.base.keep b o e n nb (hx b)) (I.base.free b o e n (hx b)) (out b o e nb)
 have tB:∀b o,X.s₀.heap.get? b=some o->b∉frs X.outer->∃o',B.get? b=some o':=fun b o e nb=>by
  obtain⟨o',e'⟩:=I.base.there b o e (hx b)
  exact F.thr b o' e' (out b o e nb)
 have sl:∀b o,X.s₀.heap.get? b=some o->X.H₀ b=none->b∈frs X.outer->∃sl,h'.get? b=some {o with slots:=sl}:=fun b o e n hb=>by
  obtain⟨s1,e1⟩:=I.base.slot b o e n hb (hx b)
  obtain⟨s2,e2⟩:=F.un.slot b _ e1 (I.base.free b o e n (hx b)) (inn b hb) nin
  obtain⟨_,o',ho',hd⟩:=I.ok.funs.mem hb
  rw[e]at ho'
  cases ho'
  obtain⟨s3,e3⟩:=sm b _ e2 hd
  exact⟨s3,e3⟩
 refine⟨⟨fun b o e n nb _=>fl.1 b o (kB b o e n nb),fun b o e n hb _=>sl b o e n hb,fun b o e n _=>?_,fun b o e _=>?_,fun b xs e=>F.un.tups b xs (I.base.tups b xs e),fun b o u e=>F.un.frzs b o u (I.base.frzs b o u e),fun b ps e=>?_⟩,kB,tB,F.hok,fl⟩
 .obtain⟨s1,e1⟩:=I.base.any e n (hx b)
  exact F.un.free b _ e1 (I.base.free b o e n (hx b)) nin
 .by_cases hb:b∈frs X.outer
  .obtain⟨s1,e1⟩:=sl b o e (I.ok.frf b hb) hb
   exact⟨_,e1⟩
  .obtain⟨o',e'⟩:=tB b o e hb
   exact⟨o',fl.1 b o' e'⟩
 .obtain⟨m1,e1⟩:=I.base.tbls b ps e
  obtain⟨m2,e2⟩:=F.un.tbls b _ e1
  exact⟨m1++m2,by rw[e2,Array.append_assoc]⟩
theorem Fly.first {e C t:Addr} {vs:List Value} {h1 h':Heap} (I:Inv X pins σ H s) (hst:X.stack=X.env::X.outer) (hf:X.env.frame=some X.env.locals) (hex:X.ex=[]) (hx:Heap.MadeExcOf s.heap h1 e (.ref C) vs)
 (fl:Heap.FlyingW (PySem.W.hideAll s.heap (frs X.stack)) X.outer e (.ref C) (.ref t) h') (sm:h1.UpToSlots h'):Fly X.prog X.w X.outer X.H₀ H (PySem.W.hideAll s.heap (frs X.stack)) e C t X.s₀.heap h':=by
 have hS:frs X.stack=X.env.locals::frs X.outer:=by rw[hst];exact z5M hf
 have hxx:∀b,b∉X.ex:=fun b=>by rw[hex];exact nin
 have ne:∀b o,X.s₀.heap.get? b=some o->b≠X.env.locals:=fun b o e=>Nat.ne_of_lt (Nat.lt_of_lt_of_le (Heap.lt_size e) I.ok.above)
 have out:∀b o,X.s₀.heap.get? b=some o->b∉frs X.outer->b∉frs X.stack:=fun b o e n hb=>by
  rw[hS]at hb
  rcases List.mem_cons.mp hb with z|z
  .exact ne b o e z
  .exact n z
 have kB:∀b o,X.s₀.heap.get? b=some o->X.H₀ b=none->b∉frs X.outer->(PySem.W.hideAll s.heap (frs X.stack)).get? b=some o:=fun b o e n nb=>PySem.W.hideAll_get _ (I.base.keep b o e n nb (hxx b)) (out b o e nb)
 have tB:∀b o,X.s₀.heap.get? b=some o->b∉frs X.outer->∃o',(PySem.W.hideAll s.heap (frs X.stack)).get? b=some o':=fun b o e nb=>by
  obtain⟨o',e'⟩:=I.base.there b o e (hxx b)
  exact⟨o',PySem.W.hideAll_get _ e' (out b o e nb)⟩
 have sl:∀b o,X.s₀.heap.get? b=some o->X.H₀ b=none->b∈frs X.outer->∃sl,h'.get? b=some {o with slots:=sl}:=fun b o e n hb=>by
  obtain⟨s1,e1⟩:=I.base.slot b o e n hb (hxx b)
  obtain⟨_,o',ho',hd⟩:=I.ok.funs.mem hb
  rw[e]at ho'
  cases ho'
  obtain⟨s3,e3⟩:=sm b _ (hx.keeps b _ e1) hd
  exact⟨s3,e3⟩
 refine⟨⟨fun b o e n nb _=>fl.1 b o (kB b o e n nb),fun b o e n hb _=>sl b o e n hb,fun b o e n _=>I.base.free b o e n (hxx b),fun b o e _=>?_,fun b xs e=>I.base.tups b xs e,fun b o u e=>I.base.frzs b o u e,fun b ps e=>I.base.tbls b ps e⟩,kB,tB,fun b u q=>?_,fl⟩
 .by_cases hb:b∈frs X.outer
  .obtain⟨s1,e1⟩:=sl b o e (I.ok.frf b hb) hb
   exact⟨_,e1⟩
  .obtain⟨o',e'⟩:=tB b o e hb
   exact⟨o',fl.1 b o' e'⟩
 .refine(I.hok b u q).stay (fun c v hc e=>PySem.W.hideAll_get _ e fun hm=>?_) (fun _ z=>z) fun _ _ z=>z
  have n:=I.stkFree c hm
  rcases hc with z|z
  .rw[z,q]at n
   cases n
  .rw[z]at n
   cases n
end
section
variable {P:Program} {w:World} {K:PySem.W.Frag} {mg:Str->Option Value} {base:Heap} {N:List Str} {qual:Str} {scope:Scope} {f:Addr} {cd:Value} {A:Around} {outer:List Env} {s:Shared} {H:Hp} {E:XK}
end
noncomputable abbrev zAF:List Value:=[.type "ValueError",.type "Exception",.type "BaseException",.type "object"]
def zFP (K:PySem.W.Frag) (C:Addr):Prop:=PySem.W.excIn K C zAF "ValueError.__new__"=true
section
variable {X:Cx} {E:XK} {x:Str} {np cpos pos:Pos} {e:Expr} {es:List Expr} {t:TA} {C:Addr}
end
structure XC (K:PySem.W.Frag) (C:Addr):Prop where
 cls:zFP K C
 ga:PySem.W.findIn K (.ref C) "__getattribute__"=some (some (.builtin "BaseException.__getattribute__"))
 gn:PySem.W.findIn K (.ref C) "__getattr__"=some none
 kc:PySem.W.findIn K (.ref C) "__class__"=some (some (.builtin "object.__class__"))
 kg:PySem.W.specialIn K (.builtin "object.__class__") "__get__"=some (some (.builtin "getset_descriptor.__get__"))
 kt:PySem.W.takesIn K (.builtin "object.__class__")=some true
 km:PySem.W.mroIn K C (.type "object")=some true
section
variable {prog:Program} {w:World} {A:Around} {E:Value->Shared->Prop} {s:Shared} {K:PySem.W.Frag} {x C:Addr} {ox:Obj}
theorem gaSlot:Slot "ValueError" "__getattribute__" "BaseException.__getattribute__":=F.attrBase_ValueError.ga
def ExcAt (x C:Addr) (h:Heap):Prop:=∃o,h.get? x=some o/\o.cls=.ref C
theorem ExcAt.ty {M:Model} {h:Heap} (I:ExcAt x C h):PySem.W.Looks M h (typeOf (.ref x)) (.ref C):=by
 obtain⟨o,h1,h2⟩:=I
 have L:PySem.W.Looks M h (typeOf (.ref x)) o.cls:=(PySem.W.Looks.ld h1).andThen .now
 rw[h2]at L
 exact L
end
section
variable {M:Model} {A:Around} {E:Value->Shared->Prop}
variable {nm q:Str} {C N:Addr} {bs bm:List Value} {hdct:Bool} {sn:List Str} {sub:List Value} {ab:Bool} {col:Option Bool} {dd:Option Addr} {k0 k1 k2 k3 k5:Option Value} {newId:String}
variable {nm' q':Str} {G N':Addr} {bs' bm':List Value} {hdct':Bool} {sn':List Str} {sub':List Value} {ab':Bool} {col':Option Bool} {dd':Option Addr} {k0' k1' k2' k3' k5':Option Value} {newId':String}
theorem z4W {h:Heap} {g:Array GenState} {d:Drawn} {t:Nat} {os:OsState} {e:Addr} {oe:Obj} {Q:Bool->Shared->Prop}
 (hC:h.get? C=some (excClassObj nm q C N bs bm hdct sn sub ab col dd k0 k1 k2 k3 k5 newId)) (hG:h.get? G=some (excClassObj nm' q' G N' bs' bm' hdct' sn' sub' ab' col' dd' k0' k1' k2' k3' k5' newId'))
 (he:h.get? e=some oe) (hcls:oe.cls=.ref C) (hbase:bm'.contains (.type "BaseException")=true) (hsub:(Value.ref C::bm).contains (.ref G)=true)
 (hq:Q true ⟨h,g,d,t,os⟩):wpAny M A (excMatches (.ref e) (.ref G)) Q E ⟨h,g,d,t,os⟩:=by
 have hcB:(Value.ref G::bm').contains (.type "BaseException")=true:=by rw[List.contains_cons,hbase,Bool.or_true]
 have f:=tc_notTuple
 unfold excMatches
 repeat (first|(with_reducible refine wpAny_loadPart_at he ?_;rw[hcls])|with_reducible refine wpAny_loadPart_at hG ?_|(with_reducible refine wpAny_isSubtype_exc hG ?_;rw[hcB])|(with_reducible refine wpAny_isSubtype_exc hC ?_;rw[hsub])|wp_step)
 exact hq
end
section
variable {X:Cx} {pins:List (Addr × Obj)} {σ:St} {H:Hp} {s:Shared}
theorem z3D {M:Model} {A:Around} {E:Value->Shared->Prop} {i:Nat} {n:Str} {pos:Pos} {Q:Unit->Shared->Prop} (I:Inv X pins σ H s) (hN:X.N.Nodup) (hi:X.N[i]?=some n) (hk:X.env.scope.names.lookup n=some .local)
 (h:∀s',Inv X pins (σ.set i none) H s'->Q () s'):wpAny M A (do bindName X.env n .none;unbindBehindTheSuite X.env n pos) Q E s:=by
 obtain⟨m,hn,hl⟩:=id I.loc
 have hcls:(X.env.scope.kind==.class||(X.env.scope.kind==.module&&X.env.locals !=X.env.globals))=false:=by rw[I.ok.kind];rfl
 refine wpAny_nameGoes_keeps hk hn hcls fun h' v hn' hs=>?_
 obtain⟨oL,_,_,hoL,_⟩:=id hn
 refine h _ ⟨I.ok,I.os,I.bare,⟨fun b o e n' hb hx=>?_,fun b o e n' hb hx=>?_,I.base.free,fun b o e hx=>?_,I.base.tups,I.base.frzs,I.base.tbls⟩,⟨_,hn',fun j y v' e1 e2 e3=>?_⟩,fun y c e=>?_,I.free,I.freeC,fun p hp=>?_,fun b ob e=>?_,by simpa using I.len⟩
 .exact(hs.2 b (Nat.ne_of_lt (Nat.lt_of_lt_of_le (Heap.lt_size e) I.ok.above))).trans (I.base.keep b o e n' hb hx)
 .obtain⟨sl,e1⟩:=I.base.slot b o e n' hb hx
  exact⟨sl,(hs.2 b (Nat.ne_of_lt (Nat.lt_of_lt_of_le (Heap.lt_size e) I.ok.above))).trans e1⟩
 .obtain⟨o',e1⟩:=I.base.there b o e hx
  exact⟨o',(hs.2 b (Nat.ne_of_lt (Nat.lt_of_lt_of_le (Heap.lt_size e) I.ok.above))).trans e1⟩
 .have hj:j≠i:=fun z=>by
   rw[z]at e2
   have hiσ:i<σ.length:=by rw[I.len];exact(List.getElem?_eq_some_iff.mp hi).1
   rw[List.getElem?_set_self hiσ]at e2
   cases e2
  rw[List.getElem?_set_ne (Ne.symm hj)]at e2
  obtain⟨u',r',q⟩:=hl j y v' e1 e2 e3
  refine⟨u',r',?_⟩
  rcases q with⟨k,e⟩|⟨k,c,e,o,ho,hd⟩
  .refine .inl ⟨k,?_⟩
   have:y≠n:=fun e=>hj (z52 hN e1 (e▸hi))
   simp[this,e]
  .exact .inr ⟨k,c,e,o,(hs.2 c (I.cne y c e)).trans ho,hd⟩
 .obtain⟨v',o,ho,hd⟩:=I.cell y c e
  exact⟨v',o,(hs.2 c (I.cne y c e)).trans ho,hd⟩
 .obtain⟨e1,n1,ne,nf,d⟩:=I.pin p hp
  exact⟨(hs.2 p.1 ne).trans e1,n1,ne,nf,d⟩
 .refine(I.hok b ob e).stay (fun c w' hc q=>(hs.2 c ?_).trans q) (fun _ q=>q) fun _ _ q=>q
  rintro rfl
  have hfree:=I.free
  rcases hc with z|z
  .rw[<-z,hfree]at e;cases e
  .rw[hfree]at z;cases z
end
theorem Fly.on {P:Program} {w:World} {st:List Env} {H H':Hp} {B:Heap} {a C t:Addr} {h h1 h2:Heap} (F:Fly P w st H H' B a C t h h1) (fl:Heap.FlyingW B st a (.ref C) (.ref t) h2) (sm:h1.UpToSlots h2):Fly P w st H H' B a C t h h2:=by
 have sl:∀b o,h.get? b=some o->H b=none->b∈frs st->∃sl,h2.get? b=some {o with slots:=sl}:=fun b o e n hb=>by
  obtain⟨s1,e1⟩:=F.un.slot b o e n hb nin
  obtain⟨_,o',ho',hd⟩:=F.fl.2.2.1.mem hb
  rw[e1]at ho'
  cases ho'
  obtain⟨s2,e2⟩:=sm b _ e1 hd
  exact⟨s2,e2⟩
 refine⟨⟨fun b o e n nb _=>fl.1 b o (F.keep b o e n nb),fun b o e n hb _=>sl b o e n hb,F.un.free,fun b o e _=>?_,F.un.tups,F.un.frzs,F.un.tbls⟩,F.keep,F.thr,F.hok,fl⟩
 by_cases hb:b∈frs st
 .obtain⟨o',e'⟩:=F.un.there b o e nin
  obtain⟨_,o2,ho2,hd⟩:=F.fl.2.2.1.mem hb
  obtain⟨s2,e2⟩:=sm b _ ho2 hd
  exact⟨_,e2⟩
 .obtain⟨o',e'⟩:=F.thr b o e hb
  exact⟨o',fl.1 b o' e'⟩
theorem Fly.free {P:Program} {w:World} {st:List Env} {H H':Hp} {B:Heap} {a C t:Addr} {h h1:Heap} (F:Fly P w st H H' B a C t h h1):H' a=none:=by
 cases q:H' a with
 |none=>rfl
 |some u=>
  have x:=F.hok a u q
  have n:B.get? a=none:=F.fl.2.1
  exfalso
  have some_of:∃o,B.get? a=some o:=by
   clear q
   induction u with
   |lst xs=>obtain⟨_,_,_,_,e⟩:=x;exact⟨_,e⟩
   |tup xs=>obtain⟨_,_,_,o,e,_⟩:=x;exact⟨_,e⟩
   |dK kvs=>obtain⟨_,_,_,_,o,_,_,e,_⟩:=x;exact⟨_,e⟩
   |dT kvs=>obtain⟨_,_,_,_,o,_,_,e,_⟩:=x;exact⟨_,e⟩
   |set S n=>obtain⟨o,_,_,_,e,_⟩:=x;exact⟨_,e⟩
   |ins C dx fs=>obtain⟨_,_,_,e,_⟩:=x;exact⟨_,e⟩
   |own y=>exact x
   |xd fs=>obtain⟨_,⟨_,_,_,e,_⟩,_⟩:=x;exact⟨_,e⟩
   |rng lo hi=>obtain⟨_,_,_,e⟩:=x;exact⟨_,e⟩
   |frz ob u ih=>obtain⟨e,_⟩:=x;exact⟨_,e⟩
   |tbl ps=>exact⟨_,(show B.get? a=some _ from x)⟩
   |met f y=>exact⟨_,(show B.get? a=some _ from x)⟩
   |ext φ=>obtain⟨_,⟨_,e⟩,_⟩:=x;exact⟨_,e⟩
  obtain⟨o,e⟩:=some_of
  rw[n]at e
  cases e
section
variable {X:Cx} {pins:List (Addr × Obj)} {σ:St} {H:Hp} {s:Shared} {a:Addr} {oe:Obj}
noncomputable def zEd:V->Option Value
 |.ref a=>some (.ref a)
 |.ty n=>some (.type n)
 |_=>none
theorem zCk {y:V} {u v:Value} (h:zEd y=some u) (r:RelV y v):v=u:=by
 cases y with
 |ref a=>cases h;exact r
 |ty n=>cases h;exact r
 |_=>cases h
end
section
variable {X:Cx} {k:Nat} {fa G:Addr} {fd:FuncData} {ps:List Str} {sp:Sp} {dvs:List V} {ds:List Value} {x gn n:Str} {p cp ep gp hp tp:Pos} {e:Expr} {es:List Expr} {t:TA} {b₀:Stmt} {suite:List Stmt} {i:Nat} {th:Addr->Addr->TS}
end
structure Owx (P:Program) (w:World) (K:PySem.W.Frag) (mg:Str->Option Value) (base:Heap) (x:Str) (ps:List Str) (k:Nat) (sp:Sp):Prop where
 ex:∃(f:Addr) (fd:FuncData),mg x=some (.ref f)/\PySem.W.keepIn K (.ref f)=true/\Binds K fd ps []/\FnOk P w K mg base (CX1 P w) k f fd ps sp
structure Ec (K:PySem.W.Frag) (mg:Str->Option Value) (x:Str) (C:Addr):Prop where
 m:mg x=some (.ref C)
 c:XC K C
section
variable {X:Cx} {k j:Nat} {ps:List Str} {sp:Sp} {x gn n:Str} {G:Addr} {p pos cp ep gp hp tp:Pos} {e:Expr} {es:List Expr} {t:TA} {E:XK} {b₀:Stmt} {suite:List Stmt} {i:Nat} {th:Addr->Addr->TS}
end
section
variable {prog:Program} {w:World} {A:Around} {E:Value->Shared->Prop} {h:Heap} {g:Array GenState} {d:Drawn} {t:Nat} {os:OsState}
variable {nm q:Str} {C N:Addr} {bs bm bmB:List Value} {hdct:Bool} {sn:List Str} {sub:List Value} {ab:Bool} {col:Option Bool} {dd:Option Addr} {k0 k1 k2 k3 k5:Option Value} {B newId initId:String}
noncomputable abbrev zAG (C t:Addr):Obj:={cls:=.ref C,data:=.fields #[.ref t,.none,.none,.none,.bool false,.none]}
end
inductive VeTail:List Value->Prop
 |base:VeTail zAF
 |step {c:Addr} {r:List Value}:VeTail r->VeTail (.ref c::r)
theorem VeTail.passes (self:Value) {l:List Value} (t:VeTail l):refuseLoop self "__setattr__" l=pure ():=by
 induction t with
 |base=>exact PySem.F.store_ValueError.passes self
 |step _ ih=>rw[refuseLoop_ref];exact ih
structure XE (K:PySem.W.Frag) (C:Addr):Prop where
 ex:∃(dd:Option Addr) (cd:ClassData) (k0 k1 k2 k3 k5:Option Value) (bm:List Value),K.lookup C=some ⟨.type "type",dd,.cls cd,#[k0,k1,k2,k3,some (.builtin "ValueError.__new__"),k5]⟩/\cd.mro=.ref C::bm/\cd.hasDel=false/\cd.hasDict=true/\
  VeTail bm/\PySem.W.tailIn K zAF bm=true/\PySem.W.nsOkIn K cd.ns=true
 ga:PySem.W.findIn K (.ref C) "__getattribute__"=some (some (.builtin "BaseException.__getattribute__"))
 gn:PySem.W.findIn K (.ref C) "__getattr__"=some none
 sa:PySem.W.findIn K (.ref C) "__setattr__"=some (some (.builtin "object.__setattr__"))
 kc:PySem.W.findIn K (.ref C) "__class__"=some (some (.builtin "object.__class__"))
 kg:PySem.W.specialIn K (.builtin "object.__class__") "__get__"=some (some (.builtin "getset_descriptor.__get__"))
 kt:PySem.W.takesIn K (.builtin "object.__class__")=some true
 km:PySem.W.mroIn K C (.type "object")=some true
section
variable {K:PySem.W.Frag} {C:Addr}
theorem XE.obj {h:Heap} (X:K.In h) (Z:XE K C):∃bm N nm qn bs sn sub ab col dd k0 k1 k2 k3 k5 mN,h.get? C=some (excClassObj nm qn C N bs bm true sn sub ab col dd k0 k1 k2 k3 k5 "ValueError.__new__")/\h.Ns N mN/\OwnTail h zAF bm/\VeTail bm/\
 ∃cd,PySem.W.clsIn K C=some cd/\cd.mro=.ref C::bm/\cd.hasDict=true/\cd.ns=N/\∃d0 sl0,K.lookup C=some ⟨.type "type",d0,.cls cd,sl0⟩:=by
 obtain⟨dd,cd,k0,k1,k2,k3,k5,bm,lk,hm,hdel,hdct,vt,ht,hok⟩:=Z.ex
 have hcls:PySem.W.clsIn K C=some cd:=by unfold PySem.W.clsIn;rw[lk]
 have lk':=lk
 obtain⟨nm,bs,mro,ns,qn,hd,sn,sub,ab,col,del⟩:=cd
 dsimp only at hm hdel hok hdct
 subst hm hdel hdct
 exact⟨bm,ns,nm,qn,bs,sn,sub,ab,col,dd,k0,k1,k2,k3,k5,_,X _ _ lk,(.of_isNs (PySem.W.isNs_of_in X hok)),PySem.W.tail_of_in X ht,vt,_,hcls,rfl,rfl,rfl,_,_,lk'⟩
end
section
variable {prog:Program} {w:World} {A:Around} {E:Value->Shared->Prop} {s:Shared} {K:PySem.W.Frag} {x C:Addr}
theorem z8b {R:Result->Shared->Prop} (X:K.In s.heap) (Z:XE K C) (I:ExcAt x C s.heap) (h:R (.ok (.ret (.ref C))) s):
 codeAny (model prog w) A (.call (.builtin "getset_descriptor.__get__") ⟨[.builtin "object.__class__",.ref x,.ref C],[]⟩) R s:=by
 obtain⟨hh,g,d,t,os⟩:=s
 obtain⟨bm,N,nm,qn,bs,sn,sub,ab,col,dd,k0,k1,k2,k3,k5,mN,hC,hN,T,_⟩:=XE.obj X Z
 obtain⟨ox,hx,hc⟩:=I
 have ow:".".intercalate ("object.__class__".cutAt '.').dropLast="object":=by decide+kernel
 have hcO:(Value.ref C::bm).contains (.type (".".intercalate ("object.__class__".cutAt '.').dropLast))=true:=by
  rw[ow,List.contains_cons,T.hasType (X:="object") (b:=true) (by decide+kernel)]
  rfl
 have hT5:(⟨hh,g,d,t,os⟩:Shared).TypeIs (.builtin "object.__class__") "getset_descriptor":=F.typeOf_object_class
 refine codeAny_call_builtin F.slot_gs_get.plain F.entry_gs_get
  (F.slot_gs_get.check _ _ _ _ _ _ _ _ hT5 (F.args_gs_get _ _ _) ?_)
 repeat (any_goals (first
  |assumption
  |(with_reducible refine wpAny_loadPart_at hx ?_;rw[hc])
  |(with_reducible refine wpAny_isSubtype_exc hC ?_;rw[hcO])
  |wp_step))
 refine⟨Code.quiet_builtin _ (by decide+kernel),codeAny_builtin F.entry_object_class ?_⟩
 repeat (any_goals (first
  |assumption
  |(with_reducible refine wpAny_loadPart_at hx ?_;rw[hc])
  |wp_step))
theorem z8c {Q:Option Value->Shared->Prop} (X:K.In s.heap) (Z:XE K C) (I:ExcAt x C s.heap) (h:Q (some (.ref C)) {s with toks:=s.toks+1}):wpAny (model prog w) A (getAttr? (.ref x) "__class__") Q E s:=by
 obtain⟨hh,g,d,t,os⟩:=s
 obtain⟨bm,N,nm,qn,bs,sn,sub,ab,col,dd,k0,k1,k2,k3,k5,mN,hC,hN,T,_⟩:=XE.obj X Z
 have L0:=I.ty (M:=model prog w)
 have L1:=PySem.W.looks_findIn (M:=model prog w) X Z.ga
 have L2':=PySem.W.looks_findIn (M:=model prog w) X Z.gn
 have L4:=PySem.W.looks_findIn (M:=model prog w) X Z.kc
 have hk:builtinKind "BaseException.__getattribute__"=some .slot:=by decide+kernel
 have hsplit:splitId "BaseException.__getattribute__"=some ("BaseException","__getattribute__"):=by decide+kernel
 have hcB:(Value.ref C::bm).contains (.type "BaseException")=true:=by
  rw[List.contains_cons,T.hasType (X:="BaseException") (b:=true) (by decide+kernel)]
  rfl
 obtain⟨ox,hx,hc⟩:=id I
 have ha:=F.args_bexc_ga (.ref x) (.str "__class__" t)
 have hT5:(⟨hh,g,d,t+1,os⟩:Shared).TypeIs (.builtin "object.__class__") "getset_descriptor":=F.typeOf_object_class
 have f5:=F.typeOf_object_class
 have f6:=F.slot_gs_get.lookup
 have f7:=F.slot_gs_set.lookup
 unfold getAttr? getAttrBy? getAttrBy
 refine wpAny_bind (wpAny_mkText (wpAny_bind ?_))
 refine wpAny_attempt (wpAny_holding (wpAny_bind ?_))
 refine L0.at (wpAny_bind (L1.at ?_))
 show wpAny _ _ (getAttrByItsOwn _ _ _ _ _ _) _ _ _
 unfold getAttrByItsOwn
 show wpAny _ _ (typeLookup (.ref C) "__getattr__">>=_) _ _ _
 refine wpAny_bind (L2'.at ?_)
 refine wpAny_bind (wpAny_attempt (wpAny_holding ?_))
 show wpAny _ _ (boundAndCalled (.builtin "BaseException.__getattribute__") (.ref x) _) _ _ _
 unfold boundAndCalled
 refine wpAny_bind (wpAny_of_eq (gaSlot.bind _) ?_)
 refine wpAny_call (codeAny_call_builtin gaSlot.plain F.entry_bexc_ga ?_)
 simp only[checkBuiltinCall,hk,hsplit]
 refine wpAny_bind ?_
 unfold isInstance
 repeat (first
  |(with_reducible refine wpAny_loadPart_at hx ?_;rw[hc])
  |(with_reducible refine wpAny_isSubtype_exc hC ?_;rw[hcB])
  |wp_step)
 refine L4.at ?_
 repeat (any_goals (first|assumption|wp_step))
 refine z8b (s:=⟨hh,g,d,t+1,os⟩) X Z I ?_
 repeat (any_goals (first|assumption|wp_step))
theorem zBL (Z:XE K C):PySem.W.KitX K (.ref x) (.ref C) (ExcAt x C) where
 ty:=fun _ _ _ I=>I.ty
 it:=fun M h X _=>by
  obtain⟨_,_,_,_,_,_,_,_,_,_,_,_,_,_,_,_,_,_,_,_,cd0,_,_,_,_,d0,sl0,ho⟩:=XE.obj X Z
  intro A' Q' E' s' k q
  unfold isType loadHead
  exact wpAny_bind (wpAny_loadPart (k _ _ (X _ _ ho)) (wpAny_pure q))
 ne:=fun h tp dd its n sl X htp=>by
  obtain⟨_,_,_,_,_,_,_,_,_,_,_,_,_,_,_,_,_,_,_,_,cd0,_,_,_,_,d0,sl0,ho⟩:=XE.obj X Z
  refine Bool.eq_false_iff.mpr fun q=>?_
  have e:C=tp:=Value.ref.inj (beq_iff_eq.mp q)
  subst e
  have z:=(X _ _ ho).symm.trans htp
  simp at z
 ca:=fun X I k=>z8c X Z I k
theorem zBM {name:Str} {v:Value} {expr:Bool} {Q:Value->Shared->Prop} {mA:Str->Option Value} (X:K.In s.heap) (Z:XE K C) (hn:PySem.W.findIn K (.ref C) name=some none) (I:s.heap.Inst x C mA) (hv:mA name=some v) (hh:handedOut v=pure v)
 (h:Q v {s with toks:=s.toks+1}):wpAny (model prog w) A (getAttr (.ref x) name expr) Q E s:=by
 obtain⟨hh',g,d,t,os⟩:=s
 obtain⟨bm,N,nm,qn,bs,sn,sub,ab,col,dd,k0,k1,k2,k3,k5,mN,hC,hN,T,_⟩:=XE.obj X Z
 obtain⟨ox,hx,hc,hnc,hd⟩:=id I
 have L0:=ExcAt.ty (M:=model prog w) ⟨ox,hx,hc⟩
 have L1:=PySem.W.looks_findIn (M:=model prog w) X Z.ga
 have L2':=PySem.W.looks_findIn (M:=model prog w) X Z.gn
 have L4:=PySem.W.looks_findIn (M:=model prog w) X hn
 have hk:builtinKind "BaseException.__getattribute__"=some .slot:=by decide+kernel
 have hsplit:splitId "BaseException.__getattribute__"=some ("BaseException","__getattribute__"):=by decide+kernel
 have hcB:(Value.ref C::bm).contains (.type "BaseException")=true:=by
  rw[List.contains_cons,T.hasType (X:="BaseException") (b:=true) (by decide+kernel)]
  rfl
 have ha:=F.args_bexc_ga (.ref x) (.str name t)
 rcases hd with⟨_,hmA⟩|⟨dx,hdx,hne,hns⟩
 .rw[hmA name]at hv;cases hv
 unfold getAttr getAttrBy
 refine wpAny_bind (wpAny_mkText ?_)
 refine wpAny_holding (wpAny_bind ?_)
 refine L0.at (wpAny_bind (L1.at ?_))
 show wpAny _ _ (getAttrByItsOwn _ _ _ _ _ _) _ _ _
 unfold getAttrByItsOwn
 show wpAny _ _ (typeLookup (.ref C) "__getattr__">>=_) _ _ _
 refine wpAny_bind (L2'.at ?_)
 refine wpAny_bind (wpAny_attempt (wpAny_holding ?_))
 have e0:callGetattribute (.ref x) (.str name t) (.builtin "BaseException.__getattribute__") expr=boundAndCalled (.builtin "BaseException.__getattribute__") (.ref x) (.str name t):=by
  unfold callGetattribute
  rw[if_neg (by cases expr<;>simp[onTheHeap])]
 rw[e0]
 unfold boundAndCalled
 refine wpAny_bind (wpAny_of_eq (gaSlot.bind _) ?_)
 refine wpAny_call (codeAny_call_builtin gaSlot.plain F.entry_bexc_ga ?_)
 simp only[checkBuiltinCall,hk,hsplit]
 refine wpAny_bind ?_
 unfold isInstance
 repeat (first
  |(with_reducible refine wpAny_loadPart_at hx ?_;rw[hc])
  |(with_reducible refine wpAny_isSubtype_exc hC ?_;rw[hcB])
  |wp_step)
 refine L4.at ?_
 refine wpAny_bind (wpAny_pure (wpAny_bind (wpAny_pure ?_)))
 show wpAny _ _ (Builtin.ObjectAttr.ownThenClass (Value.ref x) name none none) _ _ _
 unfold Builtin.ObjectAttr.ownThenClass
 refine wpAny_bind ?_
 show wpAny _ _ (Builtin.ObjectAttr.ownDict x>>=Builtin.ObjectAttr.inDict name) _ _ _
 unfold Builtin.ObjectAttr.ownDict loadHead
 refine wpAny_bind (wpAny_bind (wpAny_loadPart hx ?_))
 have key:∀{Q':Option Addr->Shared->Prop} {E':Value->Shared->Prop},Q' (some dx) ⟨hh',g,d,t+1,os⟩->wpAny (model prog w) A.in1 (match ox.data with
  |.cls c=>pure (some c.ns)
  |_=>instanceDict x false) Q' E' ⟨hh',g,d,t+1,os⟩:=fun{Q' E'} q=>by
  split
  .rename_i c hcd
   exact absurd hcd (hnc c)
  .unfold instanceDict
   repeat (first|(with_reducible refine wpAny_loadPart_at hx ?_;rw[hc])|with_reducible refine wpAny_loadPart_at hC ?_|wp_step)
   rw[hdx]
   exact wpAny_pure q
 refine key ?_
 show wpAny _ _ (nsGet dx name) _ _ _
 refine wpAny_nsGet hns.ns ?_
 rw[hv]
 refine wpAny_bind (wpAny_rule (wpAny_pure ?_))
 refine wpAny_pure ?_
 show wpAny _ _ (handedOut v) _ _ _
 rw[hh]
 exact wpAny_pure h
end
section
variable {prog:Program} {w:World} {A:Around} {E:Value->Shared->Prop} {s:Shared} {K:PySem.W.Frag} {x C:Addr}
theorem z6H {name:Str} {v:Value} {Q:Unit->Shared->Prop} {mA:Str->Option Value} {ns:List Str} (X:K.In s.heap) (Z:XE K C) (hn:PySem.W.findIn K (.ref C) name=some none) (I:s.heap.Inst x C mA)
 (hq:∀h' tk',h'.Inst x C (fun y=>if y=name then some v else mA y)->
  (∀b o,b≠x->(∀o₀ dx,s.heap.get? x=some o₀->o₀.dict=some dx->b≠dx)->s.heap.get? b=some o->h'.get? b=some o)->
  (∀o₀,s.heap.get? x=some o₀->∃o₁,h'.get? x=some o₁/\o₁.cls=o₀.cls/\o₁.data=o₀.data/\o₁.slots=o₀.slots/\(∀dx,o₀.dict=some dx->o₁.dict=some dx)/\(o₀.dict=none->o₁.dict=some s.heap.objs.size))->Q () {s with heap:=h',toks:=tk'}) (hw:Within mA ns) (hsz:ns.length<=1000):
 wpAny (model prog w) A (setAttr (.ref x) name v) Q E s:=by
 obtain⟨h,g,d,t,os⟩:=s
 obtain⟨bm,N,nm,qn,bs,sn,sub,ab,col,dd,k0,k1,k2,k3,k5,mN,hC,hN,T,vt,cd,hcd,hmro,hdct,_⟩:=XE.obj X Z
 obtain⟨o,hx,hc,hnc,hd⟩:=I
 have SF:=PySem.F.store_ValueError
 have L0:=ExcAt.ty (M:=model prog w) (x:=x) (C:=C) (h:=h) ⟨o,hx,hc⟩
 have Ls:=PySem.W.looks_findIn (M:=model prog w) X Z.sa
 have Ln:=PySem.W.looks_findIn (M:=model prog w) X hn
 have f3:=SF.slot.bind (.ref x)
 unfold setAttr
 refine wpAny_bind (wpAny_mkText (wpAny_bind ?_))
 unfold callSpecial? specialOf
 refine wpAny_bind (wpAny_bind (L0.at (Ls.at ?_)))
 refine wpAny_holding ?_
 rw[f3]
 refine wpAny_bind (wpAny_pure ?_)
 refine wpAny_bind (wpAny_call ?_)
 have sub:PySem.W.Looks (model prog w) h (isInstance (.ref x) (.type "object")) true:=L0.andThen (PySem.W.looks_mroIn X Z.km)
 refine codeAny_call_builtin SF.slot.plain SF.entry (@PySem.W.check_slot (model prog w) _ _ ⟨h,g,d,t+1,os⟩ "object.__setattr__" "object" "__setattr__" (.ref x) [.str name t,v] [] _ SF.kind SF.split sub (SF.args (.ref x) (.str name t) v) ?_)
 show wpAny _ _ (Builtin.«object.__setattr__» ⟨[.ref x,.str name t,v],[]⟩) _ _ _
 rw[PySem.W.osa_eq,refuse_eq]
 have hm:PySem.W.Looks (model prog w) h (mroOf (.ref C)) cd.mro:=(PySem.W.looks_clsIn X hcd).andThen .now
 refine wpAny_bind (wpAny_bind (L0.at (wpAny_bind (hm.at ?_))))
 rw[hmro,(VeTail.step vt).passes]
 refine wpAny_pure (wpAny_bind (L0.at (wpAny_bind (Ln.at (wpAny_bind (wpAny_pure ?_))))))
 show wpAny _ _ (Builtin.ObjectAttr.storeInOwnDict (.ref x) (.ref C) (.str name t) name v _) _ _ _
 unfold Builtin.ObjectAttr.storeInOwnDict
 refine wpAny_bind (wpAny_pure ?_)
 show wpAny _ _ (instanceDict x true>>=_) _ _ _
 unfold instanceDict
 rcases hd with⟨hdn,hmA⟩|⟨dx,hdx,hne,hns⟩
 .repeat (first|(with_reducible refine wpAny_loadPart_at hx ?_;rw[hc])|with_reducible refine wpAny_loadPart_at hC ?_|wp_step)
  rw[hdn,if_neg (by simp[typeHasDict])]
  have mk:∀{Q':Option Addr->Shared->Prop} {E':Value->Shared->Prop},wpAny (model prog w) A.in1 (do
   let d<-alloc {cls:=Value.type "dict",data:=Data.dict #[]}
   update x fun o=>{cls:=o.cls,dict:=some d,data:=o.data,slots:=o.slots}
   dictMade (Value.ref C) x d) Q' E' ⟨h,g,d,t+1,os⟩->wpAny (model prog w) A.in1 (match o.data with
   |.cls c=>pure none
   |_=>do
    let d<-alloc {cls:=Value.type "dict",data:=Data.dict #[]}
    update x fun o=>{cls:=o.cls,dict:=some d,data:=o.data,slots:=o.slots}
    dictMade (Value.ref C) x d) Q' E' ⟨h,g,d,t+1,os⟩:=fun{Q' E'} q=>by
   split
   .rename_i c hcd'
    exact absurd hcd' (hnc c)
   .exact q
  refine mk ?_
  have hx₁:(h.push {cls:=.type "dict",data:=.dict #[]}).get? x=some o:=Heap.get?_push_of_some _ hx
  have hxs:x≠h.objs.size:=Nat.ne_of_lt (Heap.lt_size hx)
  refine wpAny_bind (wpAny_alloc' ?_)
  refine wpAny_bind (wpAny_update' hx₁ ?_)
  refine wpAny_pure ?_
  have gd:((h.push {cls:=.type "dict",data:=.dict #[]}).update x fun o=>{cls:=o.cls,dict:=some h.objs.size,data:=o.data,slots:=o.slots}).get? h.objs.size=some {cls:=.type "dict",data:=.dict #[]}:=
   (Heap.get?_update_ne _ _ _ _ hxs.symm).trans (Heap.get?_push_at rfl rfl)
  have nd:((h.push {cls:=.type "dict",data:=.dict #[]}).update x fun o=>{cls:=o.cls,dict:=some h.objs.size,data:=o.data,slots:=o.slots}).Ns h.objs.size (fun _=>none):=⟨_,#[],_,gd,rfl,fun e he=>absurd he (by simp),fun _=>rfl⟩
  show wpAny _ _ (Builtin.ObjectAttr.storeInDict h.objs.size (.str name t) name v) _ _ _
  unfold Builtin.ObjectAttr.storeInDict Builtin.ObjectAttr.newKeyGuard
  refine wpAny_bind (wpAny_pure (wpAny_bind (wpAny_nsSet1 (Heap.Ns1.of_empty nd) fun h' hn' hs=>?_)))
  obtain⟨oD,esD,epD,hoD,hdD,hcD⟩:=hn'.count (Within.cons name v Within.nil)
  refine wpAny_bind (wpAny_lookBehind hoD (by rw[hdD];exact pastItsLine_dict (Nat.le_trans hcD (by rw[List.length_cons,List.length_nil,sizeLine_eq];omega))) ?_)
  refine wpAny_pure (wpAny_pure (wpAny_pure ?_))
  have hx':h'.get? x=some {cls:=o.cls,dict:=some h.objs.size,data:=o.data,slots:=o.slots}:=by
   refine(hs.2 x hxs).trans (Heap.get?_update_self _ hx₁ ?_)
   have hfr:=(Heap.get?_some_iff.mp hx).2
   obtain⟨oc,od,odt,osl⟩:=o
   cases odt<;>first|rfl|exact hfr
  refine hq h' _ ⟨_,hx',hc,hnc,.inr ⟨h.objs.size,rfl,hxs.symm,?_⟩⟩ (fun b ob hbx _ hb=>(hs.2 b (Nat.ne_of_lt (Heap.lt_size hb))).trans ((Heap.get?_update_ne _ _ _ _ hbx).trans (Heap.get?_push_of_some _ hb))) fun o₀ h₀=>?_
  .obtain⟨o',es,ep,e1,e2,e3,eu,e4⟩:=hn'
   exact⟨o',es,ep,e1,e2,e3,eu,fun y=>by rw[e4 y];by_cases hy:y=name<;>simp[hy,hmA]⟩
  .obtain rfl:o=o₀:=Option.some.inj (hx.symm.trans h₀)
   exact⟨_,hx',rfl,rfl,rfl,(fun dx e=>by rw[hdn]at e;cases e),fun _=>rfl⟩
 .repeat (first|(with_reducible refine wpAny_loadPart_at hx ?_;rw[hc])|with_reducible refine wpAny_loadPart_at hC ?_|wp_step)
  rw[hdx]
  refine wpAny_pure ?_
  show wpAny _ _ (Builtin.ObjectAttr.storeInDict dx (.str name t) name v) _ _ _
  unfold Builtin.ObjectAttr.storeInDict Builtin.ObjectAttr.newKeyGuard
  refine wpAny_bind (wpAny_pure (wpAny_bind (wpAny_nsSet1 hns fun h' hn' hs=>?_)))
  obtain⟨oD,esD,epD,hoD,hdD,hcD⟩:=hn'.count (Within.cons name v hw)
  refine wpAny_bind (wpAny_lookBehind hoD (by rw[hdD];exact pastItsLine_dict (Nat.le_trans hcD (by rw[List.length_cons,sizeLine_eq];omega))) ?_)
  refine wpAny_pure (wpAny_pure (wpAny_pure ?_))
  refine hq h' _ ⟨o,(hs.2 x hne.symm).trans hx,hc,hnc,.inr ⟨dx,hdx,hne,hn'⟩⟩ (fun b ob _ hbd hb=>(hs.2 b (hbd o dx hx hdx)).trans hb) fun o₀ h₀=>?_
  obtain rfl:o=o₀:=Option.some.inj (hx.symm.trans h₀)
  exact⟨o,(hs.2 x hne.symm).trans h₀,rfl,rfl,rfl,fun _ e=>e,fun e=>by rw[hdx]at e;cases e⟩
end
def Vs0 (vs:Array Value):Prop:=(∃t,vs[0]?=some (.ref t))/\vs[1]?=some .none
def ErrO (x C:Addr) (d:Option Addr) (h:Heap):Prop:=∃o vs,h.get? x=some o/\o.cls=.ref C/\o.data=.fields vs/\Vs0 vs/\o.dict=d
def z4q (x C:Addr) (d:Option Addr) (h:Heap):Prop:=∃o vs,h.get? x=some o/\o.cls=.ref C/\o.data=.fields vs/\o.dict=d
theorem ErrO.t {x C:Addr} {d:Option Addr} {h:Heap} (I:ErrO x C d h):z4q x C d h:=let ⟨o,vs,a,b,c,_,e⟩:=I;⟨o,vs,a,b,c,e⟩
theorem Vs0.pos {vs:Array Value} (h:Vs0 vs):0<vs.size:=let ⟨⟨_,e⟩,_⟩:=h;(Array.getElem?_eq_some_iff.mp e).1
theorem Vs0.put {vs:Array Value} (h:Vs0 vs) (t:Addr):Vs0 (vs.setIfInBounds 0 (.ref t)):=⟨⟨t,by simp[h.pos]⟩,by rw[Array.getElem?_setIfInBounds_ne (by decide)];exact h.2⟩
section
variable {prog:Program} {w:World} {A:Around} {E:Value->Shared->Prop} {s:Shared} {K:PySem.W.Frag} {x C:Addr}
theorem zAH {rest:List Value} {d:Option Addr} {Q:Value->Shared->Prop} (X:K.In s.heap) (Z:XE K C) (I:ErrO x C d s.heap) (hz:rest.length<=sizeLine)
 (h:∀h':Heap,(∀b o,b≠x->s.heap.get? b=some o->h'.get? b=some o)->ErrO x C d h'->Q .none {s with heap:=h'}):wpAny (model prog w) A (call (.builtin "ValueError.__init__") (.ref x::rest)) Q E s:=by
 obtain⟨hh,g,dr,t,os⟩:=s
 obtain⟨bm,N,nm,qn,bs,sn,sub,ab,col,dd,k0,k1,k2,k3,k5,mN,hC,hN,T,_⟩:=XE.obj X Z
 obtain⟨o,vs,hx,hc,hd,hv0',hdi⟩:=I
 have hvs:=hv0'.pos
 have FB:=F.excBase_ValueError
 refine wpAny_call (codeAny_call_builtin FB.init.plain FB.initEntry (wpAny_check_init_subU FB T hC hx hc ?_))
 show wpAny _ _ (newTuple rest>>=fun tp=>Builtin.BaseException.bexcPut (.ref x) 0 tp>>=fun _=>ret .none) _ _ _
 refine wpAny_bind (wpAny_newTuple ?_ hz)
 have hx1:(hh.push {cls:=.type "tuple",data:=.seq rest.toArray}).get? x=some o:=Heap.get?_push_of_some _ hx
 refine wpAny_bind ?_
 unfold Builtin.BaseException.bexcPut
 obtain⟨v0,hv0⟩:∃v0,vs[0]?=some v0:=⟨_,getElem?_pos vs 0 hvs⟩
 refine wpAny_bind (wpAny_field hx1 hd hv0 ?_)
 refine wpAny_bind (wpAny_setField hx1 hd hvs ?_)
 have hfr:(Obj.mapFields (·.setIfInBounds 0 (.ref hh.objs.size)) o).isFreed=false:=by
  obtain⟨oc,od,odt,osl⟩:=o
  cases (show odt=.fields vs from hd)
  rfl
 have hx2:((hh.push {cls:=.type "tuple",data:=.seq rest.toArray}).update x (Obj.mapFields (·.setIfInBounds 0 (.ref hh.objs.size)))).get? x=some (Obj.mapFields (·.setIfInBounds 0 (.ref hh.objs.size)) o):=Heap.get?_update_self _ hx1 hfr
 have fin:Q .none ⟨(hh.push {cls:=.type "tuple",data:=.seq rest.toArray}).update x (Obj.mapFields (·.setIfInBounds 0 (.ref hh.objs.size))),g,dr,t,os⟩:=by
  refine h _ (fun b ob hb e=>(Heap.get?_update_ne _ _ _ _ hb).trans (Heap.get?_push_of_some _ e)) ⟨_,vs.setIfInBounds 0 (.ref hh.objs.size),hx2,?_⟩
  obtain⟨oc,od,odt,osl⟩:=o
  cases (show odt=.fields vs from hd)
  exact⟨hc,rfl,hv0'.put _,hdi⟩
 cases v0 with
 |ref a=>exact wpAny_letGo (wpAny_pure fin)
 |_=>exact wpAny_pure (wpAny_pure fin)
end
section
variable {prog:Program} {w:World} {A:Around} {E:Value->Shared->Prop} {s:Shared} {K:PySem.W.Frag} {C:Addr}
noncomputable abbrev zBN (h:Heap) (C:Addr) (rest:List Value):Heap:=(h.push {cls:=.type "tuple",data:=.seq rest.toArray}).push (zAG C h.objs.size)
theorem z4I {h:Heap} {rest:List Value} {b:Addr} {o:Obj} (e:h.get? b=some o):(zBN h C rest).get? b=some o:=Heap.get?_push_of_some _ (Heap.get?_push_of_some _ e)
theorem zAI {h:Heap} {rest:List Value}:ErrO (h.objs.size+1) C none (zBN h C rest):=⟨zAG C h.objs.size,_,by heap_get,rfl,rfl,⟨⟨_,rfl⟩,rfl⟩,rfl⟩
theorem z81 {rest:List Value} {fI:Value} {Q:Value->Shared->Prop} (X:K.In s.heap) (Z:XE K C) (hi:PySem.W.findIn K (.ref C) "__init__"=some (some fI)) (hb:∀x:Addr,PySem.W.Looks (model prog w) (zBN s.heap C rest) (bindSpecial fI (.ref x)) (fI,[.ref x])) (hz:rest.length<=sizeLine)
 (h:wpAny (model prog w) (A.under (.builtin "type.__call__" ⟨.ref C::rest,[]⟩)) (call fI (.ref (s.heap.objs.size+1)::rest)) (fun r s'=>r=.none/\Q (.ref (s.heap.objs.size+1)) s') E {s with heap:=zBN s.heap C rest}):
 wpAny (model prog w) A (call (.ref C) rest) Q E s:=by
 obtain⟨hh,g,dr,t,os⟩:=s
 obtain⟨bm,N,nm,qn,bs,sn,sub,ab,col,dd,k0,k1,k2,k3,k5,mN,hC,hN,T,_⟩:=XE.obj X Z
 have FB:=F.excBase_ValueError
 have f1:=tc_lookup
 have f2:=tc_bind (.ref C)
 have hT:(⟨hh,g,dr,t,os⟩:Shared).TypeIs (.ref C) "type":=⟨_,hC,rfl⟩
 have body:∀{Q':PySem.Fin->Shared->Prop} {A':Around},wpAny (model prog w) A' (call fI (.ref (hh.objs.size+1)::rest)) (fun r s'=>r=.none/\Q' (.done (.ret (.ref (hh.objs.size+1)))) s') E ⟨zBN hh C rest,g,dr,t,os⟩->
  wpAny (model prog w) A' (Builtin.«type.__call__» ⟨.ref C::rest,[]⟩) Q' E ⟨hh,g,dr,t,os⟩:=by
  intro Q' A' hq
  repeat (first
   |with_reducible refine wpAny_loadPart_at hC ?_
   |with_reducible refine wpAny_madeBy_exc hC ?_
   |wp_step)
  refine codeAny_call_builtin_code (Code.quiet_builtin _ FB.quiet) (wpAny_check_new_subU FB FB.hasB T hC ?_)
  refine codeAny_exc_new_subU FB FB.hasB FB T hC ?_ hz
  show wpAny _ _ _ _ _ _
  have hC1:=z4I (C:=C) (rest:=rest) hC
  have X1:K.In (zBN hh C rest):=X.keeps fun b o e=>z4I e
  have hX:(zBN hh C rest).get? (hh.objs.size+1)=some (zAG C hh.objs.size):=by heap_get
  have hcC:(Value.ref C::bm).contains (.ref C)=true:=by simp
  unfold isInstance
  repeat (first
   |with_reducible refine wpAny_loadPart_at hX ?_
   |(with_reducible refine wpAny_isSubtype_exc hC1 ?_;rw[hcC])
   |wp_step)
  show wpAny _ _ (typeLookup (.ref C) _) _ _ _
  refine(PySem.W.looks_findIn X1 hi).at ?_
  refine wpAny_holding (wpAny_bind ((hb (hh.objs.size+1)).at ?_))
  refine wpAny_bind (wpAny_mono hq (fun r s' hr=>?_) fun _ _ z=>z)
  obtain⟨rfl,hQ⟩:=hr
  wp_walk
  exact hQ
 refine wpAny_call (codeAny_of_tree ?_)
 show wpAny _ _ (callAny (.ref C) _) _ _ _
 repeat (any_goals (first
  |assumption
  |with_reducible refine wpAny_loadPart_at hC ?_
  |wp_step))
 refine⟨rfl,?_⟩
 exact codeAny_call_builtin_at (Code.quiet_builtin _ (by decide+kernel)) entry_typeCall (wpAny_check_type_call_sub hC (body h))
end
def z3f (a:Addr) (fs:List (Str × V)) (h:Heap):Prop:=∃mA,h.Ns1 a mA/\(∀f,RelO (fs.lookup f) (mA f))/\PySem.Within mA (fs.map (·.1))
theorem z3s {prog:Program} {w:World} {H:Hp} {h:Heap} {x C:Addr} {d:Option Addr} (I:ErrO x C d h):ObjOk prog w H h x (.ext (ErrO x C d)):=
 ⟨I,(let ⟨o,_,e,_⟩:=I;⟨o,e⟩),fun _ _ y k=>let ⟨o,vs,e,r⟩:=y;⟨o,vs,k o e,r⟩⟩
theorem z82 {prog:Program} {w:World} {H:Hp} {h:Heap} {a:Addr} {fs:List (Str × V)} (I:z3f a fs h):ObjOk prog w H h a (.ext (z3f a fs)):=
 ⟨I,(let ⟨_,⟨o,_,_,e,_⟩,_⟩:=I;⟨o,e⟩),fun _ _ y k=>let ⟨mA,⟨o,es,ep,e,r⟩,q⟩:=y;⟨mA,⟨o,es,ep,k o e,r⟩,q⟩⟩
theorem zBO {prog:Program} {w:World} {H:Hp} {h:Heap} {x C:Addr} {d:Option Addr} (I:z4q x C d h):ObjOk prog w H h x (.ext (z4q x C d)):=
 ⟨I,(let ⟨o,_,e,_⟩:=I;⟨o,e⟩),fun _ _ y k=>let ⟨o,vs,e,r⟩:=y;⟨o,vs,k o e,r⟩⟩
def zEe (H:Hp) (x C:Addr) (d:Option Addr):Prop:=H x=some (.ext (ErrO x C d))\/H x=some (.ext (z4q x C d))
def z4X (H:Hp) (x C:Addr) (fs:List (Str × V)):Prop:=
 (fs=[]/\zEe H x C none)\/∃dx,dx≠x/\zEe H x C (some dx)/\H dx=some (.ext (z3f dx fs))
section
variable {X:Cx} {pins:List (Addr × Obj)} {σ:St} {H:Hp} {s:Shared}
theorem Inv.errO {x C:Addr} {d:Option Addr} (I:Inv X pins σ H s) (e:H x=some (.ext (ErrO x C d))):ErrO x C d s.heap:=(show ObjOk X.prog X.w H s.heap x (.ext (ErrO x C d))from I.hok x _ e).1
theorem Inv.errT {x C:Addr} {d:Option Addr} (I:Inv X pins σ H s) (e:zEe H x C d):z4q x C d s.heap:=by
 rcases e with e|e
 .exact(I.errO e).t
 .exact(show ObjOk X.prog X.w H s.heap x (.ext (z4q x C d))from I.hok x _ e).1
theorem Inv.errD {a:Addr} {fs:List (Str × V)} (I:Inv X pins σ H s) (e:H a=some (.ext (z3f a fs))):z3f a fs s.heap:=(show ObjOk X.prog X.w H s.heap a (.ext (z3f a fs))from I.hok a _ e).1
theorem Inv.err {x C:Addr} {fs:List (Str × V)} (I:Inv X pins σ H s) (h:z4X H x C fs):∃mA,s.heap.Inst x C mA/\(∀f,RelO (fs.lookup f) (mA f))/\PySem.Within mA (fs.map (·.1)):=by
 rcases h with⟨rfl,h⟩|⟨dx,n,h1,h2⟩
 .obtain⟨o,vs,e,c,d,hd⟩:=I.errT h
  exact⟨fun _=>none,⟨o,e,c,(fun z q=>by rw[d]at q;cases q),.inl ⟨hd,fun _=>rfl⟩⟩,fun f=>trivial,PySem.Within.nil⟩
 .obtain⟨o,vs,e,c,d,hd⟩:=I.errT h1
  obtain⟨mA,hn,r,hw⟩:=I.errD h2
  exact⟨mA,⟨o,e,c,(fun z q=>by rw[d]at q;cases q),.inr ⟨dx,hd,n,hn⟩⟩,r,hw⟩
theorem Inv.excAt {x C:Addr} {fs:List (Str × V)} (I:Inv X pins σ H s) (h:z4X H x C fs):ExcAt x C s.heap:=by
 rcases h with⟨rfl,h⟩|⟨dx,n,h,_⟩
 .obtain⟨o,vs,e,c,_⟩:=I.errT h
  exact⟨o,e,c⟩
 .obtain⟨o,vs,e,c,_⟩:=I.errT h
  exact⟨o,e,c⟩
theorem zAJ:z2a X (.builtin "isinstance") (fun xs H Q=>∃x C fs y u b,xs=[.ref x,y]/\z4X H x C fs/\XE X.K C/\zEd y=some u/\PySem.W.kitOne X.K (.ref C) u=some b/\Q (.bl b) H):=by
 intro pins s σ H xs us Q I r h
 obtain⟨x,C,fs,y,u,b,rfl,hx,Z,hy,e,q⟩:=h
 obtain⟨v,w',rfl,rx,ry⟩:=vals2 r
 cases (show v=Value.ref x from rx)
 cases (zCk hy ry)
 exact PySem.W.kia_one (zBL Z) I.kIn (I.excAt hx) e (fun z=>nomatch z) fun tk=>⟨.bl b,H,I.tok tk,rfl,q⟩
def zDe (K:PySem.W.Frag) (te:TE) (f:Str):TE:=fun σ H Q=>te σ H fun v H1=>∃x C fs z,v=.ref x/\z4X H1 x C fs/\XE K C/\PySem.W.findIn K (.ref C) f=some none/\fs.lookup f=some z/\Q z H1
theorem zCl {e:Expr} {te:TE} {f:Str} {pos:Pos} (he:PE X e te) (hb:attributeBase e f X.env (eval e X.env)=eval e X.env):PE X (.Attribute e f pos) (zDe X.K te f):=by
 intro pins s σ H Q I h
 refine z9H hb (thn (he pins s σ H _ I h) fun u s1 ⟨v,H1,I1,rv,x,C,fs,z,ev,hx,Z,hn,hz,q⟩=>?_)
 subst ev
 obtain rfl:u=Value.ref x:=rv
 obtain⟨mA,hi,rl,_⟩:=I1.err hx
 have r:=rl f
 rw[hz]at r
 cases hm:mA f with
 |none=>rw[hm]at r;exact r.elim
 |some uz=>
  rw[hm]at r
  have r':RelV z uz:=r
  exact zBM I1.kIn Z hn hi hm (PySem.W.handedOut_of (z5p r')) ⟨z,H1,I1.tok _,r',q⟩
def zEf (K:PySem.W.Frag) (ta tv:TE) (f:Str):TS:=fun D σ H=>tv σ H fun y H1=>ta σ H1 fun v H2=>∃x C,v=.ref x/\H2 x=some (.ext (ErrO x C none))/\XE K C/\PySem.W.findIn K (.ref C) f=some none/\
 ∀d,H2 d=none->d≠x->D.nx σ (upd (upd H2 x (.ext (ErrO x C (some d)))) d (.ext (z3f d [(f,y)])))
theorem zCm {o value:Expr} {ta tv:TE} {f:Str} {pos pos':Pos} (ha:PE X o ta) (hv:PE X value tv) (hs:swapsWith value (some (.Attribute o f pos')) pos.line X.env=pure false):PS X (.Assign [.Attribute o f pos'] value pos) (zEf X.K ta tv f):=by
 intro pins s σ H D I h
 refine plainObj_wpAny_Assign_Attribute (thn (hv pins s σ H _ I h) fun u s1 ⟨y,H1,I1,ry,q⟩=>thn (ha pins s1 σ H1 _ I1 q) fun ov s2 ⟨v,H2,I2,rv,x,C,ev,hx,Z,hn,q2⟩=>?_) hs
 subst ev
 obtain rfl:ov=Value.ref x:=rv
 obtain⟨mA,hi,rl,hw⟩:=I2.err (.inl ⟨rfl,.inl hx⟩:z4X H2 x C [])
 have hmA:∀g,mA g=none:=fun g=>by
  have r:=rl g
  cases hm:mA g with
  |none=>rfl
  |some z=>rw[hm]at r;exact r.elim
 refine z6H I2.kIn Z hn hi (fun h' tk' hi' hk hso=>?_) hw (by show 0<=1000;decide)
 obtain⟨o0,vs,e0,c0,d0,hvs,hd0⟩:=I2.errO hx
 obtain⟨o1,g1,g2,g3,_,_,g6⟩:=hso o0 e0
 have g6:=g6 hd0
 have hxlt:x<s2.heap.objs.size:=Heap.lt_size e0
 have hdx:s2.heap.objs.size≠x:=Nat.ne_of_gt hxlt
 have hfree:H2 s2.heap.objs.size=none:=I2.hok.fresh (Nat.le_refl _)
 have keep:∀b u,b≠x->s2.heap.get? b=some u->h'.get? b=some u:=fun b u hb e=>hk b u hb (fun o₀ dx e1 e2=>by
  rw[e0]at e1
  cases e1
  rw[hd0]at e2
  cases e2) e
 have EO:ErrO x C (some s2.heap.objs.size) h':=⟨o1,vs,g1,g2.trans c0,g3.trans d0,hvs,g6⟩
 have J1:Inv X pins σ (upd H2 x (.ext (ErrO x C (some s2.heap.objs.size)))) {s2 with heap:=h',toks:=tk'}:=I2.write (x:=x) (e:=x) (by rw[hx];trivial) (.inl rfl) keep ⟨_,g1⟩ (z3s EO)
 have ED:z3f s2.heap.objs.size [(f,y)] h':=by
  obtain⟨o2,k1,k2,_,k4⟩:=hi'
  rw[g1]at k1
  cases k1
  rcases k4 with⟨z,_⟩|⟨dx,z1,z2,z3⟩
  .rw[g6]at z;cases z
  .rw[g6]at z1
   cases z1
   refine⟨_,z3,fun g=>?_,?_⟩
   .rw[List.lookup_cons]
    by_cases hg:g=f
    .subst hg
     simp only[beq_self_eq_true,if_true]
     exact ry
    .rw[beq_eq_false_iff_ne.mpr hg]
     simp only[hg,if_false,hmA]
     trivial
   .exact Within.cons f u (ns:=[]) (by
     have:mA=fun _=>none:=funext hmA
     rw[this]
     exact Within.nil)
 have Fd:=I2.fpOk (H':=upd H2 x (.ext (ErrO x C (some s2.heap.objs.size)))) (b:=s2.heap.objs.size) (Nat.le_refl _) (by rw[z06 hdx];exact hfree)
 have J2:=J1.adopt (h':=h') (tk:=tk') (o:=.ext (z3f s2.heap.objs.size [(f,y)])) Fd (fun _ _ _ e=>e) (let ⟨_,⟨o,_,_,e,_⟩,_⟩:=ED;⟨o,e⟩) (z82 ED)
 exact⟨σ,_,J2,q2 _ hfree hdx⟩
def zEg (K:PySem.W.Frag) (ta tv:TE) (f:Str):TS:=fun D σ H=>tv σ H fun y H1=>ta σ H1 fun v H2=>∃x C dx fs,v=.ref x/\dx≠x/\H2 x=some (.ext (ErrO x C (some dx)))/\H2 dx=some (.ext (z3f dx fs))/\fs.length<=900/\XE K C/\PySem.W.findIn K (.ref C) f=some none/\
 D.nx σ (upd H2 dx (.ext (z3f dx ((f,y)::fs))))
theorem zCn {o value:Expr} {ta tv:TE} {f:Str} {pos pos':Pos} (ha:PE X o ta) (hv:PE X value tv) (hs:swapsWith value (some (.Attribute o f pos')) pos.line X.env=pure false):PS X (.Assign [.Attribute o f pos'] value pos) (zEg X.K ta tv f):=by
 intro pins s σ H D I h
 refine plainObj_wpAny_Assign_Attribute (thn (hv pins s σ H _ I h) fun u s1 ⟨y,H1,I1,ry,q⟩=>thn (ha pins s1 σ H1 _ I1 q) fun ov s2 ⟨v,H2,I2,rv,x,C,dx,fs,ev,hne,hx,hdx,hfs,Z,hn,q2⟩=>?_) hs
 subst ev
 obtain rfl:ov=Value.ref x:=rv
 obtain⟨o0,vs,e0,c0,d0,hvs,hd0⟩:=I2.errO hx
 obtain⟨mA,hns,rl,hw⟩:=I2.errD hdx
 have hi:s2.heap.Inst x C mA:=⟨o0,e0,c0,(fun z q=>by rw[d0]at q;cases q),.inr ⟨dx,hd0,hne,hns⟩⟩
 refine z6H I2.kIn Z hn hi (fun h' tk' hi' hk hso=>?_) hw (by rw[List.length_map];omega)
 obtain⟨o1,g1,g2,g3,g4,g5,_⟩:=hso o0 e0
 have g5':=g5 dx hd0
 have hx1:h'.get? x=some o0:=by
  obtain⟨c1,d1,da1,sl1⟩:=o1
  obtain⟨c2,d2,da2,sl2⟩:=o0
  have q2':c1=c2:=g2
  have q3:da1=da2:=g3
  have q4:sl1=sl2:=g4
  have q5:d1=d2:=(show d1=some dx from g5').trans (show d2=some dx from hd0).symm
  subst q2' q3 q4 q5
  exact g1
 have keep:∀b u,b≠dx->s2.heap.get? b=some u->h'.get? b=some u:=fun b u hb e=>by
  by_cases hbx:b=x
  .subst hbx
   rw[e0]at e
   cases e
   exact hx1
  .exact hk b u hbx (fun o₀ d' e1 e2=>by
    rw[e0]at e1
    cases e1
    rw[hd0]at e2
    cases e2
    exact hb) e
 have ED:z3f dx ((f,y)::fs) h':=by
  obtain⟨o2,k1,k2,_,k4⟩:=hi'
  rw[hx1]at k1
  cases k1
  rcases k4 with⟨z,_⟩|⟨d',z1,z2,z3⟩
  .rw[hd0]at z;cases z
  .rw[hd0]at z1
   cases z1
   refine⟨_,z3,fun g=>?_,Within.cons f u hw⟩
   rw[List.lookup_cons]
   by_cases hg:g=f
   .subst hg
    simp only[beq_self_eq_true,if_true]
    exact ry
   .rw[beq_eq_false_iff_ne.mpr hg]
    simp only[hg,if_false]
    exact rl g
 exact⟨σ,_,I2.write (x:=dx) (e:=dx) (by rw[hdx];trivial) (.inl rfl) keep (let ⟨_,⟨o,_,_,e,_⟩,_⟩:=ED;⟨o,e⟩) (z82 ED),q2⟩
end
def PF (X:Cx) (e:Expr) (t:St->Hp->Prop):Prop:=∀(pins:List (Addr × Obj)) (s:Shared) (σ:St) (H:Hp),Inv X pins σ H s->t σ H->
 wpAny (model X.prog X.w) X.A (eval e X.env) (fun v s'=>∃y u,v=.str y u/\y.length<=100000/\Inv X pins σ H s') X.xe s
def zEw:V->Prop
 |.non=>True
 |.int a=>a.natAbs.log2<1920
 |_=>False
section
variable {X:Cx}
theorem zAK {z:Str} {j:Nat} {pos:Pos}:PF X (.Constant (.str z) j pos) (fun _ _=>z.length<=100000):=fun pins s σ H I h=>Calls.Constant_str ⟨z,_,rfl,h,I.tok _⟩
theorem zDf {e:Expr} {te:TE} {pos:Pos} (he:PE X e te):PF X (.FormattedValue e (-1) none pos) (fun σ H=>te σ H fun v H'=>zEw v/\H'=H):=by
 intro pins s σ H I h
 refine wpAny_FormattedValue_plain (thn (he pins s σ H _ I h) fun u s1 ⟨v,H1,I1,rv,hf,e1⟩=>?_)
 subst e1
 cases v with
 |non=>
  cases (show u=Value.none from rv)
  exact wpAny_formatField_none ⟨_,_,rfl,by decide,I1.tok _⟩
 |int a=>
  obtain⟨t,rfl⟩:=rv
  have hl:a.natAbs.log2<1920:=hf
  refine wpAny_formatField_int hl ⟨_,_,rfl,?_,I1.tok _⟩
  have:=int_text_length_le (k:=1920) (by decide) hl
  rw[PySem.ofString_length]
  omega
 |_=>exact hf.elim
theorem zCo {e:Expr} {te:TE} {pos:Pos} (he:PE X e te):PF X (.FormattedValue e 114 none pos) (fun σ H=>te σ H fun v H'=>(∃z,v=.str z/\(reprText z).length<=100000)/\H'=H):=by
 intro pins s σ H I h
 refine wpAny_FormattedValue_repr (thn (he pins s σ H _ I h) fun u s1 ⟨v,H1,I1,rv,⟨z,ez,hz⟩,e1⟩=>?_)
 subst e1 ez
 obtain⟨t,rfl⟩:=(show∃t,u=Value.str z t from rv)
 have hz':(reprText z).length<=sizeLine:=Nat.le_trans hz (by decide)
 refine wpAny_pyReprObj_str ?_ hz'
 exact wpAny_formatField_str ⟨_,_,rfl,hz,I1.tok _⟩ ⟨_,_,rfl,hz,I1.tok _⟩ hz'
def PFs (X:Cx) (es:List Expr) (t:St->Hp->Prop):Prop:=∀(pins:List (Addr × Obj)) (σ:St) (H:Hp),t σ H->∀(s:Shared) (acc:Str) (Q:Str->Shared->Prop),Inv X pins σ H s->acc.length+100000*es.length<=sizeLine->
 (∀out s',Inv X pins σ H s'->out.length<=sizeLine->Q out s')->Joins (model X.prog X.w) X.A X.xe (evalEach es X.env) acc Q s
theorem zCp:PFs X [] (fun _ _=>True):=fun _ _ _ _ s acc Q I hz h=>h acc s I (by simpa using hz)
theorem z3t {e:Expr} {es:List Expr} {t u:St->Hp->Prop} (he:PF X e t) (hr:PFs X es u) (hev:evalEach (e::es) X.env=eval e X.env::evalEach es X.env:=by rfl):PFs X (e::es) (fun σ H=>t σ H/\u σ H):=by
 intro pins σ H ⟨h1,h2⟩ s acc Q I hz h
 rw[hev]
 rw[List.length_cons]at hz
 refine thn (he pins s σ H I h1) fun v s1 ⟨y,tk,ev,hy,I1⟩=>⟨y,tk,ev,?_,?_⟩
 .rw[strLen_append]
  omega
 .exact hr pins σ H h2 s1 (acc++y) Q I1 (by rw[strLen_append];omega) h
def zEh (t:St->Hp->Prop):TE:=fun σ H Q=>t σ H/\∀z,Q (.str z) H
theorem zCq {v₁ v₂:Expr} {rest:List Expr} {pos:Pos} {t:St->Hp->Prop} (h:PFs X (v₁::v₂::rest) t) (hl:rest.length<=100:=by decide):PE X (.JoinedStr (v₁::v₂::rest) pos) (zEh t):=by
 intro pins s σ H Q I ⟨ht,hq⟩
 refine wpAny_JoinedStr (h pins σ H ht s Str.empty _ I ?_ fun out s' I' ho=>⟨ho,⟨.str out,H,I'.tok _,⟨_,rfl⟩,hq out⟩⟩)
 have e0:Str.empty.length=0:=by decide
 rw[e0,List.length_cons,List.length_cons,sizeLine_eq]
 omega
structure Gi (K:PySem.W.Frag) (G:Addr):Prop where
 sp:PySem.W.specialIn K (.ref G) "__getattribute__"=some (some (.builtin "type.__getattribute__"))
 rd:PySem.W.readsIn K G (.type "type")=true
 fd:PySem.W.findCls K (.ref G) (.type "type") "__init__"=some (.val (.builtin "ValueError.__init__"))
def zDg (K:PySem.W.Frag) (t:TA):TE:=fun σ H Q=>t σ H fun vs H2=>∃x C d y,vs=[.ref x,y]/\H2 x=some (.ext (ErrO x C d))/\XE K C/\Q .non H2
theorem zDh {H:Hp} {a:Addr} {o:HO} (h:H a=some o):upd H a o=H:=by
 funext b
 unfold upd
 split
 .rename_i e;rw[e,h]
 .rfl
theorem zBP {gn:Str} {G:Addr} {e:Expr} {es:List Expr} {t:TA} {p1 p2 p3:Pos} {pl:Sem Bool} (hg:Gl X gn) (hm:X.mg gn=some (.ref G)) (Z:Gi X.K G) (ha:PA X (e::es) t) (hd:(gn==("__debug__":Str))=false:=by decide)
 (hs:starEach (e::es) X.env=(false,eval e X.env)::starEach es X.env:=by rfl) (hplain:(backTo p3 (starEach es X.env)).any (·.1)=false:=by rfl)
 (ht:eval (.Call (.Attribute (.Name gn p1) "__init__" p2) (e::es) [] p3) X.env=(do
  let ov<-eval (.Name gn p1) X.env
  standAt p2.atName
  let (f,first)<-holding [ov] (getMethod ov "__init__" pl)
  callWith p3 f first (backTo p3 (starEach (e::es) X.env)) (backToKw p3 (keywordEach [] X.env))):=by rfl):
 PE X (.Call (.Attribute (.Name gn p1) "__init__" p2) (e::es) [] p3) (zDg X.K t):=by
 intro pins s σ H Q I h
 refine PySem.W.methodCall_KW (pl:=pl) (z2c I hg hm ?_ hd) ht
 refine PySem.W.method_cls I.kIn Z.sp ?_
 refine PySem.W.cls_value I.kIn Z.rd Z.fd rfl ?_
 have hA:=ha p3 pins _ σ H _ (I.tok (s.toks+1)) h
 rw[hs]at hA⊢
 refine Calls.callWith_builtin (by show(false||(backTo p3 (starEach es X.env)).any (·.1))=false;rw[hplain]<;>rfl) (Calls.evalArgs_plain ?_)
 refine thn hA fun us s1 ⟨vs,H2,I1,r,x,C,d,y,ev,hx,ZC,q⟩=>?_
 subst ev
 obtain⟨u1,u2,rfl,r1,r2⟩:=vals2 r
 cases (show u1=Value.ref x from r1)
 refine zAH I1.kIn ZC (I1.errO hx) (by show 1<=sizeLine;decide) fun h' hk ho=>?_
 have J:=I1.write (x:=x) (e:=x) (t':=s1.toks) (by rw[hx];trivial) (.inl rfl) (fun b u hb z=>hk b u hb z) (let ⟨o,_,z,_⟩:=ho;⟨o,z⟩) (z3s ho)
 rw[zDh hx]at J
 exact⟨.non,H2,J,rfl,q⟩
structure Ei (K:PySem.W.Frag) (C fI:Addr):Prop where
 x:XE K C
 kp:PySem.W.keepIn K (.ref C)=true
 fi:PySem.W.findIn K (.ref C) "__init__"=some (some (.ref fI))
 fn:PySem.W.typeIn K (.ref fI)=some (.type "function")
theorem Inv.newErr {pins:List (Addr × Obj)} {σ:St} {H:Hp} {s:Shared} {C:Addr} {us:List Value} (I:Inv X pins σ H s):Inv X pins σ (upd H (s.heap.objs.size+1) (.ext (ErrO (s.heap.objs.size+1) C none))) {s with heap:=zBN s.heap C us,toks:=s.toks}:=
 I.laid (t':=s.toks) (fun b u e=>z4I e) (Nat.le_succ _) (z3s zAI)
structure Eo (K:PySem.W.Frag) (C:Addr):Prop where
 x:XE K C
 kp:PySem.W.keepIn K (.ref C)=true
 fi:PySem.W.findIn K (.ref C) "__init__"=some (some (.builtin "ValueError.__init__"))
end
section
variable {X:Cx}
end
noncomputable def veB:List Value->Bool
 |.ref _::r=>veB r
 |[.type a,.type b,.type c,.type d]=>a=="ValueError"&&b=="Exception"&&c=="BaseException"&&d=="object"
 |_=>false
theorem z83:∀{l:List Value},veB l=true->VeTail l
 |.ref c::r,e=>.step (z83 (l:=r) e)
 |[.type a,.type b,.type c,.type d],e=>by
  simp only[veB,Bool.and_eq_true,beq_iff_eq]at e
  obtain⟨⟨⟨rfl,rfl⟩,rfl⟩,rfl⟩:=e
  exact .base
noncomputable def xeB (K:PySem.W.Frag) (C:Addr):Bool:=
 (match K.lookup C with
 |some ⟨.type "type",_,.cls cd,⟨[_,_,_,_,some (.builtin n),_]⟩⟩=>(match cd.mro with
  |.ref C'::bm=>decide (C'=C)&&(n=="ValueError.__new__"&&(cd.hasDel==false&&(cd.hasDict&&(veB bm&&(PySem.W.tailIn K zAF bm&&PySem.W.nsOkIn K cd.ns)))))
  |_=>false)
 |_=>false)&&
 (PySem.W.findIn K (.ref C) "__getattribute__"==some (some (.builtin "BaseException.__getattribute__"))&&(PySem.W.findIn K (.ref C) "__getattr__"==some none&&(PySem.W.findIn K (.ref C) "__setattr__"==some (some (.builtin "object.__setattr__"))&&
 (PySem.W.findIn K (.ref C) "__class__"==some (some (.builtin "object.__class__"))&&(PySem.W.specialIn K (.builtin "object.__class__") "__get__"==some (some (.builtin "getset_descriptor.__get__"))&&(PySem.W.takesIn K (.builtin "object.__class__")==some true&&
 (PySem.W.mroIn K C (.type "object")==some true&&PySem.W.keepIn K (.ref C))))))))
theorem z84 {K:PySem.W.Frag} {C:Addr} (h:xeB K C=true):XE K C/\PySem.W.keepIn K (.ref C)=true:=by
 unfold xeB at h
 simp only[Bool.and_eq_true,beq_iff_eq]at h
 obtain⟨h0,h1,h2,h3,h4,h5,h6,h7,h8⟩:=h
 refine⟨⟨?_,h1,h2,h3,h4,h5,h6,h7⟩,h8⟩
 split at h0
 .rename_i dd cd k0 k1 k2 k3 n k5 lk
  split at h0
  .rename_i C' bm hm
   simp only[Bool.and_eq_true,beq_iff_eq,decide_eq_true_eq]at h0
   obtain⟨rfl,rfl,e1,e2,e3,e4,e5⟩:=h0
   exact⟨dd,cd,k0,k1,k2,k3,k5,bm,lk,hm,e1,e2,z83 e3,e4,e5⟩
  .cases h0
 .cases h0
noncomputable def zC8 (K:PySem.W.Frag) (cs:List Addr) (G:Addr):Bool:=
 (List.range cs.length).all fun i=>((List.range cs.length).all fun j=>PySem.W.kitOne K (.ref (cs.getD i 0)) (.ref (cs.getD j 0))==some (decide (i=j)))&&
  (PySem.W.kitOne K (.ref (cs.getD i 0)) (.ref G)==some true&&PySem.W.kitOne K (.ref (cs.getD i 0)) (.type "ValueError")==some true)
structure Kits (K:PySem.W.Frag) (cs:List Addr) (G:Addr) (i:Nat):Prop where
 one:∀j,j<cs.length->PySem.W.kitOne K (.ref (cs.getD i 0)) (.ref (cs.getD j 0))=some (decide (i=j))
 g:PySem.W.kitOne K (.ref (cs.getD i 0)) (.ref G)=some true
 v:PySem.W.kitOne K (.ref (cs.getD i 0)) (.type "ValueError")=some true
theorem zAL {K:PySem.W.Frag} {cs:List Addr} {G:Addr} (h:zC8 K cs G=true):∀i,i<cs.length->Kits K cs G i:=fun i hi=>by
 have h1:=List.all_eq_true.mp h i (List.mem_range.mpr hi)
 simp only[Bool.and_eq_true,beq_iff_eq]at h1
 exact⟨fun j hj=>by simpa using List.all_eq_true.mp h1.1 j (List.mem_range.mpr hj),h1.2.1,h1.2.2⟩
structure Oe (P:Program) (w:World) (K:PySem.W.Frag) (mg:Str->Option Value) (base:Heap) (x:Str) (C:Addr) (ps:List Str) (k:Nat) (sp:Sp):Prop where
 ex:∃(fI:Addr) (fd:FuncData),mg x=some (.ref C)/\Ei K C fI/\Binds K fd ps []/\FnOk P w K mg base CX0 k fI fd ps sp
structure Oo (K:PySem.W.Frag) (mg:Str->Option Value) (x:Str) (C:Addr):Prop where
 m:mg x=some (.ref C)
 e:Eo K C
section
variable {X:Cx} {k j:Nat} {ps:List Str} {sp:Sp} {x:Str} {C:Addr} {p pos:Pos} {e:Expr} {es:List Expr} {t:TA}
end
def zE6 (C:Addr) (f g:Str):Sp:=fun vs H Q _=>∃x z v,vs=[.ref x,.str z,v]/\H x=some (.ext (ErrO x C none))/\(reprText z).length<=100000/\zEw v/\
 ∀d,H d=none->d≠x->Q .non (upd (upd H x (.ext (ErrO x C (some d)))) d (.ext (z3f d [(g,v),(f,.str z)])))
structure Errs (H:Hp) (l:Addr) (xs cs:List Addr) (fs:List (List (Str × V))):Prop where
 lst:H l=some (.lst (xs.map V.ref))
 len:xs.length=15
 one:∀i,i<15->z4X H (xs.getD i 0) (cs.getD i 0) (fs.getD i [])
theorem Errs.get {H:Hp} {l:Addr} {xs cs:List Addr} {fs:List (List (Str × V))} (h:Errs H l xs cs fs) {i:Nat} (hi:i<15):atI (xs.map V.ref) ((i:Nat):Int)=some (.ref (xs.getD i 0)):=by
 refine z0x ?_
 have:i<xs.length:=by have:=h.len;omega
 rw[List.getElem?_map,List.getElem?_eq_getElem this,List.getD_eq_getElem?_getD,List.getElem?_eq_getElem this]
 rfl
def DK {α:Type}:Sem α->Prop
 |.pure _|.raise _|.unsupported _|.finish _|.register ..|.yield ..|.fork ..|.await ..=>True
 |.rule _ k|.at _ k|.point _ k=>DK (k ())
 |.load _ _ k=>∀o,DK (k o)
 |.update _ _ f k=>(∀o:Obj,(f o).dict=o.dict)/\DK (k ())
 |.loadIfAlive _ k=>∀o,DK (k o)
 |.alloc _ k=>∀a,DK (k a)
 |.fresh k=>∀t,DK (k t)
 |.ask k=>∀x,DK (k x)
 |.choose _ _ k=>∀n,DK (k n)
 |.os _ _ k=>∀r,DK (k r)
 |.call ..|.resume ..=>False
 |.handled _ k=>∀x,DK (k x)
 |.genState _ k=>∀x,DK (k x)
 |.newGen _ k=>∀n,DK (k n)
 |.stack k=>∀l,DK (k l)
 |.thread k=>∀n,DK (k n)
def RK (h h':Heap):Prop:=∀(b:Addr) (o:Obj),h.objs[b]?=some o->∃o',h'.objs[b]?=some o'/\o'.dict=o.dict
theorem RK.refl (h:Heap):RK h h:=fun _ o e=>⟨o,e,rfl⟩
theorem RK.trans {a b c:Heap} (x:RK a b) (y:RK b c):RK a c:=fun p o e=>
 let ⟨_,e1,d1⟩:=x p o e;let ⟨o2,e2,d2⟩:=y p _ e1;⟨o2,e2,d2.trans d1⟩
theorem RK.push (h:Heap) (u:Obj):RK h (h.push u):=fun b o e=>⟨o,by
 obtain⟨objs,l⟩:=h
 show(objs.push u)[b]?=some o
 have e':objs[b]?=some o:=e
 have:b<objs.size:=(Array.getElem?_eq_some_iff.mp e').1
 rw[Array.getElem?_push_lt this]
 rw[Array.getElem?_eq_getElem this]at e'
 exact e',rfl⟩
theorem RK.update (h:Heap) (a:Addr) (f:Obj->Obj) (hf:∀o:Obj,(f o).dict=o.dict):RK h (h.update a f):=fun b o e=>by
 obtain⟨objs,l⟩:=h
 have e':objs[b]?=some o:=e
 by_cases z:a=b
 .subst z
  exact⟨f o,by show(objs.modify a f)[a]?=_;rw[Array.getElem?_modify,if_pos rfl,e'];rfl,hf o⟩
 .exact⟨o,by show(objs.modify a f)[b]?=_;rw[Array.getElem?_modify,if_neg z];exact e',rfl⟩
theorem RK.get {h h':Heap} (r:RK h h') {b:Addr} {o o':Obj} (e:h.get? b=some o) (e':h'.get? b=some o'):o'.dict=o.dict:=by
 have raw:∀{g:Heap} {u:Obj},g.get? b=some u->g.objs[b]?=some u:=fun{g u} q=>by
  unfold Heap.get? at q
  split at q
  .cases q
  .exact q
 obtain⟨o1,e1,d1⟩:=r b o (raw e)
 rw[raw e']at e1
 cases e1
 exact d1
theorem zEi {α:Type} {M:Model} {Γ:PySem.Ctx}:∀(t:Sem α) {Q:α->Pos->Shared->Prop} {E:Value->Pos->Shared->Prop} {p:Pos} {s:Shared},DK t->Sem.wp M Γ t Q E p s->
 Sem.wp M Γ t (fun a p' s'=>Q a p' s'/\RK s.heap s'.heap) (fun e p' s'=>E e p' s'/\RK s.heap s'.heap) p s:=by
 intro t
 induction t with
 |pure a=>intro Q E p s _ h;exact⟨h,RK.refl _⟩
 |raise e=>intro Q E p s _ h;exact⟨h,RK.refl _⟩
 |unsupported w=>intro Q E p s _ h;exact h
 |finish e=>intro Q E p s _ h;exact h
 |rule t k ih=>intro Q E p s d h;exact ih () d h
 |«at» q k ih=>intro Q E p s d h;exact ih () d h
 |load a q k ih=>intro Q E p s d h;obtain⟨o,e,h⟩:=h;exact⟨o,e,ih o (d o) h⟩
 |update a q f k ih=>
  intro Q E p s d h
  refine⟨h.1,?_⟩
  have r:=RK.update s.heap a f d.1
  exact Sem.wp_mono M Γ _ (fun _ _ _ z=>⟨z.1,r.trans z.2⟩) (fun _ _ _ z=>⟨z.1,r.trans z.2⟩) _ _ (ih () d.2 h.2)
 |alloc o k ih=>
  intro Q E p s d h
  have r:=RK.push s.heap o
  exact Sem.wp_mono M Γ _ (fun _ _ _ z=>⟨z.1,r.trans z.2⟩) (fun _ _ _ z=>⟨z.1,r.trans z.2⟩) _ _ (ih _ (d _) h)
 |loadIfAlive a k ih=>intro Q E p s d h;exact ih _ (d _) h
 |point l k ih=>intro Q E p s d h;exact ih () d h
 |register a k ih=>intro Q E p s d h;exact h
 |fresh k ih=>intro Q E p s d h;exact ih _ (d _) h
 |ask k ih=>intro Q E p s d h;exact ih _ (d _) h
 |choose a n k ih=>intro Q E p s d h;exact⟨h.1,ih _ (d _) h.2⟩
 |os a l k ih=>intro Q E p s d h;exact ih _ (d _) h
 |call c a g l k ih=>intro Q E p s d h;exact d.elim
 |handled o k ih=>intro Q E p s d h;exact ih _ (d _) h
 |newGen c k ih=>intro Q E p s d h;exact ih _ (d _) h
 |genState g k ih=>intro Q E p s d h;obtain⟨st,e,h⟩:=h;exact⟨st,e,ih _ (d _) h⟩
 |resume g r l k ih=>intro Q E p s d h;exact d.elim
 |yield v g l k ih=>intro Q E p s d h;exact h
 |stack k ih=>intro Q E p s d h;exact ih _ (d _) h
 |fork c k ih=>intro Q E p s d h;exact h
 |thread k ih=>intro Q E p s d h;exact ih _ (d _) h
 |await a k ih=>intro Q E p s d h;exact h
theorem z6I {α:Type} {M:Model} {A:Around} {E:Value->Shared->Prop} {s:Shared} {t:Sem α} {Q:α->Shared->Prop} (d:DK t) (h:wpAny M A t Q E s):wpAny M A t (fun a s'=>Q a s'/\RK s.heap s'.heap) (fun e s'=>E e s'/\RK s.heap s'.heap) s:=
 fun Γ p hΓ=>zEi t d (h Γ p hΓ)
theorem zCr {α β:Type}:∀(t:Sem α) (f:α->Sem β),DK t->(∀a,DK (f a))->DK (t.bind f):=by
 intro t f
 induction t with
 |pure a=>intro _ h;exact h a
 |raise e=>intro _ _;trivial
 |unsupported w=>intro _ _;trivial
 |finish e=>intro _ _;trivial
 |rule t k ih=>intro d h;exact ih () d h
 |«at» q k ih=>intro d h;exact ih () d h
 |load a q k ih=>intro d h o;exact ih o (d o) h
 |update a q g k ih=>intro d h;exact⟨d.1,ih () d.2 h⟩
 |alloc o k ih=>intro d h a;exact ih a (d a) h
 |loadIfAlive a k ih=>intro d h o;exact ih o (d o) h
 |point l k ih=>intro d h;exact ih () d h
 |register a k ih=>intro _ _;trivial
 |fresh k ih=>intro d h o;exact ih o (d o) h
 |ask k ih=>intro d h o;exact ih o (d o) h
 |choose a n k ih=>intro d h o;exact ih o (d o) h
 |os a l k ih=>intro d h o;exact ih o (d o) h
 |call c a g l k ih=>intro d h;exact d.elim
 |handled o k ih=>intro d h o;exact ih o (d o) h
 |newGen c k ih=>intro d h o;exact ih o (d o) h
 |genState g k ih=>intro d h o;exact ih o (d o) h
 |resume g r l k ih=>intro d h;exact d.elim
 |yield v g l k ih=>intro _ _;trivial
 |stack k ih=>intro d h o;exact ih o (d o) h
 |fork c k ih=>intro _ _;trivial
 |thread k ih=>intro d h o;exact ih o (d o) h
 |await a k ih=>intro _ _;trivial
theorem z0Q {α β:Type} {t:Sem α} {f:α->Sem β} (d:DK t) (h:∀a,DK (f a)):DK (t>>=f):=zCr t f d h
theorem z1I {α:Type} (a:α):DK (pure a:Sem α):=trivial
theorem z3E {α:Type} (w:String):DK (unsupported w:Sem α):=trivial
theorem z78 (a:Addr):DK (load a):=fun _=>trivial
theorem z85:DK stack:=fun _=>trivial
theorem z4Y (f:Array Value->Array Value) (o:Obj):(Obj.mapFields f o).dict=o.dict:=by
 obtain⟨c,d,dt,sl⟩:=o
 cases dt<;>rfl
theorem z3u (v:Value) (i:Nat):DK (field v i):=by
 unfold field
 refine z0Q ?_ fun a=>?_
 .unfold fieldsOf
  split
  .refine z0Q (z78 _) fun o=>?_
   split
   .exact z1I _
   .exact z3E _
  .exact z3E _
 .split
  .exact z1I _
  .exact z3E _
theorem z4Z (a:Addr) (i:Nat) (v:Value):DK (updateField a i v):=by
 unfold updateField
 refine z0Q (z78 _) fun o=>?_
 split
 .split
  .exact⟨z4Y _,trivial⟩
  .exact z3E _
 .exact z3E _
theorem z30 (v:Value) (i:Nat) (x:Value):DK (setField v i x):=by
 unfold setField
 split
 .exact z4Z _ _ _
 .exact z3E _
theorem z2j (e:Value) (f:Option Addr):DK (setFlight e f):=by
 unfold setFlight
 refine z0Q (z3u _ _) fun tb=>?_
 split
 .exact z30 _ _ _
 .exact z1I _
theorem z79 (a b c d e:Value) (pl:List Value):DK (EntryCells.newEntry a b c d e pl):=by
 unfold EntryCells.newEntry newFields newObj
 generalize ([a,b,c,d,e]++(if pl.isEmpty then List.replicate 6 Value.none else pl)).toArray=arr
 dsimp only
 by_cases h:arr.size>sizeLine+2
 .rw[if_pos h]
  trivial
 .rw[if_neg h]
  exact fun _=>trivial
theorem zBQ:DK underTheClaimsCaller:=fun _=>trivial
theorem zAM (env:Env) (outer:List Env):DK (behindIsImport env outer):=by
 unfold behindIsImport
 split
 .exact z1I _
 .split
  .exact z1I _
  .exact z0Q (z3u _ _) fun _=>z1I _
theorem zCs (env:Env) (b:Bool) (l:List Env):DK (keptBack env b l):=by
 cases l with
 |nil=>
  show DK (if env.scope.isGenerator||env.scope.isCoroutine then pure Value.none else do return if<-underTheClaimsCaller then Value.notImplemented else Value.none)
  split
  .exact z1I _
  .exact z0Q zBQ fun _=>z1I _
 |cons c l=>exact z1I _
theorem z86:∀l:List Env,DK (readyFrames l)
 |[]=>trivial
 |env::outer=>by
  unfold readyFrames
  split
  .refine z0Q (z78 _) fun o=>?_
   split
   .exact z1I _
   .refine z0Q (zAM _ _) fun b=>z0Q (zCs _ _ _) fun v=>z0Q ?_ fun _=>z86 outer
    exact⟨fun _=>rfl,trivial⟩
  .exact z3E _
theorem z8d (env:Env):DK (PySem.frameOf env):=by
 unfold PySem.frameOf
 refine z0Q (z0Q z85 fun _=>z1I _) fun l=>z0Q ?_ fun r=>?_
 .generalize l.dropWhile (·.frame !=env.frame)=l'
  cases l' with
  |nil=>exact z1I _
  |cons e l'=>exact z0Q (z86 _) fun _=>z1I _
 .split
  .exact z1I _
  .exact z3E _
theorem zBR (f:Addr) (b:Bool):DK (entryPlaceOf f b):=by
 unfold entryPlaceOf
 refine z0Q z85 fun l=>?_
 split<;>exact z1I _
theorem zAN (e:Value) (env:Env):DK (noteFrame e env):=by
 have tail:∀f head,DK (do setField e 1 (<-EntryCells.newEntry head (<-PySem.frameOf env) .none (rawInt f) .none (<-entryPlaceOf f (head !=.none)))):=fun f head=>
  z0Q (z8d _) fun _=>z0Q (zBR _ _) fun _=>z0Q (z79 _ _ _ _ _ _) fun _=>z30 _ _ _
 unfold noteFrame
 split
 .refine z0Q (z3u _ _) fun head=>?_
  split
  .refine z0Q (z3u _ _) fun x=>?_
   split
   .exact z1I _
   .exact z0Q (z30 _ _ _) fun _=>tail _ _
  .exact tail _ _
 .exact z3E _
theorem z4r (env:Env) (e:Value):DK (leaving env e):=z0Q (zAN _ _) fun _=>z2j _ _
noncomputable def del (H:Hp) (a:Addr):Hp:=fun b=>if b=a then none else H b
theorem zBS {H:Hp} {a:Addr}:del H a a=none:=if_pos rfl
theorem z87 {H:Hp} {a b:Addr} (h:b≠a):del H a b=H b:=if_neg h
theorem zBT {H:Hp} {a b:Addr} (h:H b=none):del H a b=none:=by
 unfold del
 split
 .rfl
 .exact h
def CX2 (P:Program) (w:World):CXT:=fun st H s E e s'=>∃(a t C:Addr) (B:Heap) (H':Hp) (d:Option Addr),e=.ref a/\s'.os=s.os/\AllBare s'.gens/\s.heap.objs.size<=a/\Fly P w st H H' B a C t s.heap s'.heap/\(∃o,s'.heap.get? a=some o/\o.dict=d)/\E (.ref C) d H'
section
variable {X:Cx} {pins:List (Addr × Obj)} {σ:St} {H H':Hp} {s:Shared}
theorem Fly.firstE {x C t:Addr} {d:Option Addr} {h':Heap} (I:Inv X pins σ H s) (hst:X.stack=X.env::X.outer) (hf:X.env.frame=some X.env.locals) (hex:X.ex=[]) (hx:H x=some (.ext (ErrO x C d))) (hsz:X.s₀.heap.objs.size<=x)
 (fl:Heap.FlyingW (PySem.W.hideAll s.heap (x::frs X.stack)) X.outer x (.ref C) (.ref t) h') (sm:s.heap.UpToSlots h'):Fly X.prog X.w X.outer X.H₀ (del H x) (PySem.W.hideAll s.heap (x::frs X.stack)) x C t X.s₀.heap h':=by
 have hS:frs X.stack=X.env.locals::frs X.outer:=by rw[hst];exact z5M hf
 have hxx:∀b,b∉X.ex:=fun b=>by rw[hex];exact nin
 have ne:∀b o,X.s₀.heap.get? b=some o->b≠X.env.locals:=fun b o e=>Nat.ne_of_lt (Nat.lt_of_lt_of_le (Heap.lt_size e) I.ok.above)
 have nx:∀b o,X.s₀.heap.get? b=some o->b≠x:=fun b o e=>Nat.ne_of_lt (Nat.lt_of_lt_of_le (Heap.lt_size e) hsz)
 have out:∀b o,X.s₀.heap.get? b=some o->b∉frs X.outer->b∉x::frs X.stack:=fun b o e n hb=>by
  rcases List.mem_cons.mp hb with z|hb
  .exact nx b o e z
  rw[hS]at hb
  rcases List.mem_cons.mp hb with z|z
  .exact ne b o e z
  .exact n z
 have kB:∀b o,X.s₀.heap.get? b=some o->X.H₀ b=none->b∉frs X.outer->(PySem.W.hideAll s.heap (x::frs X.stack)).get? b=some o:=fun b o e n nb=>PySem.W.hideAll_get _ (I.base.keep b o e n nb (hxx b)) (out b o e nb)
 have tB:∀b o,X.s₀.heap.get? b=some o->b∉frs X.outer->∃o',(PySem.W.hideAll s.heap (x::frs X.stack)).get? b=some o':=fun b o e nb=>by
  obtain⟨o',e'⟩:=I.base.there b o e (hxx b)
  exact⟨o',PySem.W.hideAll_get _ e' (out b o e nb)⟩
 have sl:∀b o,X.s₀.heap.get? b=some o->X.H₀ b=none->b∈frs X.outer->∃sl,h'.get? b=some {o with slots:=sl}:=fun b o e n hb=>by
  obtain⟨s1,e1⟩:=I.base.slot b o e n hb (hxx b)
  obtain⟨_,o',ho',hd⟩:=I.ok.funs.mem hb
  rw[e]at ho'
  cases ho'
  obtain⟨s3,e3⟩:=sm b _ e1 hd
  exact⟨s3,e3⟩
 have dn:∀{b:Addr} {u:HO},H b=some u->(∀φ,u≠.ext φ)->del H x b=some u:=fun{b u} e n=>by
  rw[z87]
  .exact e
  .rintro rfl
   rw[hx]at e
   cases e
   exact n _ rfl
 refine⟨⟨fun b o e n nb _=>fl.1 b o (kB b o e n nb),fun b o e n hb _=>sl b o e n hb,fun b o e n _=>zBT (I.base.free b o e n (hxx b)),fun b o e _=>?_,fun b xs e=>dn (I.base.tups b xs e) (fun φ z=>nomatch z),fun b o u e=>dn (I.base.frzs b o u e) (fun φ z=>nomatch z),
  fun b ps e=>let ⟨m,q⟩:=I.base.tbls b ps e;⟨m,dn q (fun φ z=>nomatch z)⟩⟩,kB,tB,fun b u q=>?_,fl⟩
 .by_cases hb:b∈frs X.outer
  .obtain⟨s1,e1⟩:=sl b o e (I.ok.frf b hb) hb
   exact⟨_,e1⟩
  .obtain⟨o',e'⟩:=tB b o e hb
   exact⟨o',fl.1 b o' e'⟩
 .have hbx:b≠x:=fun z=>by rw[z,zBS]at q;cases q
  rw[z87 hbx]at q
  refine(I.hok b u q).stay (fun c v hc e=>PySem.W.hideAll_get _ e fun hm=>?_) (fun _ z=>dn z (fun φ z=>nomatch z)) fun _ _ z=>dn z (fun φ z=>nomatch z)
  rcases List.mem_cons.mp hm with rfl|hm
  .rcases hc with z|z
   .exact hbx z.symm
   .rw[hx]at z;cases z
  .have n:=I.stkFree c hm
   rcases hc with z|z
   .rw[z,q]at n
    cases n
   .rw[z]at n
    cases n
end
section
variable {P:Program} {w:World} {K:PySem.W.Frag} {mg:Str->Option Value} {base:Heap} {N:List Str} {qual:Str} {scope:Scope} {f:Addr} {cd:Value} {A:Around} {outer:List Env} {s:Shared} {H:Hp} {E:XK}
theorem z5N:z2I (CX2 P w) (z9K (CX2 P w) P w K mg base N qual scope f cd A outer s H E) E:=by
 intro pins σ H1 s1 e s' I h
 obtain⟨a,t,C,B,H',d,rfl,os,bare,sz,F,⟨o,eo,ed⟩,q⟩:=h
 show wpAny (model P w) (A.deeper (envOfC qual scope s.heap.objs.size f cd)) (leaving (envOfC qual scope s.heap.objs.size f cd) (.ref a)) _ _ s'
 refine wpAny_mono (z6I (z4r _ _) (wpAny_leaves_onW (E:=fun _ _=>False) (Q:=fun _ s''=>∃h',s''={s' with heap:=h'}/\Heap.FlyingW B outer a (.ref C) (.ref t) h'/\s'.heap.UpToSlots h') I.ok.frames rfl F.fl fun h' fl sm=>⟨h',rfl,fl,sm⟩)) (fun _ s'' h2=>?_) fun _ _ z=>z.1.elim
 obtain⟨⟨h',rfl,fl,sm⟩,rk⟩:=h2
 obtain⟨o',eo',_⟩:=fl.there
 exact⟨a,t,C,B,H',d,rfl,os.trans I.os,bare,Nat.le_trans I.sz sz,Fly.leave I rfl rfl rfl F fl sm,⟨o',eo',(rk.get eo eo').trans ed⟩,q⟩
theorem z4s {X:Cx}:z2I (CX2 P w) X E0:=fun _ _ _ _ _ _ _ h=>by
 obtain⟨_,_,_,_,_,_,_,_,_,_,_,_,h⟩:=h
 exact h.elim
def z7A (X:Cx) (E:XK):Prop:=∀(pins:List (Addr × Obj)) (σ:St) (H:Hp) (s:Shared) (x C:Addr) (d:Option Addr),Inv X pins σ H s->H x=some (.ext (ErrO x C d))->X.s₀.heap.objs.size<=x->E (.ref C) d (del H x)->X.xe (.ref x) s
theorem z31:z7A (z9K (CX2 P w) P w K mg base N qual scope f cd A outer s H E) E:=by
 intro pins σ H1 s1 x C d I hx hsz q
 have hin:∀env∈(envOfC qual scope s.heap.objs.size f cd::outer),∀b,env.frame=some b->b∈x::frs (envOfC qual scope s.heap.objs.size f cd::outer):=fun env he b hb=>List.mem_cons_of_mem _ (List.mem_filterMap.mpr ⟨env,he,hb⟩)
 obtain⟨o,vs,eo,hc,hd,⟨⟨t,h0⟩,h1⟩,hdi⟩:=I.errO hx
 show wpAny (model P w) (A.deeper (envOfC qual scope s.heap.objs.size f cd)) (leaving (envOfC qual scope s.heap.objs.size f cd) (.ref x)) _ _ s1
 refine wpAny_mono (z6I (z4r _ _) (wpAny_leaving_firstW (E:=fun _ _=>False) (base:=PySem.W.hideAll s1.heap (x::frs (envOfC qual scope s.heap.objs.size f cd::outer)))
  (Q:=fun _ s''=>∃h',s''={s1 with heap:=h'}/\Heap.LeftW (PySem.W.hideAll s1.heap (x::frs (envOfC qual scope s.heap.objs.size f cd::outer))) (envOfC qual scope s.heap.objs.size f cd::outer) x o.cls (.ref t) s1.heap h')
  I.ok.frames (PySem.W.funFrames_hide I.stack hin) rfl eo (fun b o z=>PySem.W.of_hideAll _ z) (PySem.W.hideAll_none _ List.mem_cons_self) hd h1 h0 fun h' hL=>⟨h',rfl,hL⟩)) (fun _ s'' h2=>?_) fun _ _ z=>z.1.elim
 obtain⟨⟨h',rfl,k1,⟨_,_,k2⟩,k3,k4⟩,rk⟩:=h2
 rw[hc]at k3
 have fl:Heap.FlyingW (PySem.W.hideAll s1.heap (x::frs (envOfC qual scope s.heap.objs.size f cd::outer))) outer x (.ref C) (.ref t) h':=⟨k1,PySem.W.hideAll_none _ List.mem_cons_self,k2,k3⟩
 obtain⟨o',eo',_⟩:=fl.there
 exact⟨x,t,C,_,_,d,rfl,I.os,I.bare,hsz,Fly.firstE I rfl rfl rfl hx hsz fl k4,⟨o',eo',(rk.get eo eo').trans hdi⟩,q⟩
end
section
variable {X:Cx} {pins:List (Addr × Obj)} {σ:St}
theorem z3F {s:Shared} {m:Sem Value} {Q:Flow->Shared->Prop} {E:Value->Shared->Prop} {M:Model} {A:Around} {env:Env} {K:PySem.W.Frag} (hh:A.handled=none)
 (h:wpAny M A m (fun v s1=>∃x C d,v=.ref x/\K.In s1.heap/\XE K C/\ErrO x C d s1.heap/\E (.ref x) s1) E s):wpAny M A (raiseStmt env (some m) none) Q E s:=by
 unfold raiseStmt
 refine wpAny_bind (wpAny_mono h (fun v s1 h1=>?_) fun _ _ z=>z)
 obtain⟨x,C,d,rfl,X,Z,⟨o,vs,eo,hc,hd,⟨⟨t,h0⟩,h1⟩,hdi⟩,hE⟩:=h1
 obtain⟨bm,N,nm,qn,bs,sn,sub,ab,col,dd,k0,k1,k2,k3,k5,mN,hC,hN,T,_⟩:=XE.obj X Z
 have hcB:(Value.ref C::bm).contains (.type "BaseException")=true:=by
  rw[List.contains_cons,T.hasType (X:="BaseException") (b:=true) (by decide+kernel)]
  rfl
 obtain⟨hp,g,dr,tk,os⟩:=s1
 obtain⟨oc,od,odt,osl⟩:=o
 cases (show oc=.ref C from hc)
 cases (show odt=.fields vs from hd)
 have f1:∀{Q':Unit->Shared->Prop},Q' () ⟨hp,g,dr,tk,os⟩->wpAny M A (setFlight (.ref x) none) Q' E ⟨hp,g,dr,tk,os⟩:=fun{Q'} q=>by
  unfold setFlight
  refine wpAny_bind (wpAny_field eo rfl h1 ?_)
  rw[if_neg (by decide)]
  exact wpAny_pure q
 repeat (first|with_reducible refine wpAny_loadPart_at eo ?_|with_reducible refine wpAny_loadPart_at hC ?_|(with_reducible refine wpAny_isSubtype_exc hC ?_;rw[hcB])|(with_reducible refine wpAny_bind (f1 ?_))|wp_step)
 exact wpAny_raiseNew_none hh hE
theorem zDi {x:Str} {C fI:Addr} {k:Nat} {fd:FuncData} {ps:List Str} {sp:Sp} {e:Expr} {es:List Expr} {t:TA} {p pos:Pos} {s:Shared} {H:Hp} {Q':Addr->Hp->Prop} (M:Ei X.K C fI) (F:FnOk X.prog X.w X.K X.mg X.base CX0 k fI fd ps sp) (hr:Room (k+1) X.A) (hg:Gl X x) (hm:X.mg x=some (.ref C)) (hb:Binds X.K fd ps [])
 (ha:PA X (e::es) t) (I:Inv X pins σ H s) (h:t σ H fun vs H1=>vs.length<=1000/\∀x,H1 x=none->sp (.ref x::vs) (upd H1 x (.ext (ErrO x C none))) (fun v H2=>v=.non/\Q' x H2) E0)
 (hdb:(x==("__debug__":Str))=false:=by decide) (he:starEach (e::es) X.env=(false,eval e X.env)::starEach es X.env:=by rfl) (hpl:(backTo pos (starEach es X.env)).any (·.1)=false:=by rfl):
 wpAny (model X.prog X.w) X.A (eval (.Call (.Name x p) (e::es) [] pos) X.env) (fun u s'=>∃a H',u=.ref a/\X.s₀.heap.objs.size<=a/\Inv X pins σ H' s'/\Q' a H') X.xe s:=by
 refine wpAny_Call_Name_kw (z2c I hg hm ?_ hdb)
 refine PySem.W.callWith_K (h₀:=X.base) I.ok.mod.kin M.kp (thn (ha pos pins s σ H _ I h) fun us s1 ⟨vs,H1,I1,r,hz,q⟩=>⟨I1.kIn,?_⟩) he hpl
 have hq:=q (s1.heap.objs.size+1) (I1.hok.fresh (Nat.le_succ _))
 have I2:=Inv.newErr (C:=C) (us:=us) I1
 have r2:Vals (V.ref (s1.heap.objs.size+1)::vs) (Value.ref (s1.heap.objs.size+1)::us):=.cons rfl r
 have hl:(Value.ref (s1.heap.objs.size+1)::us++[]).length=ps.length:=by
  rw[List.append_nil,<-r2.length]
  exact F.len _ _ _ _ hq
 have hb2:=hb _ (Value.ref (s1.heap.objs.size+1)::us) I2.kIn hl
 rw[List.append_nil]at hb2
 refine z81 I1.kIn M.x M.fi (fun y=>PySem.W.bind_fn I2.kIn (.ref y) M.fn) (by show us.length<=sizeLine;rw[<-r.length];exact Nat.le_of_lt (z0H hz)) ?_
 refine wpAny_call (codeAny_mono (F.run _ X.stack _ _ ⟨Value.ref (s1.heap.objs.size+1)::us,[]⟩ (Value.ref (s1.heap.objs.size+1)::us) _ _ E0 (hr.make C us []) (I2.env0.make C us []) hb2 r2 hq) fun rr s' hq'=>?_)
 cases rr with
 |error ev=>exact(show False from hq').elim
 |ok fl=>
  cases fl with
  |ret u=>
   obtain⟨v,H',I3,rv,ev,q3⟩:=I2.after hq'
   subst ev
   exact⟨rv,s1.heap.objs.size+1,H',rfl,Nat.le_trans I1.sz (Nat.le_succ _),I3,q3⟩
  |next=>exact False.elim hq'
  |brk=>exact False.elim hq'
  |cont=>exact False.elim hq'
def zCt (C:Addr) (sp:Sp) (t:TA) (E:XK):TS:=fun _ σ H=>t σ H fun vs H1=>vs.length<=1000/\∀x,H1 x=none->sp (.ref x::vs) (upd H1 x (.ext (ErrO x C none))) (fun v H2=>v=.non/\∃d,H2 x=some (.ext (ErrO x C d))/\E (.ref C) d (del H2 x)) E0
theorem zAO {x:Str} {C:Addr} {k j:Nat} {ps:List Str} {sp:Sp} {e:Expr} {es:List Expr} {t:TA} {p cp pos:Pos} {E:XK} (R:z7A X E) (hc:X.calm=true) (O:Oe X.prog X.w X.K X.mg X.base x C ps k sp) (hr:Room j X.A) (hg:Gl X x) (ha:PA X (e::es) t) (hk:k+1<=j:=by decide)
 (hdb:(x==("__debug__":Str))=false:=by decide) (he:starEach (e::es) X.env=(false,eval e X.env)::starEach es X.env:=by rfl) (hpl:(backTo cp (starEach es X.env)).any (·.1)=false:=by rfl):
 PS X (.Raise (some (.Call (.Name x p) (e::es) [] cp)) none pos) (zCt C sp t E):=by
 obtain⟨fI,fd,m,M,b,F⟩:=O.ex
 intro pins s σ H D I h
 show wpAny (model X.prog X.w) X.A (do standAt pos;raiseStmt X.env (some (do let v<-eval (.Call (.Name x p) (e::es) [] cp) X.env;standAt pos;pure v)) none) _ _ s
 refine wpAny_bind (wpAny_standAt (z3F (K:=X.K) (I.ok.hd hc) (wpAny_bind (wpAny_mono (zDi M F (hr.mono hk) hg m b ha I h hdb he hpl) (fun v s1 h1=>wpAny_bind (wpAny_standAt (wpAny_pure ?_))) fun _ _ z=>z))))
 obtain⟨a,H',rfl,hsz,I1,d,hx,q⟩:=h1
 exact⟨a,C,d,rfl,I1.kIn,M.x,I1.errO hx,R _ _ _ _ _ _ _ I1 hx hsz q⟩
def zCu (C:Addr) (t:TA) (E:XK):TS:=fun _ σ H=>t σ H fun vs H1=>vs.length<=1000/\E (.ref C) none H1
end
noncomputable abbrev X2h (X:Cx) (a:Addr):Cx:={X with A:=X.A.mark (some (.ref a)),calm:=false,xe:=fun _ _=>False}
section
variable {X:Cx} {pins:List (Addr × Obj)} {σ:St} {H:Hp} {s:Shared} {a:Addr}
theorem Cx.Ok.hand2 (ok:X.Ok):(X2h X a).Ok:=
 ⟨ok.mod,ok.kind,ok.glob,ok.blt,ok.above,ok.inj,ok.has,ok.cab,(fun z=>nomatch z),ok.frames,ok.stk,ok.exf,ok.bs,ok.bsz,ok.noex,ok.exfs,ok.funs,ok.frf⟩
theorem Inv.hand2 (I:Inv X pins σ H s):Inv (X2h X a) pins σ H s:=⟨I.ok.hand2,I.os,I.bare,I.base,I.loc,I.cell,I.free,I.freeC,I.pin,I.hok,I.len⟩
theorem Inv.unhand2 (ok:X.Ok) (I:Inv (X2h X a) pins σ H s):Inv X pins σ H s:=⟨ok,I.os,I.bare,I.base,I.loc,I.cell,I.free,I.freeC,I.pin,I.hok,I.len⟩
abbrev zCv (D:Ends) (i:Nat):Ends:={nx:=fun σ' H'=>D.nx (σ'.set i none) H',rt:=D.rt,bk:=fun σ' H'=>D.bk (σ'.set i none) H',ct:=fun σ' H'=>D.ct (σ'.set i none) H'}
theorem z8e {D:Ends} {f:Flow} {E:Value->Shared->Prop} {i:Nat} {n:Str} {hp:Pos} (ok:X.Ok) (hN:X.N.Nodup) (hi:X.N[i]?=some n) (hloc:X.env.scope.names.lookup n=some .local)
 (h:SP (X2h X a) pins (zCv D i) f s):wpAny (model X.prog X.w) X.A (do bindName X.env n .none;unbindBehindTheSuite X.env n hp) (fun _ s'=>SP X pins D f s') E s:=by
 cases f with
 |next=>obtain⟨σ',H',I,q⟩:=h;exact z3D (I.unhand2 ok) hN hi hloc fun s' I'=>⟨_,H',I',q⟩
 |brk=>obtain⟨σ',H',I,q⟩:=h;exact z3D (I.unhand2 ok) hN hi hloc fun s' I'=>⟨_,H',I',q⟩
 |cont=>obtain⟨σ',H',I,q⟩:=h;exact z3D (I.unhand2 ok) hN hi hloc fun s' I'=>⟨_,H',I',q⟩
 |ret u=>obtain⟨v,σ',H',I,r,q⟩:=h;exact z3D (I.unhand2 ok) hN hi hloc fun s' I'=>⟨v,_,H',I',r,q⟩
end
section
variable {X:Cx} {G:Addr} {gn n:Str} {gp hp tp ep:Pos} {b₀:Stmt} {suite:List Stmt} {i:Nat} {th:TS}
theorem zCw {pins:List (Addr × Obj)} {σ:St} {H1 H':Hp} {s1 s':Shared} {B:Heap} {a c t':Addr} {d:Option Addr} {D:Ends} {E:Value->Shared->Prop} (I:Inv X pins σ H1 s1) (hst:X.stack=X.env::X.outer) (hf:X.env.frame=some X.env.locals)
 (hgG:Gl X gn) (hmG:X.mg gn=some (.ref G)) (hG:XE X.K G) (hN:X.N.Nodup) (hi:X.N[i]?=some n) (hloc:X.env.scope.names.lookup n=some .local)
 (hs:∀a,PSs (X2h X a) (b₀::suite) th) (os:s'.os=s1.os) (bare:AllBare s'.gens) (sz:s1.heap.objs.size<=a) (F:Fly X.prog X.w X.stack H1 H' B a c t' s1.heap s'.heap) (hdct:∃o,s'.heap.get? a=some o/\o.dict=d)
 (Zc:XE X.K c) (ab:PySem.W.mroIn X.K c (.ref G)=some true) (q:th (zCv D i) (σ.set i (some (.ref a))) (upd H' a (.ext (z4q a c d)))) (hdG:(gn==("__debug__":Str))=false):
 wpAny (model X.prog X.w) X.A (noteFrame (.ref a) X.env) (fun _ s₂=>wpAny (model X.prog X.w) X.A (setFlight (.ref a) none) (fun _ s₃=>
  wpAny (model X.prog X.w) X.A (handleBy (.ref a) X.env [.ExceptHandler (some (.Name gn gp)) (some n) (b₀::suite) hp]) (SP X pins D) E s₃) E s₂) E s':=by
 have hfr:X.A.frames=some (X.env::X.outer):=by rw[<-hst];exact I.ok.frames
 have hfl:Heap.FlyingW B (X.env::X.outer) a (.ref c) (.ref t') s'.heap:=by rw[<-hst];exact F.fl
 obtain⟨o0,eo0,ed0⟩:=hdct
 refine wpAny_mono (z6I (zAN _ _) (wpAny_looks_onW (E:=fun _ _=>False) (Q:=fun _ s''=>∃h',s''={s' with heap:=h'}/\Heap.HeldW B (X.env::X.outer) a (.ref c) (.ref t') X.env.locals h'/\s'.heap.UpToSlots h') hfr hf hfl fun h' x y=>⟨h',rfl,x,y⟩)) (fun _ s'' h2=>?_) fun _ _ z=>z.1.elim
 obtain⟨⟨h₄,rfl,held₄,sm₄⟩,rk₄⟩:=h2
 refine wpAny_mono (z6I (z2j _ _) (wpAny_landsW (E:=fun _ _=>False) (s:={s' with heap:=h₄}) (Q:=fun _ s''=>∃h',s''={s' with heap:=h'}/\Heap.FlyingW B (X.env::X.outer) a (.ref c) (.ref t') h'/\h₄.UpToSlots h') held₄ fun h' x y=>⟨h',rfl,x,y⟩)) (fun _ s'' h2=>?_) fun _ _ z=>z.1.elim
 obtain⟨⟨h₅,rfl,fl₅,sm₅⟩,rk₅⟩:=h2
 have F₅:=F.on (by rw[hst];exact fl₅) (sm₄.trans sm₅)
 have at5:∀{h:Heap},Fly X.prog X.w X.stack H1 H' B a c t' s1.heap h->Inv X pins σ H' {s' with heap:=h}:=fun{h} Fh=>I.call' (s':={s' with heap:=h}) os Fh.un (Fh.hok.kept Fh.fl.1) bare (fun b z=>absurd z nin)
 have I₅:=at5 F₅
 obtain⟨oe₅,e₅,c₅⟩:=F₅.fl.there
 have J₅:Inv (X2h X a) pins σ H' {s' with heap:=h₅}:=I₅.hand2
 refine wpAny_handleBy_cons (codeAny_handlers_test (z2c (X:=X2h X a) J₅ hgG hmG ?_ hdG)) (by intro z;cases z)
 obtain⟨bm,N,nm,qn,bs,sn,sub,ab',col,dd,k0,k1,k2,k3,k5,mN,hC,hN',T,_,cd0,hcd,hmro,_⟩:=XE.obj I₅.kIn Zc
 obtain⟨bm2,N2,nm2,qn2,bs2,sn2,sub2,ab2,col2,dd2,j0,j1,j2,j3,j5,mN2,hC2,hN2,T2,_⟩:=XE.obj I₅.kIn hG
 have hsub:(Value.ref c::bm).contains (.ref G)=true:=by
  unfold PySem.W.mroIn at ab
  rw[hcd]at ab
  dsimp only[Option.bind]at ab
  rw[hmro,if_neg (by simp)]at ab
  exact Option.some.inj ab
 obtain⟨sh,sg,sd,stk,sos⟩:=s'
 refine z4W hC hC2 e₅ c₅ (T2.hasType (X:="BaseException") (b:=true) (by decide+kernel)) hsub (codeAny_handlers_suite_as ?_)
 refine wpAny_mono (z6I (z2j _ _) (lands_againW (E:=fun _ _=>False) (s:=⟨h₅,sg,sd,stk,sos⟩) (Q:=fun _ s''=>∃h',s''=⟨h',sg,sd,stk,sos⟩/\Heap.FlyingW B (X.env::X.outer) a (.ref c) (.ref t') h'/\h₅.UpToSlots h') (by rw[hst]at F₅;exact F₅.fl) fun h' x y=>⟨h',rfl,x,y⟩)) (fun _ s'' h2=>?_) fun _ _ z=>z.1.elim
 obtain⟨⟨h₆,rfl,fl₆,sm₆⟩,rk₆⟩:=h2
 have F₆:=F₅.on (by rw[hst];exact fl₆) sm₆
 have I₆:=at5 F₆
 obtain⟨_,_,_,oe,vs,_,_,_,e₆,c₆,d₆,_⟩:=F₆.fl
 have rk:=(rk₄.trans rk₅).trans rk₆
 have ET:z4q a c d h₆:=⟨oe,vs,e₆,c₆.1,d₆,(rk.get eo0 e₆).trans ed0⟩
 have J₆:Inv X pins σ (upd H' a (.ext (z4q a c d))) ⟨h₆,sg,sd,stk,sos⟩:=I₆.adopt (I.fpOk sz F₆.free) (fun _ _ _ e=>e) ⟨oe,e₆⟩ (zBO ET)
 refine z53 (X:=X2h X a) (v:=.ref a) J₆.hand2 hN hi (.inl hloc) rfl (fun s₇ J₇=>?_) (.inr hloc)
 refine wpAny_mono (hs a pins s₇ _ _ _ J₇ q) (fun f s₈ h₈=>?_) fun _ _ z=>z.elim
 exact z8e I.ok hN hi hloc h₈
abbrev TEx:=St->Hp->VK->XK->Prop
def PEx (X:Cx) (e:Expr) (t:TEx):Prop:=∀(pins:List (Addr × Obj)) (s:Shared) (σ:St) (H:Hp) (Q:VK) (E:XK),Inv X pins σ H s->t σ H Q E->
 wpAny (model X.prog X.w) X.A (eval e X.env) (EP X pins σ Q) (fun ev s'=>∃H1 s1,Inv X pins σ H1 s1/\CX2 X.prog X.w X.stack H1 s1 E ev s') s
def hE (K:PySem.W.Frag) (G:Addr) (i:Nat) (th:TS) (D:Ends) (σ:St) (E:XK):Prop:=∀Cv d H2,E Cv d H2->∃c,Cv=.ref c/\XE K c/\PySem.W.mroIn K c (.ref G)=some true/\∀a,H2 a=none->th (zCv D i) (σ.set i (some (.ref a))) (upd H2 a (.ext (z4q a c d)))
def zEj (K:PySem.W.Frag) (G:Addr) (t:TEx) (i:Nat) (th:TS):TS:=fun D σ H=>∃E:XK,t σ H (fun _ H2=>D.nx σ H2) E/\hE K G i th D σ E
structure Gc (K:PySem.W.Frag) (mg:Str->Option Value) (x:Str) (G:Addr):Prop where
 m:mg x=some (.ref G)
 e:XE K G
variable {e:Expr} {t:TEx}
theorem z7B (ht:PEx X e t) (hst:X.stack=X.env::X.outer) (hf:X.env.frame=some X.env.locals) (hgG:Gl X gn) (Z:Gc X.K X.mg gn G) (hN:X.N.Nodup) (hi:X.N[i]?=some n) (hloc:X.env.scope.names.lookup n=some .local)
 (hs:∀a,PSs (X2h X a) (b₀::suite) th) (hdG:(gn==("__debug__":Str))=false:=by decide) (hsw:swapsWith e none ep.line X.env=pure false:=by rfl):
 PS X (.Try [.Expr e ep] [.ExceptHandler (some (.Name gn gp)) (some n) (b₀::suite) hp] [] [] tp) (zEj X.K G t i th):=by
 intro pins s σ H D I h
 obtain⟨E,h,hh⟩:=h
 refine wpAny_Try_except (wpAny_execs_cons (wpAny_Expr_any ?_ I.quiet hsw))
 refine wpAny_mono (ht pins s σ H _ E I h) (fun u s1 ⟨v,H1,I1,_,q⟩=>wpAny_execs_nil (wpAny_execs_nil ⟨σ,H1,I1,q⟩)) fun ev s' ⟨H1,s1,I1,h2⟩=>?_
 obtain⟨a,t',C,B,H',d,rfl,os,bare,sz,Fl,hd,q⟩:=h2
 obtain⟨c,ec,Zc,ab,q⟩:=hh _ _ _ q
 cases ec
 exact zCw I1 hst hf hgG Z.m Z.e hN hi hloc hs os bare sz Fl hd Zc ab (q a Fl.free) hdG
end
structure Ow2 (P:Program) (w:World) (K:PySem.W.Frag) (mg:Str->Option Value) (base:Heap) (x:Str) (ps:List Str) (k:Nat) (sp:Sp):Prop where
 ex:∃(f:Addr) (fd:FuncData),mg x=some (.ref f)/\PySem.W.keepIn K (.ref f)=true/\Binds K fd ps []/\FnOk P w K mg base (CX2 P w) k f fd ps sp
theorem Df.ow2 {P:Program} {w:World} {K:PySem.W.Frag} {mg:Str->Option Value} {base:Heap} {x:Str} {st:Stmt} {ps:List Str} {f:Addr} {fd:FuncData} {k:Nat} {sp:Sp} (D:Df K mg x st ps f fd) (F:FnOk P w K mg base (CX2 P w) k f fd ps sp):
 Ow2 P w K mg base x ps k sp:=⟨f,fd,D.m,D.F.kp,D.b,F⟩
theorem Fun.ok2 {P:Program} {w:World} {K:PySem.W.Frag} {mg:Str->Option Value} {base:Heap} {x qual:Str} {st:Stmt} {f:Addr} {fd:FuncData} {N ps:List Str} {k:Nat} {sp:Sp} (F:Fun K x qual st f fd) (S:FnScope N ps (z03 st)) (len:∀vs H Q E,sp vs H Q E->vs.length=ps.length)
 (hbody:∀(cdv:Value) (A:Around) (outer:List Env) (s:Shared) (H:Hp) (vs:List V) (Q:VK) (E:XK),Room k (A.deeper (envOfC qual (z03 st) s.heap.objs.size f cdv))->sp vs H Q E->
  ∃t,PSs (z9K (CX2 P w) P w K mg base N qual (z03 st) f cdv A outer s H E) (z0D st) t/\t {nx:=fun _ H'=>Q .non H',rt:=Q} (start N vs) H):FnOk P w K mg base (CX2 P w) (k+1) f fd ps sp:=by
 obtain⟨oc,od,kV,doc,pm,an,cdv,ct,osl,rfl,lk,hcd⟩:=F.ex
 exact zB4 lk hcd S len fun A outer s H vs Q E hr hsp=>hbody cdv A outer s H vs Q E hr hsp
section
variable {X:Cx} {k j:Nat} {ps:List Str} {sp:Sp} {x:Str} {p pos:Pos} {e:Expr} {es:List Expr} {t:TA} {E:XK}
theorem zBU (O:Ow2 X.prog X.w X.K X.mg X.base x ps k sp) (hr:Room j X.A) (hg:Gl X x) (ha:PA X (e::es) t) (hk:k<=j:=by decide) (hdb:(x==("__debug__":Str))=false:=by decide)
 (he:starEach (e::es) X.env=(false,eval e X.env)::starEach es X.env:=by rfl) (hpl:(backTo pos (starEach es X.env)).any (·.1)=false:=by rfl):
 PE X (.Call (.Name x p) (e::es) [] pos) (z8T sp [] E0 t):=by
 obtain⟨f,fd,m,kp,b,F⟩:=O.ex
 exact z57 F (hr.mono hk) hg m kp b .nil z4s ha hdb he hpl
theorem z5O (O:Ow2 X.prog X.w X.K X.mg X.base x ps k sp) (hr:Room j X.A) (hx:z2I (CX2 X.prog X.w) X E) (hg:Gl X x) (ha:PA X (e::es) t) (hk:k<=j:=by decide) (hdb:(x==("__debug__":Str))=false:=by decide)
 (he:starEach (e::es) X.env=(false,eval e X.env)::starEach es X.env:=by rfl) (hpl:(backTo pos (starEach es X.env)).any (·.1)=false:=by rfl):
 PE X (.Call (.Name x p) (e::es) [] pos) (z8T sp [] E t):=by
 obtain⟨f,fd,m,kp,b,F⟩:=O.ex
 exact z57 F (hr.mono hk) hg m kp b .nil hx ha hdb he hpl
end
theorem z8f {H:Hp} {x d C:Addr} {fs:List (Str × V)} (nx:H x=none) (nd:(upd H x (.ext (ErrO x C none))) d=none) (hd:d≠x):
 (upd (upd (upd H x (.ext (ErrO x C none))) x (.ext (ErrO x C (some d)))) d (.ext (z3f d fs))) x=some (.ext (ErrO x C (some d)))/\
 Same H (del (upd (upd (upd H x (.ext (ErrO x C none))) x (.ext (ErrO x C (some d)))) d (.ext (z3f d fs))) x)/\
 (del (upd (upd (upd H x (.ext (ErrO x C none))) x (.ext (ErrO x C (some d)))) d (.ext (z3f d fs))) x) d=some (.ext (z3f d fs)):=by
 rw[z06 hd]at nd
 refine⟨by rw[z06 (Ne.symm hd),upd_same],fun b o e=>?_,by rw[z87 hd,upd_same]⟩
 rw[z87 (z0A e nx),z06 (z0A e nd),z06 (z0A e nx),z06 (z0A e nx)]
 exact e
theorem z4t {H:Hp} {a d C:Addr} {fs:List (Str × V)} (na:H a=none) (hd:H d=some (.ext (z3f d fs))):Same H (upd H a (.ext (z4q a C (some d))))/\z4X (upd H a (.ext (z4q a C (some d)))) a C fs:=
 ⟨Same.new na,.inr ⟨d,z0A hd na,.inr upd_same,by rw[z06 (z0A hd na)];exact hd⟩⟩
section
variable {X:Cx} {pins:List (Addr × Obj)} {σ:St}
theorem zCx {H:Hp} {a:Addr} {o:HO} (h:H a=none):del (upd H a o) a=H:=by
 funext b
 unfold del
 split
 .rename_i e;rw[e,h]
 .rename_i e;exact z06 e
theorem z2J {x:Str} {C:Addr} {e:Expr} {es:List Expr} {t:TA} {p cp pos:Pos} {E:XK} (R:z7A X E) (hc:X.calm=true) (O:Oo X.K X.mg x C) (hg:Gl X x) (ha:PA X (e::es) t)
 (hdb:(x==("__debug__":Str))=false:=by decide) (he:starEach (e::es) X.env=(false,eval e X.env)::starEach es X.env:=by rfl) (hpl:(backTo cp (starEach es X.env)).any (·.1)=false:=by rfl):
 PS X (.Raise (some (.Call (.Name x p) (e::es) [] cp)) none pos) (zCu C t E):=by
 intro pins s σ H D I h
 have h':t σ H fun vs H1=>vs.length<=1000/\E (.ref C) none H1:=h
 show wpAny (model X.prog X.w) X.A (do standAt pos;raiseStmt X.env (some (do let v<-eval (.Call (.Name x p) (e::es) [] cp) X.env;standAt pos;pure v)) none) _ _ s
 refine wpAny_bind (wpAny_standAt (z3F (K:=X.K) (I.ok.hd hc) (wpAny_bind ?_)))
 refine wpAny_Call_Name_kw (z2c I hg O.m ?_ hdb)
 refine PySem.W.callWith_K (h₀:=X.base) I.ok.mod.kin O.e.kp (thn (ha cp pins s σ H _ I h') fun us s1 ⟨vs,H1,I1,r,hz,q⟩=>⟨I1.kIn,?_⟩) he hpl
 have hf:=I1.hok.fresh (Nat.le_succ s1.heap.objs.size)
 have hus:us.length<=sizeLine:=by rw[<-r.length];exact Nat.le_of_lt (z0H hz)
 have I2:=Inv.newErr (C:=C) (us:=us) I1
 refine z81 I1.kIn O.e.x O.e.fi (fun y=>PySem.W.Looks.of_pure (F.excBase_ValueError.init.bind _)) hus ?_
 refine zAH (s:={s1 with heap:=zBN s1.heap C us}) I2.kIn O.e.x zAI hus fun h' hk ho=>⟨rfl,wpAny_bind (wpAny_standAt (wpAny_pure ?_))⟩
 have J:=I2.write (x:=s1.heap.objs.size+1) (e:=s1.heap.objs.size+1) (t':=s1.toks) (by rw[upd_same];trivial) (.inl rfl) (fun b u hb z=>hk b u hb z) (let ⟨o,_,z,_⟩:=ho;⟨o,z⟩) (z3s ho)
 rw[z2K]at J
 refine⟨s1.heap.objs.size+1,C,none,rfl,J.kIn,O.e.x,ho,R _ _ _ _ _ _ _ J upd_same (Nat.le_trans I1.sz (Nat.le_succ _)) ?_⟩
 rw[zCx hf]
 exact q
end
structure Om (P:Program) (w:World) (K:PySem.W.Frag) (mg:Str->Option Value) (base:Heap) (CX:CXT) (C:Addr) (m:Str) (ps:List Str) (dvs:List V) (k:Nat) (sp:Sp):Prop where
 ex:∃(f:Addr) (fd:FuncData) (ds:List Value),Cls K C/\Meth K C m f/\Binds K fd ps ds/\Vals dvs ds/\FnOk P w K mg base CX k f fd ps sp
structure Oc (P:Program) (w:World) (K:PySem.W.Frag) (mg:Str->Option Value) (base:Heap) (CX:CXT) (x:Str) (C:Addr) (ps:List Str) (dvs:List V) (k:Nat) (sp:Sp):Prop where
 ex:∃(f:Addr) (fd:FuncData) (ds:List Value),mg x=some (.ref C)/\Mk K C f/\Binds K fd ps ds/\Vals dvs ds/\FnOk P w K mg base CX k f fd ps sp
def zDj (C:Addr) (m:Str) (sp:Sp) (dvs:List V) (ta:TE) (t:TA):TEx:=fun σ H Q E=>ta σ H fun x H1=>∃a dx fs,x=.ref a/\H1 a=some (.ins C dx fs)/\fs.lookup m=none/\t σ H1 fun vs H2=>sp (x::(vs++dvs)) H2 Q E
def zDk (C:Addr) (sp:Sp) (dvs:List V) (t:TA):TEx:=fun σ H Q E=>t σ H fun vs H1=>∀x dx,H1 x=none->H1 dx=none->dx≠x->
 sp (.ref x::(vs++dvs)) (upd (upd H1 dx (.own x)) x (.ins C dx [])) (fun v H2=>v=.non/\Q (.ref x) H2) E
section
variable {X:Cx} {CX:CXT} {k j:Nat} {C:Addr} {ps:List Str} {sp:Sp} {dvs:List V} {E:XK} {x m:Str} {p pos apos:Pos} {e o:Expr} {es:List Expr} {ta:TE} {t:TA}
theorem z4a {pl:Sem Bool} (O:Om X.prog X.w X.K X.mg X.base CX C m ps dvs k sp) (hr:Room j X.A) (hx:z2I CX X E) (he:PE X o ta) (ha:PA X (e::es) t) (hk:k<=j:=by decide)
 (hst:starEach (e::es) X.env=(false,eval e X.env)::starEach es X.env:=by rfl) (hpl:(backTo pos (starEach es X.env)).any (·.1)=false:=by rfl)
 (ht:eval (.Call (.Attribute o m apos) (e::es) [] pos) X.env=(do
  let ov<-eval o X.env
  standAt apos.atName
  let (f,first)<-holding [ov] (getMethod ov m pl)
  callWith pos f first (backTo pos (starEach (e::es) X.env)) (backToKw pos (keywordEach [] X.env))):=by rfl):
 PE X (.Call (.Attribute o m apos) (e::es) [] pos) (zB1 C m sp dvs E ta t):=by
 obtain⟨f,fd,ds,c,hm,hb,hd,F⟩:=O.ex
 exact zCN he c hm F (hr.mono hk) hb hd hx ha hst hpl ht
theorem z6J {pl:Sem Bool} (O:Om X.prog X.w X.K X.mg X.base CX C m ps dvs k sp) (hr:Room j X.A) (hx:z2I CX X E) (he:PE X o ta) (hk:k<=j:=by decide)
 (ht:eval (.Call (.Attribute o m apos) [] [] pos) X.env=(do
  let ov<-eval o X.env
  standAt apos.atName
  let (f,first)<-holding [ov] (getMethod ov m pl)
  callWith pos f first (backTo pos (starEach [] X.env)) (backToKw pos (keywordEach [] X.env))):=by rfl):
 PE X (.Call (.Attribute o m apos) [] [] pos) (zB1 C m sp dvs E ta zE3):=by
 obtain⟨f,fd,ds,c,hm,hb,hd,F⟩:=O.ex
 exact zB2 he c hm F (hr.mono hk) hb hd hx ht
theorem zDl (O:Oc X.prog X.w X.K X.mg X.base CX x C ps dvs k sp) (hr:Room j X.A) (hx:z2I CX X E) (hg:Gl X x) (ha:PA X (e::es) t) (hk:k+1<=j:=by decide)
 (hdb:(x==("__debug__":Str))=false:=by decide) (he:starEach (e::es) X.env=(false,eval e X.env)::starEach es X.env:=by rfl) (hpl:(backTo pos (starEach es X.env)).any (·.1)=false:=by rfl):
 PE X (.Call (.Name x p) (e::es) [] pos) (zDJ C sp dvs E t):=by
 obtain⟨f,fd,ds,m,M,hb,hd,F⟩:=O.ex
 exact zCO M F (hr.mono hk) hg m hb hd hx ha hdb he hpl
theorem zC9 {pl:Sem Bool} (O:Om X.prog X.w X.K X.mg X.base (CX2 X.prog X.w) C m ps dvs k sp) (hr:Room j X.A) (he:PE X.nox o ta) (ha:PA X.nox (e::es) t) (hk:k<=j:=by decide)
 (hst:starEach (e::es) X.env=(false,eval e X.env)::starEach es X.env:=by rfl) (hpl:(backTo pos (starEach es X.env)).any (·.1)=false:=by rfl)
 (ht:eval (.Call (.Attribute o m apos) (e::es) [] pos) X.env=(do
  let ov<-eval o X.env
  standAt apos.atName
  let (f,first)<-holding [ov] (getMethod ov m pl)
  callWith pos f first (backTo pos (starEach (e::es) X.env)) (backToKw pos (keywordEach [] X.env))):=by rfl):
 PEx X (.Call (.Attribute o m apos) (e::es) [] pos) (zDj C m sp dvs ta t):=by
 obtain⟨f,fd,ds,c,hm,hb,hd,F⟩:=O.ex
 intro pins s σ H Q E I h
 refine PySem.W.methodCall_KW (pl:=pl) (wpAny_mono (he pins s σ H _ (I.wish _) h) (fun u s1 ⟨x,H1,I1,rx,a,dx,fs,ex,ea,l,q⟩=>?_) fun _ _ z=>z.elim) ht
 subst ex
 obtain rfl:u=Value.ref a:=rx
 refine z3S I1.unwish ea c hm l ?_
 refine PySem.W.callWith_K (h₀:=X.base) (first:=[.ref a]) I1.ok.mod.kin hm.kp (wpAny_mono (ha pos pins s1 σ H1 _ I1 q) (fun us s2 ⟨vs,H2,I2,r,hsp⟩=>⟨I2.kIn,?_⟩) fun _ _ z=>z.elim) hst hpl
 have I2':Inv X pins σ H2 s2:=I2.unwish
 have r2:Vals (V.ref a::(vs++dvs)) (Value.ref a::(us++ds)):=.cons rfl (r.append hd)
 have hl:(Value.ref a::us++ds).length=ps.length:=by
  have e':=r2.length
  rw[F.len _ _ _ _ hsp]at e'
  exact e'.symm
 refine wpAny_call (codeAny_mono (F.run X.A X.stack s2 H2 ⟨Value.ref a::us,[]⟩ (Value.ref a::(us++ds)) _ _ E (hr.mono hk) I2'.env0 (hb s2 (Value.ref a::us) I2'.kIn hl) r2 hsp) fun rr s' hr'=>?_)
 cases rr with
 |error ev=>exact⟨H2,s2,I2',hr'⟩
 |ok fl=>
  cases fl with
  |ret u=>exact I2'.after hr'
  |next=>exact False.elim hr'
  |brk=>exact False.elim hr'
  |cont=>exact False.elim hr'
theorem zDm (O:Oc X.prog X.w X.K X.mg X.base (CX2 X.prog X.w) x C ps dvs k sp) (hr:Room j X.A) (hg:Gl X x) (ha:PA X.nox (e::es) t) (hk:k+1<=j:=by decide)
 (hdb:(x==("__debug__":Str))=false:=by decide) (he:starEach (e::es) X.env=(false,eval e X.env)::starEach es X.env:=by rfl) (hpl:(backTo pos (starEach es X.env)).any (·.1)=false:=by rfl):
 PEx X (.Call (.Name x p) (e::es) [] pos) (zDk C sp dvs t):=by
 obtain⟨f,fd,ds,m,M,hb,hd,F⟩:=O.ex
 intro pins s σ H Q E I h
 refine wpAny_Call_Name_kw (z2c I hg m ?_ hdb)
 refine PySem.W.callWith_K (h₀:=X.base) I.ok.mod.kin M.kp (wpAny_mono (ha pos pins s σ H _ (I.wish _) h) (fun us s1 ⟨vs,H1,I1,r,q⟩=>⟨I1.kIn,?_⟩) fun _ _ z=>z.elim) he hpl
 have I1':Inv X pins σ H1 s1:=I1.unwish
 have hq:=q (s1.heap.objs.size+1) s1.heap.objs.size (I1.hok.fresh (Nat.le_succ _)) (I1.hok.fresh (Nat.le_refl _)) (Nat.ne_of_lt (Nat.lt_succ_self _))
 have I2:=Inv.made (C:=C) I1'
 have r2:Vals (V.ref (s1.heap.objs.size+1)::(vs++dvs)) (Value.ref (s1.heap.objs.size+1)::(us++ds)):=.cons rfl (r.append hd)
 have hl:(Value.ref (s1.heap.objs.size+1)::us++ds).length=ps.length:=by
  have e':=r2.length
  rw[F.len _ _ _ _ hq]at e'
  exact e'.symm
 refine wpAny_call (z7o (f:=f) I1.kIn M.makes M.init (beq_iff_eq.mp M.fn) (codeAny_mono (F.run _ X.stack _ _ ⟨Value.ref (s1.heap.objs.size+1)::us,[]⟩ (Value.ref (s1.heap.objs.size+1)::(us++ds)) _ _ E ((hr.mono hk).make C us [])
  (I2.env0.make C us []) (hb _ (Value.ref (s1.heap.objs.size+1)::us) I2.kIn hl) r2 hq) fun r s' hq'=>?_))
 cases r with
 |error ev=>exact⟨_,_,I2,hq'⟩
 |ok fl=>
  cases fl with
  |ret u=>
   obtain⟨v,H',I3,rv,ev,q3⟩:=I2.after hq'
   subst ev
   exact⟨rv,⟨V.ref (s1.heap.objs.size+1),H',I3,rfl,q3⟩⟩
  |next=>exact False.elim hq'
  |brk=>exact False.elim hq'
  |cont=>exact False.elim hq'
end
theorem FunD.ok2 {P:Program} {w:World} {K:PySem.W.Frag} {mg:Str->Option Value} {base:Heap} {x qual:Str} {st:Stmt} {f T:Addr} {fd:FuncData} {N ps:List Str} {k:Nat} {sp:Sp} (F:FunD K x qual st f fd T) (S:FnScope N ps (z03 st)) (len:∀vs H Q E,sp vs H Q E->vs.length=ps.length)
 (hbody:∀(cdv:Value) (A:Around) (outer:List Env) (s:Shared) (H:Hp) (vs:List V) (Q:VK) (E:XK),Room k (A.deeper (envOfC qual (z03 st) s.heap.objs.size f cdv))->sp vs H Q E->
  ∃t,PSs (z9K (CX2 P w) P w K mg base N qual (z03 st) f cdv A outer s H E) (z0D st) t/\t {nx:=fun _ H'=>Q .non H',rt:=Q} (start N vs) H):FnOk P w K mg base (CX2 P w) (k+1) f fd ps sp:=by
 obtain⟨oc,od,kV,doc,pm,an,cdv,ct,osl,rfl,lk,hcd⟩:=F.ex
 exact zB4 lk hcd S len fun A outer s H vs Q E hr hsp=>hbody cdv A outer s H vs Q E hr hsp
section
variable {X:Cx} {a:Addr}
theorem z3v {e:Expr} {te:TE} {f:Str} {pos:Pos} (he:PE (X2h X a) e te) (hb:attributeBase e f (X2h X a).env (eval e (X2h X a).env)=eval e (X2h X a).env):PE (X2h X a) (.Attribute e f pos) (zDe X.K te f):=zCl he hb
theorem z1v:z2a (X2h X a) (.builtin "isinstance") (fun xs H Q=>∃x C fs y u b,xs=[.ref x,y]/\z4X H x C fs/\XE X.K C/\zEd y=some u/\PySem.W.kitOne X.K (.ref C) u=some b/\Q (.bl b) H):=zAJ
end
end L2
namespace L2
open PySem PySem.Spec PyProof.Rows G
theorem zBV {H H':Hp} (s:Same H H') {x:V} {T:String} (h:tyS H x=some T):tyS H' x=some T:=by
 cases x with
 |ref a=>
  simp only[tyS]at h⊢
  split at h
  .rename_i e;rw[s _ _ e];exact h
  .rename_i e;rw[s _ _ e];exact h
  .rename_i e;rw[s _ _ e];exact h
  .rename_i e;rw[s _ _ e];exact h
  .rename_i e;rw[s _ _ e];exact h
  .cases h
 |_=>exact h
def Ty (H:Hp) (x:V):Prop:=∃T,tyS H x=some T
theorem Ty.mono {H H':Hp} {x:V} (s:Same H H') (h:Ty H x):Ty H' x:=by
 obtain⟨T,h⟩:=h
 exact⟨T,zBV s h⟩
def zEk (x:V):Int:=match x with
 |.int i=>i
 |_=>0
def zEx (x:V):Bool:=match x with
 |.int i=>decide (0<=i)
 |_=>false
noncomputable def z7C (w:Nat) (P M:V):Bool:=match P,M with
 |.int p,.int m=>decide (0<=p)&&(decide (0<=m)&&z4U w p m)
 |_,_=>false
def View (H:Hp) (c:V):Option (List V)->Prop
 |none=>∃T,tyS H c=some T/\(T=="tuple")=false
 |some xs=>∃q,c=.ref q/\H q=some (.tup xs)/\xs.length<=100/\∀x∈xs,Ty H x
theorem View.ty {H:Hp} {c:V} {cv:Option (List V)} (h:View H c cv):∃T,tyS H c=some T/\(T=="tuple")=cv.isSome:=by
 cases cv with
 |none=>exact h
 |some xs=>
  obtain⟨q,rfl,h2,_⟩:=h
  exact⟨"tuple",by simp only[tyS,h2],rfl⟩
noncomputable def z4b (a b:V) (cv dv:Option (List V)):Bool:=inB a 1 64&&(inB b 1 64&&match cv,dv with
 |some ps,some ms=>decide ((ps.length:Int)=zEk b)&&decide ((ms.length:Int)=zEk b)
 |_,_=>false)
noncomputable def z8g (a b:V) (cv dv:Option (List V)):Bool:=z4b a b cv dv&&match cv,dv with
 |some ps,some ms=>(ps.zip ms).all fun z=>z7C (zEk a).toNat z.1 z.2
 |_,_=>false
inductive IsP (H:Hp) (x:V):Bool->Prop
 |no (T:String):tyS H x=some T->(T=="tuple")=false->IsP H x false
 |few (p:Addr) (xs:List V):x=.ref p->H p=some (.tup xs)->xs.length≠4->IsP H x false
 |four (p:Addr) (a b c d:V) (cv dv:Option (List V)):x=.ref p->H p=some (.tup [a,b,c,d])->Ty H a->Ty H b->View H c cv->View H d dv->IsP H x (z8g a b cv dv)
theorem z7D {x:V} {a b:Int} (h:inB x a b=true):∃i,x=.int i/\a<=i/\i<=b:=by
 cases x with
 |int i=>
  simp only[inB,Bool.and_eq_true,decide_eq_true_eq]at h
  exact⟨i,rfl,h.1,h.2⟩
 |_=>exact absurd (show false=true from h) Bool.false_ne_true
theorem zCy:∀T∈zBx,z8W T "tuple"=(T=="tuple"):=by decide
theorem z5P {H:Hp} {x:V} {T:String} (h:tyS H x=some T):z8W T "tuple"=(T=="tuple"):=zCy T (z5A h)
theorem zAP {w:Nat} {P M:V} (h:zEx P=false):z7C w P M=false:=by
 cases P with
 |int p=>
  cases M with
  |int m=>
   show(decide (0<=p)&&_)=false
   rw[show decide (0<=p)=false from h,Bool.false_and]
  |_=>rfl
 |_=>rfl
theorem zAQ {w:Nat} {P M:V} (h:zEx M=false):z7C w P M=false:=by
 cases P with
 |int p=>
  cases M with
  |int m=>
   show(decide (0<=p)&&(decide (0<=m)&&_))=false
   rw[show decide (0<=m)=false from h,Bool.false_and,Bool.and_false]
  |_=>rfl
 |_=>rfl
theorem z4u:∀{r:List (Option Int)},Cells r->z4U r.length (z09 r) (z0J r)=true
 |[],_=>rfl
 |c::r,h=>by
  have ih:=z4u (r:=r) fun x hx=>h x (List.mem_cons_of_mem _ hx)
  have hc:=h c (List.mem_cons_self ..)
  show((decide (((if c.isSome=true then 1 else 0)+2*z0J r)%2=1)||decide ((c.getD 0+16*z09 r)%16=0))&&z4U r.length ((c.getD 0+16*z09 r)/16) (((if c.isSome=true then 1 else 0)+2*z0J r)/2))=true
  cases c with
  |none=>
   have e1:((none:Option Int).getD 0+16*z09 r)/16=z09 r:=by show(0+16*z09 r)/16=_;omega
   have e2:((if(none:Option Int).isSome=true then(1:Int)else 0)+2*z0J r)/2=z0J r:=by rw[if_neg (by simp)];omega
   have e3:((none:Option Int).getD 0+16*z09 r)%16=0:=by show(0+16*z09 r)%16=_;omega
   rw[e1,e2,ih,decide_eq_true e3,Bool.or_true]
   rfl
  |some z=>
   obtain⟨z0,z1⟩:=hc z rfl
   have e1:((some z:Option Int).getD 0+16*z09 r)/16=z09 r:=by show(z+16*z09 r)/16=_;omega
   have e2:((if(some z:Option Int).isSome=true then(1:Int)else 0)+2*z0J r)/2=z0J r:=by rw[if_pos (show(some z).isSome=true from rfl)];omega
   have e3:((if(some z:Option Int).isSome=true then(1:Int)else 0)+2*z0J r)%2=1:=by rw[if_pos (show(some z).isSome=true from rfl)];omega
   rw[e1,e2,ih,decide_eq_true e3,Bool.true_or]
   rfl
theorem z88 {w:Nat}:∀{rows:List (List (Option Int))},(∀r∈rows,r.length=w/\Cells r)->(((rows.map z09).map V.int).zip ((rows.map z0J).map V.int)).all (fun z=>z7C w z.1 z.2)=true
 |[],_=>rfl
 |r::rows,h=>by
  have ih:=z88 (w:=w) (rows:=rows) fun x hx=>h x (List.mem_cons_of_mem _ hx)
  obtain⟨hw,hc⟩:=h r (List.mem_cons_self ..)
  have hp:=z2m hc
  have hm:=z2g r
  have ho:=z4u hc
  rw[hw]at ho
  show((decide (0<=z09 r)&&(decide (0<=z0J r)&&z4U w (z09 r) (z0J r)))&&(((rows.map z09).map V.int).zip ((rows.map z0J).map V.int)).all (fun z=>z7C w z.1 z.2))=true
  rw[ih,ho,decide_eq_true hp.1,decide_eq_true hm.1]
  rfl
theorem View.ints {H:Hp} {q:Addr} {ns:List Int} (h:H q=some (.tup (ns.map V.int))) (hn:ns.length<=100):View H (.ref q) (some (ns.map V.int)):=
 ⟨q,rfl,h,by rw[List.length_map];exact hn,fun x hx=>by
  obtain⟨n,_,rfl⟩:=List.mem_map.mp hx
  exact⟨"int",rfl⟩⟩
theorem PicAt.isP {H:Hp} {p:Addr} {w h:Nat} {rows:List (List (Option Int))} (R:Rect w h rows) (P:PicAt H p w rows):IsP H (.ref p) true:=by
 obtain⟨pp,pm,h1,h2,h3⟩:=P
 have hl:=R.len
 have hh:=R.h2
 have k1:=R.h1
 have w1:=R.w1
 have w2:=R.w2
 have q:=IsP.four p _ _ _ _ _ _ rfl h1 ⟨"int",rfl⟩ ⟨"int",rfl⟩ (View.ints (ns:=rows.map z09) h2 (by rw[List.length_map];omega)) (View.ints (ns:=rows.map z0J) h3 (by rw[List.length_map];omega))
 have e:z8g (.int (w:Int)) (.int (rows.length:Int)) (some ((rows.map z09).map V.int)) (some ((rows.map z0J).map V.int))=true:=by
  show((decide ((1:Int)<=(w:Int))&&decide ((w:Int)<=64))&&((decide ((1:Int)<=(rows.length:Int))&&decide ((rows.length:Int)<=64))&&(decide ((((rows.map z09).map V.int).length:Int)=(rows.length:Int))&&decide ((((rows.map z0J).map V.int).length:Int)=(rows.length:Int))))
   &&(((rows.map z09).map V.int).zip ((rows.map z0J).map V.int)).all (fun z=>z7C ((w:Int)).toNat z.1 z.2))=true
  have e0:((w:Int)).toNat=w:=by omega
  rw[e0,z88 R.row,List.length_map,List.length_map,List.length_map,List.length_map,decide_eq_true (by omega),decide_eq_true (by omega),decide_eq_true (by omega),decide_eq_true (by omega),decide_eq_true rfl]
  rfl
 rw[e]at q
 exact q
def zCA:Sp:=fun vs H Q _=>∃(w:Int) (P M:V),vs=[.int w,P,M]/\1<=w/\w<=64/\Ty H P/\Ty H M/\Q (.bl (z7C w.toNat P M)) H
def zCB:Sp:=fun vs H Q _=>∃x,vs=[x]/\((∃T,tyS H x=some T/\(T=="tuple")=false/\Q (.bl false) H)\/(∃p xs,x=.ref p/\H p=some (.tup xs)/\xs.length≠4/\Q (.bl false) H)\/
 ∃p a b c d cv dv,x=.ref p/\H p=some (.tup [a,b,c,d])/\Ty H a/\Ty H b/\View H c cv/\View H d dv/\Q (.bl (z4b a b cv dv)) H)
def zDn:Sp:=fun vs H Q _=>∃x k,vs=[x]/\IsP H x k/\∀H',Same H H'->Q (.bl k) H'
def Its (z:Str):It:=⟨fun i _=>i<z.cps.size,fun i H x H'=>H'=H/\∃c,z.cps[i]?=some c/\x=.str ⟨#[c]⟩,fun i _=>z.cps.size<=i⟩
theorem z3G (z:Str):(z.cps.all (·<128)=true/\strIterType z="str_ascii_iterator")\/(z.cps.all (·<128)=false/\strIterType z="str_iterator"):=by
 unfold strIterType
 cases z.cps.all (·<128)with
 |true=>exact .inl ⟨rfl,rfl⟩
 |false=>exact .inr ⟨rfl,rfl⟩
theorem z8h (z:Str):["enumerate","zip","dict_itemiterator","dict_reverseitemiterator","odict_iterator","itertools.zip_longest","itertools.pairwise"].contains (strIterType z)=false:=by
 rcases z3G z with⟨_,e⟩|⟨_,e⟩<;>rw[e]<;>decide
section
variable {prog:Program} {w:World} {A:Around} {E:Value->Shared->Prop} {s:Shared}
theorem z8i {it:Addr} {z:Str} {t:Tok} {i c:Nat} {Q:Option Value->Shared->Prop} (hit:s.heap.IsStrIter it (strIterType z) z t i) (hx:z.cps[i]?=some c)
 (k:∀h',h'.IsStrIter it (strIterType z) z t (i+1)->Heap.SameBut it s.heap h'->Q (some (.str ⟨#[c]⟩ s.toks)) {s with heap:=h',toks:=s.toks+1}):wpAny (model prog w) A (pyNext (.ref it)) Q E s:=by
 rcases z3G z with⟨_,e⟩|⟨_,e⟩
 .rw[e]at hit k
  exact wpAny_pyNext_ascii_item hit hx k
 .rw[e]at hit k
  exact wpAny_pyNext_wide_item hit hx k
theorem zAR {it:Addr} {z:Str} {t:Tok} {i:Nat} {Q:Option Value->Shared->Prop} (hh:A.handled=none) (hit:s.heap.IsStrIter it (strIterType z) z t i) (hx:z.cps[i]?=none)
 (k:∀h',Heap.ExtBut it s.heap h'->Q none {s with heap:=h'}):wpAny (model prog w) A (pyNext (.ref it)) Q E s:=by
 rcases z3G z with⟨_,e⟩|⟨_,e⟩
 .rw[e]at hit
  exact wpAny_pyNext_ascii_end hh hit hx k
 .rw[e]at hit
  exact wpAny_pyNext_wide_end hh hit hx k
theorem z8j {it:Addr} {z:Str} {t:Tok} {i:Nat} {Q:Value->Shared->Prop} (hit:s.heap.IsStrIter it (strIterType z) z t i) (h:Q (.ref it) s):wpAny (model prog w) A (pyIter (.ref it)) Q E s:=by
 rcases z3G z with⟨_,e⟩|⟨_,e⟩
 .rw[e]at hit
  exact wpAny_pyIter_striter_ascii hit h
 .rw[e]at hit
  exact wpAny_pyIter_striter_wide hit h
end
theorem z6K {prog:Program} {w:World} {A:Around} (hh:A.handled=none) (it:Addr) (z:Str) (t:Tok):
 Draws prog w A it [it] z.cps.size (fun i v=>∃c u,z.cps[i]?=some c/\v=.str ⟨#[c]⟩ u) (fun i h=>h.IsStrIter it (strIterType z) z t i):=by
 rcases z3G z with⟨_,e⟩|⟨_,e⟩
 .rw[e]
  exact Draws.strAscii hh it z t
 .rw[e]
  exact Draws.strWide hh it z t
theorem z3W {h h':Heap} {it:Addr} {ty:String} {z:Str} {t:Tok} {i:Nat} (x:h.IsStrIter it ty z t i) (k:∀o,h.get? it=some o->h'.get? it=some o):h'.IsStrIter it ty z t i:=let ⟨o,e,r⟩:=x;⟨o,k o e,r⟩
theorem zBW {P:Program} {w:World} {K:PySem.W.Frag} {tg:Expr} (it:Addr) (z:Str) (t:Tok):Turn P w K tg (Its z) [it] it (fun i h=>h.IsStrIter it (strIterType z) z t i) where
 mem:=by simp
 obj:=fun i h st b hb=>by
  have e:b=it:=by simpa using hb
  subst e
  obtain⟨o,e,c,d⟩:=st
  exact⟨o,e,fun v q=>by rw[d]at q;cases q⟩
 keep:=fun i h h' st k=>z3W st fun o e=>k it (by simp) o e
 item:=by
  intro X hP hw hK hc i pins s σ H E I hf st hg
  subst hP hw hK
  have hg':i<z.cps.size:=hg
  have hx:z.cps[i]?=some z.cps[i]:=by simp[hg']
  obtain⟨f0,f1,f2,f3,f4,f5⟩:=hf it (by simp)
  refine z8i st hx fun h' st' sb=>?_
  have I1:Inv X pins σ H {s with heap:=h',toks:=s.toks+1}:=I.turned (t':=s.toks+1) (fun b o hb e=>(sb.2 b hb).trans e) f0 f1 f3 f4 f5
  obtain⟨o,e,c,d⟩:=id st'
  exact⟨_,rfl,z8K (s:={s with heap:=h',toks:=s.toks+1}) e c d (z8h z) ⟨.str ⟨#[z.cps[i]]⟩,H,I1,⟨_,rfl⟩,⟨rfl,_,hx,rfl⟩,st',fun b hb=>(hf b hb).1⟩⟩
 done:=by
  intro X hP hw hK hc i pins s σ H E I hf st hg
  subst hP hw hK
  have hg':z.cps.size<=i:=hg
  obtain⟨f0,f1,f2,f3,f4,f5⟩:=hf it (by simp)
  exact zAR (I.ok.hd hc) st (by simp[hg']) fun h' eb=>⟨rfl,I.turned (t':=s.toks) (fun b o hb e=>eb b o hb e) f0 f1 f3 f4 f5⟩
 self:=fun _ _ _ _ _ st h=>z8j st h
def zDo (z:Str):It:=
 ⟨fun i _=>i<z.cps.size,fun i H x H'=>∃T c,H T=none/\x=.ref T/\H'=upd H T (.tup [.int i,.str ⟨#[c]⟩])/\z.cps[i]?=some c,fun i _=>i=z.cps.size⟩
theorem z8k {P:Program} {w:World} {K:PySem.W.Frag} {es:List Expr} {k:Nat} {pos:Pos} (e it:Addr) (z:Str) (t:Tok) (hei:e≠it):
 Turn P w K (.Tuple es k pos) (zDo z) [e,it] e (fun i h=>(∃old,IsEnum h e it (i:Nat) old)/\h.IsStrIter it (strIterType z) z t i) where
 mem:=List.mem_cons_self
 obj:=fun i h st b hb=>by
  obtain⟨⟨old,he⟩,o,hi,hc,hd⟩:=st
  rcases List.mem_cons.mp hb with rfl|hb
  .exact⟨_,he,fun v z=>by cases z⟩
  .rw[List.mem_singleton.mp hb]
   exact⟨o,hi,fun v z=>by rw[hd]at z;cases z⟩
 keep:=fun i h h' st k=>⟨let ⟨old,he⟩:=st.1;⟨old,k e List.mem_cons_self _ he⟩,z3W st.2 fun o q=>k it (List.mem_cons_of_mem _ List.mem_cons_self) o q⟩
 item:=by
  intro X hP hw hK hc i pins s σ H E I hf st hg
  subst hP hw hK
  have hg':i<z.cps.size:=hg
  obtain⟨⟨old,he⟩,hit⟩:=st
  obtain⟨f0,f1,f2,f3,f4,f5⟩:=hf e List.mem_cons_self
  obtain⟨g0,g1,g2,g3,g4,g5⟩:=hf it (List.mem_cons_of_mem _ List.mem_cons_self)
  have hh:X.A.in1.handled=none:=I.ok.hd hc
  refine wpAny_pyNext_enum_itemD (z6K hh it z t) he hit hg' hei (by simp[hei]) fun x h' tk hP ho hit' hT hsz hk=>?_
  obtain⟨c,u,hx,rfl⟩:=hP
  refine⟨.ref s.heap.objs.size,rfl,wpAny_letOwnedTupleGo_enum ho fun h'' he'' sb=>?_⟩
  have nT:H s.heap.objs.size=none:=I.hok.fresh (Nat.le_refl _)
  have kk:∀b o,b≠e->b≠it->s.heap.get? b=some o->h''.get? b=some o:=fun b o b1 b2 q=>(sb.2 b b1).trans (hk b o b1 b2 q)
  have hTe:s.heap.objs.size≠e:=Nat.ne_of_gt (Heap.lt_size he)
  have nb:∀b u,H b=some u->b≠e/\b≠it:=fun b u q=>⟨fun y=>(by rw[y,f0]at q;cases q),fun y=>(by rw[y,g0]at q;cases q)⟩
  have gT:h''.get? s.heap.objs.size=some {cls:=.type "tuple",data:=.seq #[.int i tk,.str ⟨#[c]⟩ u]}:=(sb.2 _ hTe).trans hT
  have I1:Inv X pins σ (upd H s.heap.objs.size (.tup [.int i,.str ⟨#[c]⟩])) {s with heap:=h'',toks:=tk+1}:=by
   refine I.step (g':=s.gens) (d':=s.drawn) (ch:=[e,it]) (fun b hb=>?_) (fun b o _ _ hb q _=>kk b o (fun y=>hb (by simp[y])) (fun y=>hb (by simp[y])) q) (fun b o _ _ hb q _=>⟨o.slots,kk b o (fun y=>hb (by simp[y])) (fun y=>hb (by simp[y])) q⟩) (fun b o _ q n=>?_)
    (fun b o hb q=>⟨o,kk b o (fun y=>hb (by simp[y])) (fun y=>hb (by simp[y])) q⟩) (fun b ys q=>?_) (fun b ob y q=>?_) (fun b ps q=>⟨#[],?_⟩) (fun m hm=>?_) (fun b y q=>?_) I.bare
   .rcases List.mem_cons.mp hb with rfl|hb
    .exact⟨f3,f1,f4,f5⟩
    .rw[List.mem_singleton.mp hb]
     exact⟨g3,g1,g4,g5⟩
   .rw[z06 (Nat.ne_of_lt (Heap.lt_size q))]
    exact n
   .rw[z06 (z0A q nT)]
    exact q
   .rw[z06 (z0A q nT)]
    exact q
   .rw[z06 (z0A q nT),q]
    simp
   .obtain⟨o,es',ep,ho',r⟩:=hm
    exact⟨o,es',ep,kk _ o (Ne.symm f1) (Ne.symm g1) ho',r⟩
   .by_cases hb:b=s.heap.objs.size
    .subst hb
     rw[upd_same]at q
     cases q
     exact⟨by show 2<=sizeLine;decide,[.int i tk,.str ⟨#[c]⟩ u],.cons ⟨_,rfl⟩ (.cons ⟨_,rfl⟩ .nil),_,gT,rfl,_,rfl⟩
    .rw[z06 hb]at q
     refine(I.hok b y q).stay (fun c v hc' r=>?_) (fun c r=>by rw[z06 (z0A r nT)];exact r) fun c ys r=>by rw[z06 (z0A r nT)];exact r
     rcases hc' with z'|z'
     .subst z'
      exact kk c v (nb c y q).1 (nb c y q).2 r
     .exact kk c v (nb c _ z').1 (nb c _ z').2 r
  refine⟨.ref s.heap.objs.size,_,I1,rfl,⟨_,c,nT,rfl,rfl,hx⟩,⟨⟨_,by simpa using he''⟩,z3W hit' fun o q=>(sb.2 it (Ne.symm hei)).trans q⟩,fun b hb=>?_⟩
  have hn:=(hf b hb).1
  have lt:b<s.heap.objs.size:=by
   rcases List.mem_cons.mp hb with rfl|hb
   .exact Heap.lt_size he
   .rw[List.mem_singleton.mp hb]
    obtain⟨o,q,_⟩:=hit
    exact Heap.lt_size q
  rw[z06 (Nat.ne_of_lt lt)]
  exact hn
 done:=by
  intro X hP hw hK hc i pins s σ H E I hf st hg
  subst hP hw hK
  have hg':i=z.cps.size:=hg
  subst hg'
  obtain⟨⟨old,he⟩,hit⟩:=st
  obtain⟨g0,g1,g2,g3,g4,g5⟩:=hf it (List.mem_cons_of_mem _ List.mem_cons_self)
  have hh:X.A.in1.handled=none:=I.ok.hd hc
  exact wpAny_pyNext_enum_endD (z6K hh it z t) he hit fun h' eb=>⟨rfl,I.turned (t':=s.toks) (fun b o hb q=>eb b o hb q) g0 g1 g3 g4 g5⟩
 self:=fun _ _ _ _ _ st h=>let ⟨_,he⟩:=st.1;wpAny_pyIter_enum he h
section
variable {X:Cx} {tg:Expr}
def zFQ (tl:TE):TI:=fun σ H R=>tl σ H fun x H1=>∃z,x=.str z/\R (Its z) H1
theorem zDp {l:Expr} {tl:TE} (hl:PE X l tl):PI X tg l (zFQ tl):=by
 intro pins s σ H R I h
 refine thn (hl pins s σ H _ I h) fun v s1 ⟨x,H1,I1,r1,q1⟩=>?_
 obtain⟨z,e,q⟩:=q1
 subst e
 obtain⟨t,rfl⟩:=r1
 refine wpAny_pyIter_strU ?_
 refine⟨s1.heap.objs.size,[s1.heap.objs.size],_,_,H1,rfl,I1.kept (t':=s1.toks) fun b o e=>Heap.get?_push_of_some _ e,zBW _ z t,⟨_,Heap.get?_push_size _ rfl,rfl,rfl⟩,fun b hb=>?_,q⟩
 have e:b=s1.heap.objs.size:=by simpa using hb
 subst e
 exact I1.fpOk (Nat.le_refl _) (I1.hok.fresh (Nat.le_refl _))
def zDq (ta:TA):TI:=fun σ H R=>ta σ H fun vs H1=>∃z,vs=[.str z]/\R (zDo z) H1
theorem zBX {l:Expr} {ta:TA} {p pos:Pos} {es:List Expr} {k:Nat} {tp:Pos} (hg:Gl X "enumerate") (hm:X.mg "enumerate"=none) (ha:PA X [l] ta) (hs:starEach [l] X.env=[(false,eval l X.env)]:=by rfl):
 PI X (.Tuple es k tp) (.Call (.Name "enumerate" p) [l] [] pos) (zDq ta):=by
 intro pins s σ H R I h
 refine Call_ (z2r I hg hm boot_enumerate (PyProof.Rows.callWith_type1 (thn (ha pos pins s σ H _ I h) fun us s1 ⟨vs,H1,I1,r1,q1⟩=>?_) hs rfl))
 obtain⟨z,e,q⟩:=q1
 subst e
 obtain⟨u,rfl,ru⟩:=vals1 r1
 obtain⟨t,rfl⟩:=(show∃t,u=Value.str z t from ru)
 refine call_enumerate_str fun h' he hit hsz hk=>?_
 refine wpAny_pyIter_enum (s:={s1 with heap:=h'}) he ?_
 have n1:H1 s1.heap.objs.size=none:=I1.hok.fresh (Nat.le_refl _)
 have n2:H1 (s1.heap.objs.size+1)=none:=I1.hok.fresh (Nat.le_succ _)
 refine⟨s1.heap.objs.size+1,[s1.heap.objs.size+1,s1.heap.objs.size],_,_,H1,rfl,I1.kept (t':=s1.toks) hk,z8k _ _ z t (Nat.succ_ne_self _),⟨⟨_,by simpa using he⟩,hit⟩,fun b hb=>?_,q⟩
 rcases List.mem_cons.mp hb with rfl|hb
 .exact I1.fpOk (Nat.le_succ _) n2
 .rw[List.mem_singleton.mp hb]
  exact I1.fpOk (Nat.le_refl _) n1
end
section
variable {X:Cx} {pins:List (Addr × Obj)} {σ:St} {H:Hp} {s:Shared} {a:Addr} {ob:Obj} {kvs:List (Key × V)}
theorem zCC {P:Program} {w:World} {h:Heap} {u u':HO} (ok:HOk P w H h) (e:H a=some u') (n1:∀y,u'≠.own y) (n2:∀xs,u'≠.tup xs) (new:∀H',(∀b y,H b=some (.own y)->H' b=some (.own y))->(∀b xs,H b=some (.tup xs)->H' b=some (.tup xs))->ObjOk P w H' h a u):HOk P w (upd H a u) h:=fun b v q=>by
 have o1:∀b y,H b=some (.own y)->(upd H a u) b=some (.own y):=fun b y z=>by
  rw[z06 fun k=>?_]
  .exact z
  .subst k
   rw[e]at z
   exact n1 y (Option.some.inj z)
 have o2:∀b xs,H b=some (.tup xs)->(upd H a u) b=some (.tup xs):=fun b y z=>by
  rw[z06 fun k=>?_]
  .exact z
  .subst k
   rw[e]at z
   exact n2 y (Option.some.inj z)
 by_cases hb:b=a
 .subst hb
  rw[upd_same]at q
  cases q
  exact new _ o1 o2
 .rw[z06 hb]at q
  exact(ok b v q).stay (fun _ _ _ z=>z) (fun c z=>o1 c b z) o2
theorem Inv.freeze (I:Inv X pins σ H s) (e:H a=some (.dK kvs)) (ho:s.heap.get? a=some ob):Inv X pins σ (upd H a (.frz ob (.dK kvs))) s:=by
 refine I.un (t':=s.toks) (h':=s.heap) ⟨fun b o q _ _ _=>q,fun b o q _ _ _=>⟨o.slots,q⟩,fun b o _ n _=>?_,fun b o q _=>⟨o,q⟩,fun b xs q=>?_,fun b o u q=>?_,fun b ps q=>⟨#[],?_⟩⟩ ?_
 .rw[z06 fun z=>by subst z;rw[e]at n;cases n]
  exact n
 .rw[z06 (z2C q e fun z=>nomatch z)]
  exact q
 .rw[z06 (z2C q e fun z=>nomatch z)]
  exact q
 .rw[z06 (z2C q e fun z=>nomatch z),q]
  simp
 .exact zCC I.hok e (fun _ z=>nomatch z) (fun _ z=>nomatch z) fun H' k1 k2=>⟨ho,(I.hok a _ e).stay (fun _ _ _ z=>z) (fun c z=>k1 c a z) k2⟩
theorem Inv.thaw (I:Inv X pins σ H s) (e:H a=some (.frz ob (.dK kvs))) (h0:∀o u,X.H₀ a≠some (.frz o u)):Inv X pins σ (upd H a (.dK kvs)) s:=by
 have ne:∀{b:Addr},H b=none->b≠a:=fun{b} n z=>by subst z;rw[e]at n;cases n
 refine{I with base:={I.base with free:=fun b o q n hx=>?_,tups:=fun b xs q=>?_,frzs:=fun b o u q=>?_,tbls:=fun b ps q=>?_},free:=?_,freeC:=fun x c q=>?_,pin:=fun p hp=>?_,hok:=?_}
 .have:=I.base.free b o q n hx
  rw[z06 (ne this)]
  exact this
 .have:=I.base.tups b xs q
  rw[z06 (z2C this e fun z=>nomatch z)]
  exact this
 .have:=I.base.frzs b o u q
  rw[z06 fun z=>by subst z;exact h0 o u q]
  exact this
 .obtain⟨m,r⟩:=I.base.tbls b ps q
  exact⟨m,by rw[z06 (z2C r e fun z=>nomatch z)];exact r⟩
 .rw[z06 (ne I.free)]
  exact I.free
 .rw[z06 (ne (I.freeC x c q))]
  exact I.freeC x c q
 .obtain⟨q1,q2,q3⟩:=I.pin p hp
  exact⟨q1,by rw[z06 (ne q2)];exact q2,q3⟩
 .exact zCC I.hok e (fun _ z=>nomatch z) (fun _ z=>nomatch z) fun H' k1 k2=>(I.hok a _ e).2.stay (fun _ _ _ z=>z) (fun c z=>k1 c a z) k2
def zEl (t:TE):TE:=fun σ H Q=>∃a kvs,H a=some (.dK kvs)/\t σ H fun v H'=>∃ob,H' a=some (.frz ob (.dK kvs))/\Q v (upd H' a (.dK kvs))
theorem zCz {e:Expr} {t:TE} (h:PE X e t):PE X e (zEl t):=by
 intro pins s σ H Q I ⟨a,kvs,ha,q⟩
 have h0:∀o u,X.H₀ a≠some (.frz o u):=fun o u z=>by
  have:=I.base.frzs a o u z
  rw[ha]at this
  cases this
 refine thn (h pins s σ H _ I q) fun v s1 ⟨x,H1,I1,r1,ob,e1,q1⟩=>⟨x,_,I1.thaw e1 h0,r1,q1⟩
end
def zEy (a:Addr) (ob:Obj) (kvs:List (Key × V)):It:=
 ⟨fun i H=>H a=some (.frz ob (.dK kvs))/\i<kvs.length,fun i H x H'=>H'=H/\∃k,kvs[i]?=some (k,x),fun i H=>H a=some (.frz ob (.dK kvs))/\kvs.length<=i⟩
theorem zCD {κ:Type}:∀{kvs:List (κ × V)} {vs:List (κ × Value)} {i:Nat} {k:κ} {x:V},KV kvs vs->kvs[i]?=some (k,x)->∃u,vs[i]?=some (k,u)/\RelV x u
 |_,_,_,_,_,.nil,e=>by simp at e
 |(k',x')::_,(k2,u)::_,0,k,x,.cons r _,e=>by
  simp at e
  obtain⟨rfl,rfl⟩:=e
  have r1:k'=k2:=r.1
  subst r1
  exact⟨u,rfl,r.2⟩
 |_::_,_::_,i+1,k,x,.cons _ t,e=>by
  have:=zCD (i:=i) t (by simpa using e)
  simpa using this
theorem zAS {P:Program} {w:World} {K:PySem.W.Frag} {tg:Expr} (it a:Addr) (ob:Obj) (kvs:List (Key × V)) (hia:it≠a):
 Turn P w K tg (zEy a ob kvs) [it] it (fun i h=>∃es ep,ob.data=.dict es ep/\h.IsValIter it a i kvs.length ep) where
 mem:=by simp
 obj:=fun i h st b hb=>by
  have e:b=it:=by simpa using hb
  subst e
  obtain⟨_,_,_,o,e,c,d⟩:=st
  exact⟨o,e,fun v q=>by rw[d]at q;cases q⟩
 keep:=fun i h h' st k=>let ⟨es,ep,d,q⟩:=st;⟨es,ep,d,q.at fun o e=>k it (by simp) o e⟩
 item:=by
  intro X hP hw hK hc i pins s σ H E I hf st hg
  subst hP hw hK
  obtain⟨ha,hi⟩:=hg
  obtain⟨es,ep,hd,hit⟩:=st
  obtain⟨go,_,_,vs,rel,o,es',ep',g1,g2,g3,g4⟩:=I.hok a _ ha
  rw[go]at g1
  cases g1
  rw[hd]at g3
  cases g3
  have hl:=rel.length
  have dat:s.heap.DictAt (z0r X.prog X.w) a vs ep:=⟨ob,es,go,g2,hd,g4⟩
  rw[hl]at hit
  have hx:kvs[i]?=some kvs[i]:=List.getElem?_eq_getElem hi
  obtain⟨u,hu,ru⟩:=zCD (k:=kvs[i].1) (x:=kvs[i].2) rel hx
  obtain⟨f0,f1,f2,f3,f4,f5⟩:=hf it (by simp)
  refine wpAny_pyNext_values_item hit dat hu fun h' st' sb=>?_
  have I1:Inv X pins σ H {s with heap:=h'}:=I.turned (t':=s.toks) (fun b o hb e=>(sb.2 b hb).trans e) f0 f1 f3 f4 f5
  obtain⟨o,e,c,d⟩:=id st'
  exact⟨u,rfl,z8K (s:={s with heap:=h'}) e c d (by decide) ⟨kvs[i].2,H,I1,ru,⟨rfl,kvs[i].1,hx⟩,⟨es,ep,hd,by rw[hl];exact st'⟩,fun b hb=>(hf b hb).1⟩⟩
 done:=by
  intro X hP hw hK hc i pins s σ H E I hf st hg
  subst hP hw hK
  obtain⟨ha,hi⟩:=hg
  obtain⟨es,ep,hd,hit⟩:=st
  obtain⟨go,_,_,vs,rel,o,es',ep',g1,g2,g3,g4⟩:=I.hok a _ ha
  rw[go]at g1
  cases g1
  rw[hd]at g3
  cases g3
  have hl:=rel.length
  have dat:s.heap.DictAt (z0r X.prog X.w) a vs ep:=⟨ob,es,go,g2,hd,g4⟩
  rw[hl]at hit
  obtain⟨f0,f1,f2,f3,f4,f5⟩:=hf it (by simp)
  exact wpAny_pyNext_values_end (I.ok.hd hc) hit dat (List.getElem?_eq_none (by omega)) fun h' eb=>⟨rfl,I.turned (t':=s.toks) (fun b o hb e=>eb b o hb e) f0 f1 f3 f4 f5⟩
 self:=fun _ _ _ _ _ st h=>let ⟨_,_,_,q⟩:=st;wpAny_pyIter_valiter q h
section
variable {X:Cx} {tg:Expr}
def zEm (td:TE):TI:=fun σ H R=>td σ H fun x H1=>∃a kvs,x=.ref a/\H1 a=some (.dK kvs)/\∀ob,R (zEy a ob kvs) (upd H1 a (.frz ob (.dK kvs)))
theorem zD0 {o:Expr} {td:TE} {apos cpos:Pos} (ho:PE X o td) (hbase:attributeBase o ("values":Str) X.env (eval o X.env)=eval o X.env:=by rfl) (hline:(apos.endLine==cpos.line)=true:=by rfl):
 PI X tg (.Call (.Attribute o "values" apos) [] [] cpos) (zEm td):=by
 intro pins s σ H R I h
 refine wpAny_Call_method0_late hbase hline (thn (ho pins s σ H _ I h) fun v s1 ⟨x,H1,I1,r1,a,kvs,ex,ha,q1⟩=>?_)
 subst ex
 cases r1
 have ty:tyV X.K "dict" (.ref a) H1:=.inr (.inr (.inl ⟨rfl,.inl ⟨kvs,ha⟩⟩))
 obtain⟨h1,h2⟩:=z9P I1 (show RelV (.ref a) (.ref a)from rfl) ty
 obtain⟨z,hd,vs,rel,dd⟩:=zEO I1.hok ha
 refine⟨"dict","dict.values",PySem.F.plainAttrs_dict,PySem.F.slot_dict_values,PySem.F.type_dict_values,h1,h2,Calls.callWith_builtin rfl (PySem.evalArgs_none ?_)⟩
 refine call_meetsIn PySem.F.slot_dict_values dd.typeIs PySem.F.entry_dict_values (PySem.F.args_dict_values_1 _) (meets_dict_values (z0r X.prog X.w) a hd) ⟨⟨vs,dd⟩,?_⟩
 obtain⟨ob,es,ep,g1,g2,g3,g4⟩:=id dd
 have lt:a<s1.heap.objs.size:=Heap.lt_size g1
 have dv:(s1.heap.push {cls:=.type "dict_values",data:=.fields #[.ref a]}).IsValuesView s1.heap.objs.size a:=⟨_,Heap.get?_push_size _ rfl,rfl,rfl⟩
 have da:(s1.heap.push {cls:=.type "dict_values",data:=.fields #[.ref a]}).DictAt (z0r X.prog X.w) a vs ep:=⟨ob,es,Heap.get?_push_of_some _ g1,g2,g3,g4⟩
 refine wpAny_pyIter_values (s:={s1 with heap:=s1.heap.push {cls:=.type "dict_values",data:=.fields #[.ref a]}}) dv da ?_
 have hz:(s1.heap.push {cls:=.type "dict_values",data:=.fields #[.ref a]}).objs.size=s1.heap.objs.size+1:=Heap.size_push ..
 have I2:=I1.kept (t':=s1.toks) (h':=(s1.heap.push {cls:=.type "dict_values",data:=.fields #[.ref a]}).push {cls:=.type "dict_valueiterator",data:=.fields #[.ref a,.int 0 0,.int vs.length 0,.int ep 0]}) fun b o e=>Heap.get?_push_of_some _ (Heap.get?_push_of_some _ e)
 have I3:=I2.freeze ha (ob:=ob) (Heap.get?_push_of_some _ (Heap.get?_push_of_some _ g1))
 have hl:=rel.length
 refine⟨(s1.heap.push {cls:=.type "dict_values",data:=.fields #[.ref a]}).objs.size,[(s1.heap.push {cls:=.type "dict_values",data:=.fields #[.ref a]}).objs.size],_,_,_,rfl,I3,zAS _ a ob kvs (by rw[hz];exact Nat.ne_of_gt (Nat.lt_succ_of_lt lt)),⟨es,ep,g3,_,Heap.get?_push_size _ rfl,rfl,by rw[hl];rfl⟩,fun b hb=>?_,q1 ob⟩
 have e:b=(s1.heap.push {cls:=.type "dict_values",data:=.fields #[.ref a]}).objs.size:=by simpa using hb
 subst e
 have le:s1.heap.objs.size<=(s1.heap.push {cls:=.type "dict_values",data:=.fields #[.ref a]}).objs.size:=by rw[hz];exact Nat.le_succ _
 refine I1.fpOk le ?_
 rw[z06 (by rw[hz];exact Nat.ne_of_gt (Nat.lt_succ_of_lt lt))]
 exact I1.hok.fresh le
end
theorem zAT {z:Str} {g:TG} {tb:TS} {D:Ends} {σ:St} {H:Hp} (Pv:Nat->St->Hp->Prop) (h0:Pv 0 σ H)
 (hs:∀i c σ H T,z.cps[i]?=some c->Pv i σ H->H T=none->g (.ref T) σ (upd H T (.tup [.int i,.str ⟨#[c]⟩])) fun σ2 H2=>tb {D with nx:=Pv (i+1),ct:=Pv (i+1),bk:=D.nx} σ2 H2) (hd:∀σ H,Pv z.cps.size σ H->D.nx σ H):
 ∃W:Nat->Nat->St->Hp->Prop,(∃m,W 0 m σ H)/\∀i m σ H,W i m σ H->
  ((zDo z).stop i H/\D.nx σ H)\/((zDo z).go i H/\∃N:St->Hp->Prop,(∀σ' H',N σ' H'->∃m',m'<m/\W (i+1) m' σ' H')/\∀x H',(zDo z).yld i H x H'->g x σ H' fun σ2 H2=>tb {D with nx:=N,ct:=N,bk:=D.nx} σ2 H2):=by
 refine⟨fun i m σ H=>m=z.cps.size-i/\i<=z.cps.size/\Pv i σ H,⟨z.cps.size,by simp,Nat.zero_le _,h0⟩,?_⟩
 rintro i m σ H ⟨rfl,hi,p⟩
 by_cases hlt:i<z.cps.size
 .refine .inr ⟨hlt,Pv (i+1),fun σ' H' p'=>⟨z.cps.size-(i+1),by omega,rfl,hlt,p'⟩,fun x H' y=>?_⟩
  obtain⟨T,c,nT,rfl,rfl,hc⟩:=y
  exact hs i c σ H T hc p nT
 .have e:i=z.cps.size:=by omega
  subst e
  exact .inl ⟨rfl,hd σ H p⟩
theorem zAU:typeLookup (.type "list") "keys"=pure none:=am_miss_of_fast (by decide+kernel)
theorem z8l {prog:Program} {w:World} {A:Around} {E:Value->Shared->Prop} {s:Shared} {a:Addr} {o:Obj} {xs:Array Value} {k:Nat} {Q:Option Value->Shared->Prop}
 (hx:s.heap.get? a=some o) (hc:o.cls=.type "list") (hdat:o.data=.seq xs k) (hd:o.dict=none) (hA:A.handled=none)
 (h:∀h' tk e,Heap.NewExcOf s.heap h' e "AttributeError"->Q none {s with heap:=h',toks:=tk}):
 wpAny (model prog w) A (getAttr? (.ref a) "keys") Q E s:=by
 obtain⟨c,dc,dt,sl⟩:=o
 simp only at hc hdat hd
 subst hc hdat hd
 obtain⟨hp,gs,dr,tk,os⟩:=s
 have hT:∀tk',(⟨hp,gs,dr,tk',os⟩:Shared).TypeIs (.ref a) "list":=fun _=>⟨_,hx,rfl⟩
 have y1:=sub_AttributeError
 have y3:=F.slot_list_getattribute.lookup
 have y4:=F.slot_list_getattribute.bind (.ref a)
 have y5:=am_list_getattr_none
 unfold getAttr? getAttrBy? getAttrBy
 repeat (any_goals (first|assumption|exact hT _|((with_reducible show wpAny _ _ (call (Value.builtin "list.__getattribute__") _ _) _ _ _);refine call_meets F.slot_list_getattribute (hT _) am_entry_list_getattribute (F.args_list_getattribute_2 _ _) (meets_getattribute_miss_list a xs k sl "keys" _ zAU (by decide+kernel) (by size_fits)) ⟨hx,hA,fun h' tk' e hx'=>?_⟩)|wp_step))
 obtain⟨t',u',he⟩:=hx'.there
 show wpAny (model prog w) _ (getattributeRaised _ _ _ _ _ _ _) _ _ _
 unfold getattributeRaised
 repeat (any_goals first|assumption|wp_step)
 exact h _ _ _ hx'.of
theorem z3H:plainId "dict.update.loop"=true:=by decide+kernel
theorem z6L:entryFor table "dict.update.loop"=some Builtin.«dict.update.loop»:=entryFor_of_tree (by kernel_rfl)
section
variable {prog:Program} {w:World} {K:Type} [DecidableEq K] {knd:KeyKind prog w K} {A:Around}
noncomputable def z7E (m kv:List (K × Value)):List (K × Value):=kv.foldl (fun m p=>stored m p.1 p.2) m
theorem zBY {R:Result->Shared->Prop} (hh:A.handled=none) {d l it:Addr} (hdi:d≠it) (hdl:d≠l) (hli:l≠it) {items:Array Value} {kv:List (K × Value)} (hkl:kv.length=items.size):
 ∀(n i:Nat) (z:Int) (s:Shared) (m:List (K × Value)),items.size-i=n->i<=items.size->s.heap.IsListIter it l i->s.heap.IsList l items->s.heap.DictOf knd d m->m.length+n<=sizeLine->
 (∀j,i<=j->(hj:j<items.size)->∃T key,items[j]?=some (.ref T)/\T≠d/\T≠it/\s.heap.IsTuple T #[key,(kv[j]'(by omega)).2]/\knd.is (kv[j]'(by omega)).1 key=true)->
 (∀h' tk,h'.DictOf knd d (z7E m (kv.drop i))->(∀b o,b≠d->b≠it->s.heap.get? b=some o->h'.get? b=some o)->R (.ok (.ret .none)) {s with heap:=h',toks:=tk})->
 codeAny (model prog w) A (.builtin "dict.update.loop" ⟨[.ref d,.ref it,rawInt z,.none],[]⟩) R s:=by
 intro n
 have hh1:A.in1.handled=none:=hh
 induction n with
 |zero=>
  intro i z s m hn hi hit hl hd hm hT k
  have e:i=items.size:=by omega
  subst e
  refine codeAny_builtin z6L ?_
  rw[Around.under_plainId z3H _]
  show wpAny _ A.in1 (pyNext (.ref it)>>=_) _ _ s
  refine wpAny_bind (wpAny_pyNext_list_end hh1 hit hl (by simp) fun h' eb=>?_)
  show wpAny _ A.in1 (Builtin.Dict.addKeywords d []>>=_) _ _ _
  refine wpAny_bind (wpAny_pure ?_)
  refine wpAny_pure (k h' s.toks ?_ fun b o _ b2 e=>eb b o b2 e)
  rw[List.drop_of_length_le (by omega)]
  exact hd.extBut eb hdi
 |succ n ih=>
  intro i z s m hn hi hit hl hd hm hT k
  have hlt:i<items.size:=by omega
  obtain⟨T,key,e1,e2,e3,e4,e5⟩:=hT i (Nat.le_refl _) hlt
  refine codeAny_builtin z6L ?_
  rw[Around.under_plainId z3H _]
  show wpAny _ A.in1 (pyNext (.ref it)>>=_) _ _ s
  refine wpAny_bind (wpAny_pyNext_list_item hit hl e1 fun h' hit' sb=>?_)
  have t1:h'.IsTuple T #[key,(kv[i]'(by omega)).2]:=e4.extBut sb.extBut e3
  have d1:h'.DictOf knd d m:=hd.extBut sb.extBut hdi
  have l1:h'.IsList l items:=hl.extBut sb.extBut hli
  obtain⟨o,g1,g2,n1,g3⟩:=id t1
  show wpAny _ A.in1 (holding [Value.ref T] _>>=_) _ _ _
  refine wpAny_bind (wpAny_holding (wpAny_bind (wpAny_tryCatch ?_)))
  unfold Builtin.Dict.pairItems
  refine wpAny_bind (wpAny_typeOf (T:="tuple") ⟨o,g1,g2⟩ ?_)
  simp only[beq_self_eq_true,Bool.or_true,if_true]
  refine wpAny_bind (wpAny_seqItems g1 g3 (wpAny_pure ?_))
  show wpAny _ A.in1 (holding [key,(kv[i]'(by omega)).2] (dictSet d key (kv[i]'(by omega)).2)) _ _ _
  refine wpAny_holding (wpAny_dictSet_pairs (hsz:=by omega) e5 d1 fun h2 d2 sb2=>?_)
  refine wpAny_pure ⟨plainId_quiet z3H _,?_⟩
  have ke:kv.drop i=kv[i]'(by omega)::kv.drop (i+1):=List.drop_eq_getElem_cons (by omega)
  refine ih (i+1) (z+1) _ (stored m (kv[i]'(by omega)).1 (kv[i]'(by omega)).2) (by omega) hlt (hit'.extBut sb2.extBut hdi.symm) (l1.extBut sb2.extBut hdl.symm) d2 ?_ (fun j hj hj2=>?_) fun h3 tk d3 kk=>?_
  .have:(stored m (kv[i]'(by omega)).1 (kv[i]'(by omega)).2).length<=m.length+1:=by
    unfold stored
    split
    .rw[List.length_map];omega
    .rw[List.length_append];exact Nat.le_refl _
   omega
  .obtain⟨T',key',f1,f2,f3,f4,f5⟩:=hT j (by omega) hj2
   exact⟨T',key',f1,f2,f3,(f4.extBut sb.extBut f3).extBut sb2.extBut f2,f5⟩
  .refine k h3 tk ?_ fun b o b1 b2 e=>kk b o b1 b2 (sb2.extBut b o b1 (sb.extBut b o b2 e))
   rw[ke]
   exact d3
theorem z4J {E:Value->Shared->Prop} {s:Shared} {Q:Value->Shared->Prop} (hh:A.handled=none) {l:Addr} {items:Array Value} {o:Obj} {c:Nat}
 (hx:s.heap.get? l=some o) (hc:o.cls=.type "list") (hdat:o.data=.seq items c) (hdn:o.dict=none) {kv:List (K × Value)} (hkl:kv.length=items.size) (hsz:items.size<=sizeLine)
 (hT:∀j,(hj:j<items.size)->∃T key,items[j]?=some (.ref T)/\s.heap.IsTuple T #[key,(kv[j]'(by omega)).2]/\knd.is (kv[j]'(by omega)).1 key=true)
 (k:∀h' tk,h'.DictOf knd s.heap.objs.size (z7E [] kv)->(∀b o,s.heap.get? b=some o->h'.get? b=some o)->Q (.ref s.heap.objs.size) {s with heap:=h',toks:=tk}):
 wpAny (model prog w) A (call (.type "dict") [.ref l]) Q E s:=by
 refine callType_codes (Q₁:=fun ob sa=>ob=.ref s.heap.objs.size/\sa={s with heap:=s.heap.push {cls:=.type "dict",data:=.dict #[]}}) F.kt_called_dict (F.kt_typeCall_dict_1 _) F.entry_dict_init (kt_code_dict_new _ ⟨rfl,rfl⟩) ?_
 rintro obj sa ⟨rfl,rfl⟩
 have n0:(s.heap.push {cls:=.type "dict",data:=.dict #[]}).DictOf knd s.heap.objs.size []:=Heap.DictOf.new s.heap
 have hx':(s.heap.push {cls:=.type "dict",data:=.dict #[]}).get? l=some o:=Heap.get?_push_of_some _ hx
 have llt:l<s.heap.objs.size:=Heap.lt_size hx
 refine⟨n0.typeIs,F.args_dict_init_2 _ _,?_⟩
 unfold Builtin.«dict.__init__» Builtin.Dict.selfAndRest
 refine wpAny_bind ?_
 refine wpAny_bind (wpAny_notOrdered_dict n0.typeIs ?_)
 show wpAny _ _ (pure (s.heap.objs.size,[Value.ref l])) _ _ _
 refine wpAny_pure ?_
 show wpAny _ _ (Builtin.Dict.updateFrom "dict.__init__" s.heap.objs.size (.ref l) [] .none) _ _ _
 unfold Builtin.Dict.updateFrom
 refine wpAny_bind (wpAny_typeOf (T:="list") ⟨o,hx',hc⟩ ?_)
 rw[if_pos (by decide)]
 refine wpAny_bind (z8l (s:={s with heap:=s.heap.push {cls:=.type "dict",data:=.dict #[]}}) hx' hc hdat hdn hh fun h1 tk e ne=>?_)
 rw[if_pos (by decide)]
 refine wpAny_bind (wpAny_rule ?_)
 have k1:∀b ob,(s.heap.push {cls:=.type "dict",data:=.dict #[]}).get? b=some ob->h1.get? b=some ob:=ne.keeps
 have hl1:h1.IsList l items:=⟨o,k1 _ _ hx',hc,c,hdat⟩
 have hd1:h1.DictOf knd s.heap.objs.size []:=let ⟨o',es,ep,g,r⟩:=n0;⟨o',es,ep,k1 _ _ g,r⟩
 refine wpAny_bind (wpAny_pyIter_list (s:={s with heap:=h1,toks:=tk}) hl1 ?_)
 have lt1:∀{b ob},(s.heap.push {cls:=.type "dict",data:=.dict #[]}).get? b=some ob->b<h1.objs.size:=fun e=>Heap.lt_size (k1 _ _ e)
 have dlt:s.heap.objs.size<h1.objs.size:=let ⟨_,_,_,g,_⟩:=hd1;Heap.lt_size g
 have llt1:l<h1.objs.size:=Heap.lt_size (k1 _ _ hx')
 refine wpAny_pure ⟨plainId_quiet z3H _,?_⟩
 have pk:∀b ob,h1.get? b=some ob->(h1.push {cls:=.type "list_iterator",data:=.fields #[.ref l,.int 0 0]}).get? b=some ob:=fun b ob e=>Heap.get?_push_of_some _ e
 refine zBY (knd:=knd) (A:=A.in1) (d:=s.heap.objs.size) (l:=l) (it:=h1.objs.size) hh (Nat.ne_of_lt dlt) (Nat.ne_of_gt llt) (Nat.ne_of_lt llt1) (items:=items) (kv:=kv) hkl items.size 0 0 _ [] (Nat.sub_zero _) (Nat.zero_le _) ⟨_,Heap.get?_push_size _ rfl,rfl,rfl⟩ (hl1.push _) (hd1.push _) (by simpa using hsz) (fun j _ hj=>?_) fun h' tk' dd kk=>?_
 .obtain⟨T,key,e1,⟨ot,g1,g2⟩,e3⟩:=hT j hj
  have tlt:T<s.heap.objs.size:=Heap.lt_size g1
  exact⟨T,key,e1,Nat.ne_of_lt tlt,Nat.ne_of_lt (Nat.lt_trans tlt dlt),⟨ot,pk _ _ (k1 _ _ (Heap.get?_push_of_some _ g1)),g2⟩,e3⟩
 .refine⟨rfl,k h' tk' dd fun b ob e=>?_⟩
  have blt:b<s.heap.objs.size:=Heap.lt_size e
  exact kk b ob (Nat.ne_of_lt blt) (Nat.ne_of_lt (Nat.lt_trans blt dlt)) (pk _ _ (k1 _ _ (Heap.get?_push_of_some _ e)))
end
def putAll (m kvs:List (Key × V)):List (Key × V):=kvs.foldl (fun m p=>putK m p.1 p.2) m
theorem zCE:∀{kvs:List (Key × V)} {vs:List (Key × Value)} {m:List (Key × V)} {n:List (Key × Value)},KV kvs vs->KV m n->KV (putAll m kvs) (z7E n vs)
 |_,_,_,_,.nil,r=>r
 |(k,v)::kvs,(k',u)::vs,m,n,.cons q t,r=>by
  obtain⟨e,rv⟩:=q
  have e:k=k':=e
  subst e
  exact zCE (kvs:=kvs) (vs:=vs) t (r.put k rv)
theorem z6M:∀{ts:List Addr} {us:List Value},Vals (ts.map V.ref) us->us=ts.map Value.ref
 |[],_,.nil=>rfl
 |t::ts,_,.cons q r=>by
  cases (show _=Value.ref t from q)
  rw[z6M r]
  rfl
section
variable {X:Cx} {pins:List (Addr × Obj)} {σ:St} {H:Hp} {s:Shared}
theorem z89 (I:Inv X pins σ H s):∀{ts:List Addr} {kvs:List (Key × V)},kvs.length=ts.length->(∀(i:Nat) t k v,ts[i]?=some t->kvs[i]?=some (k,v)->H t=some (.tup [kV k,v]))->
 ∃vs:List (Key × Value),KV kvs vs/\vs.length=ts.length/\∀(j:Nat) t p,ts[j]?=some t->vs[j]?=some p->∃key,s.heap.IsTuple t #[key,p.2]/\(z0r X.prog X.w).is p.1 key=true
 |[],[],_,_=>⟨[],.nil,rfl,fun _ _ _ e=>by simp at e⟩
 |[],_::_,hl,_=>by cases hl
 |_::_,[],hl,_=>by cases hl
 |t::ts,(k,v)::kvs,hl,h=>by
  obtain⟨vs,r1,r2,r3⟩:=z89 I (ts:=ts) (kvs:=kvs) (by simpa using hl) fun i t' k' v' e1 e2=>h (i+1) t' k' v' (by simpa using e1) (by simpa using e2)
  obtain⟨_,its,r,p⟩:=I.hok t _ (h 0 t k v rfl rfl)
  cases r with
  |@cons _ u1 _ _ x1 r=>cases r with
   |@cons _ u2 _ _ x2 r=>
    cases r
    refine⟨(k,u2)::vs,.cons ⟨rfl,x2⟩ r1,by rw[List.length_cons,List.length_cons,r2],fun j t' p' e1 e2=>?_⟩
    cases j with
    |zero=>
     cases e1
     cases e2
     exact⟨u1,p,zB7 x1⟩
    |succ j=>exact r3 j t' p' (by simpa using e1) (by simpa using e2)
theorem z3X (hc:X.calm=true):z2a X (.type "dict") (fun xs H Q=>∃(l:Addr) (ts:List Addr) (kvs:List (Key × V)),xs=[.ref l]/\SqL X.K H l (ts.map V.ref)/\kvs.length=ts.length/\(putAll [] kvs).length<=sizeLine/\
 (∀(i:Nat) t k v,ts[i]?=some t->kvs[i]?=some (k,v)->H t=some (.tup [kV k,v]))/\∀p,H p=none->Q (.ref p) (upd H p (.dK (putAll [] kvs)))):=by
 intro pins s σ H xs us Q I r h
 obtain⟨l,ts,kvs,rfl,hq,hl,hp,ht,q⟩:=h
 obtain⟨u,rfl,ru⟩:=vals1 r
 cases (show u=Value.ref l from ru)
 obtain⟨its,rv,⟨o,n,e,c1,c2,c3⟩,hz⟩:=I.list hq
 have ei:=z6M rv
 subst ei
 obtain⟨vs,r1,r2,r3⟩:=z89 I hl ht
 have hh:X.A.handled=none:=I.ok.hd hc
 have sz:(ts.map Value.ref).toArray.size=ts.length:=by simp
 refine z4J (knd:=z0r X.prog X.w) (kv:=vs) hh e c1 c3 c2 (by rw[sz];exact r2) (by rw[sz];simpa using hz) (fun j hj=>?_) fun h' tk dd kk=>?_
 .rw[sz]at hj
  obtain⟨key,g1,g2⟩:=r3 j (ts[j]'hj) (vs[j]'(by omega)) (List.getElem?_eq_getElem hj) (List.getElem?_eq_getElem _)
  exact⟨ts[j]'hj,key,by simp[hj],g1,g2⟩
 .exact⟨.ref s.heap.objs.size,_,I.laid (a:=s.heap.objs.size) (o:=.dK (putAll [] kvs)) (t':=tk) kk (Nat.le_refl _) (zDO hp (beq_eq_false_iff_ne.mpr (Ne.symm (Nat.ne_of_lt I.big))) (zCE r1 .nil) dd),rfl,q _ (I.hok.fresh (Nat.le_refl _))⟩
end
section
variable {X:Cx} {sc:Scope} {cl:List (Str × Addr)} {C:Addr} {N:List Str} {fp:List Addr} {s2:Shared} {H2:Hp} {pn:List (Addr × Obj)} {e o i:Expr} {ta td ty:TE} {f:Str} {pos:Pos}
theorem zD1 (he:PE (cxC X sc cl C N fp s2 H2 pn) e ta) (hb:attributeBase e f (cxC X sc cl C N fp s2 H2 pn).env (eval e (cxC X sc cl C N fp s2 H2 pn).env)=eval e (cxC X sc cl C N fp s2 H2 pn).env):
 PE (cxC X sc cl C N fp s2 H2 pn) (.Attribute e f pos) (zEs X.K ta f):=z0d he hb
theorem zBZ (hu:X.A.units+1<cLine) (ho:PE (cxC X sc cl C N fp s2 H2 pn) o td) (hi:PE (cxC X sc cl C N fp s2 H2 pn) i ty) (hs:zEQ i):
 PE (cxC X sc cl C N fp s2 H2 pn) (.Subscript o i pos) (zDP td ty):=z9T hu ho hi hs
end
end L2
namespace L2
open PySem PySem.Spec PyProof.Rows G
structure FontOk (hg:Nat) (Ss:List Sg):Prop where
 n1:1<=Ss.length
 n2:Ss.length<=60
 nd:(Ss.map (·.c)).Nodup
 sg:∀S∈Ss,S.c∈sgnL
 rect:∀S∈Ss,Rect S.w hg S.rows
noncomputable def firstBad (Ss:List Sg):List Nat->Nat->Option (Nat × Nat)
 |[],_=>none
 |c::cs,i=>if known Ss c=true then firstBad Ss cs (i+1)else some (c,i)
theorem z1F {Ss:List Sg}:∀{cs:List Nat} {i:Nat},(∀c∈cs,known Ss c=true)->firstBad Ss cs i=none
 |[],_,_=>rfl
 |c::cs,i,h=>by
  show(if known Ss c=true then firstBad Ss cs (i+1)else some (c,i))=none
  rw[if_pos (h c List.mem_cons_self)]
  exact z1F fun d hd=>h d (List.mem_cons_of_mem _ hd)
theorem z2O {Ss:List Sg}:∀{cs:List Nat} {i:Nat},(∃c∈cs,known Ss c=false)->∃c j,firstBad Ss cs i=some (c,j)
 |[],_,⟨_,h,_⟩=>nomatch h
 |c::cs,i,⟨d,hd,e⟩=>by
  show∃c' j,(if known Ss c=true then firstBad Ss cs (i+1)else some (c,i))=some (c',j)
  by_cases k:known Ss c=true
  .rw[if_pos k]
   rcases List.mem_cons.mp hd with rfl|hd
   .rw[k]at e;cases e
   .exact z2O ⟨d,hd,e⟩
  .rw[if_neg k]
   exact⟨c,i,rfl⟩
theorem z2P {Ss:List Sg}:∀{cs:List Nat} {i k:Nat} {c:Nat},(∀d∈cs.take k,known Ss d=true)->cs[k]?=some c->known Ss c=false->firstBad Ss cs i=some (c,i+k)
 |[],_,_,_,_,e,_=>by simp at e
 |d::cs,i,0,c,_,e,h=>by
  simp at e
  subst e
  show(if known Ss d=true then firstBad Ss cs (i+1)else some (d,i))=some (d,i+0)
  rw[if_neg (by rw[h];exact Bool.false_ne_true)]
  rfl
 |d::cs,i,k+1,c,hk,e,h=>by
  show(if known Ss d=true then firstBad Ss cs (i+1)else some (d,i))=some (c,i+(k+1))
  rw[if_pos (hk d (by simp)),z2P (k:=k) (fun x hx=>hk x (by simp[hx])) (by simpa using e) h]
  congr 2
  omega
def PicsAt (hg:Nat) (H:Hp) (d:Addr) (Ss:List Sg):Prop:=∃ps:List Addr,ps.length=Ss.length/\H d=some (.dK ((Ss.zip ps).map fun p=>(Sum.inr (one p.1.c),V.ref p.2)))/\∀(i:Nat) S p,Ss[i]?=some S->ps[i]?=some p->PicAt H p S.w S.rows
theorem PicsAt.mono {hg:Nat} {H H':Hp} {d:Addr} {Ss:List Sg} (s:Same H H') (h:PicsAt hg H d Ss):PicsAt hg H' d Ss:=let ⟨ps,a,b,c⟩:=h;⟨ps,a,s _ _ b,fun i S p x y=>(c i S p x y).mono s⟩
def FA (C:Addr) (H:Hp) (f:Addr) (hg:Nat) (Ss:List Sg) (gap:Int):Prop:=∃dx d,H f=some (.ins C dx [("pics",.ref d),("high",.int hg),("gap",.int gap)])/\PicsAt hg H d Ss
theorem FA.mono {C:Addr} {H H':Hp} {f:Addr} {hg:Nat} {Ss:List Sg} {gap:Int} (s:Same H H') (h:FA C H f hg Ss gap):FA C H' f hg Ss gap:=let ⟨dx,d,a,b⟩:=h;⟨dx,d,s _ _ a,b.mono s⟩
theorem FA.ins {C:Addr} {H:Hp} {f:Addr} {hg:Nat} {Ss:List Sg} {gap:Int} (h:FA C H f hg Ss gap):∃dx fs,H f=some (.ins C dx fs)/\fs.lookup ("width":Str)=none/\fs.lookup ("height":Str)=none/\fs.lookup ("band":Str)=none/\fs.lookup ("pics_of":Str)=none:=by
 obtain⟨dx,d,a,_⟩:=h
 have k:∀n:Str,(n==("pics":Str))=false->(n==("gap":Str))=false->(n==("high":Str))=false->([("pics",V.ref d),("high",.int hg),("gap",.int gap)]:List (Str × V)).lookup n=none:=fun n u v w=>by simp only[List.lookup,u,v,w]
 exact⟨dx,_,a,k _ (by decide+kernel) (by decide+kernel) (by decide+kernel),k _ (by decide+kernel) (by decide+kernel) (by decide+kernel),k _ (by decide+kernel) (by decide+kernel) (by decide+kernel),k _ (by decide+kernel) (by decide+kernel) (by decide+kernel)⟩
def zBa (z:Str):Prop:=∀c∈z.cps.toList,c∈sgnL
theorem TextOf.inSg {hg:Nat} {Ss:List Sg} {z:Str} (O:FontOk hg Ss) (h:TextOf Ss z):zBa z:=fun c hc=>by
 obtain⟨S,hS,e⟩:=List.any_eq_true.mp (h c hc)
 rw[<-of_decide_eq_true e]
 exact O.sg S hS
theorem zD2:∀c∈sgnL,(reprText (one c)).length<=100000:=by decide+kernel
def SameB (x:Addr) (H H':Hp):Prop:=∀b o,b≠x->H b=some o->H' b=some o
theorem SameB.fresh {x dx:Addr} {H H':Hp} {o u:HO} (nx:H x=none) (nd:H dx=none) (s:SameB x (upd (upd H dx u) x o) H'):Same H H':=fun b v e=>s b v (z0A e nx) (by rw[z06 (z0A e nx),z06 (z0A e nd)];exact e)
def z7F (C:Addr):Sp:=fun vs H Q _=>∃(x dx l:Addr) (us:List Addr) (Ss:List Sg) (hg:Nat) (gap:Int),vs=[.ref x,.ref l,.int gap]/\H x=some (.ins C dx [])/\PrsAt hg H l us Ss/\FontOk hg Ss/\0<=gap/\gap<=8/\
 ∀H',SameB x H H'->FA C H' x hg Ss gap->Q .non H'
theorem zBb {hg:Nat} {H:Hp} {l:Addr} {ts:List Addr} {Ss:List Sg} {st:Int} (SA:SgsAt hg H l ts Ss) (h1:1<=Ss.length) (h2:Ss.length<=60) (hc:∀(i:Nat) S,Ss[i]?=some S->S.c=z5L (st+37*i)):FontOk hg Ss:=by
 refine⟨h1,h2,?_,fun S hS=>?_,fun S hS=>?_⟩
 .refine List.pairwise_iff_getElem.mpr fun i j hi hj hij=>?_
  rw[List.length_map]at hi hj
  rw[List.getElem_map,List.getElem_map,hc i _ (List.getElem?_eq_getElem hi),hc j _ (List.getElem?_eq_getElem hj)]
  intro e
  have:=z80 e
  omega
 .obtain⟨i,hi,e⟩:=List.mem_iff_getElem.mp hS
  rw[<-e,hc i _ (List.getElem?_eq_getElem hi)]
  unfold z5L
  have h1:=Int.emod_nonneg (st+37*i) (show(94:Int)≠0 by decide)
  have h2:=Int.emod_lt_of_pos (st+37*i) (show(0:Int)<94 by decide)
  have hj:((st+37*i)%94).toNat<sgnL.length:=by rw[z3C];omega
  rw[List.getD_eq_getElem?_getD,List.getElem?_eq_getElem hj]
  exact List.getElem_mem hj
 .obtain⟨i,hi,e⟩:=List.mem_iff_getElem.mp hS
  obtain⟨t,_,⟨_,_,_,_,R⟩,_⟩:=SA.get hi
  rw[e]at R
  exact R
theorem beyond {Ss:List Sg} {st:Int} {j:Nat} (hc:∀(i:Nat) S,Ss[i]?=some S->S.c=z5L (st+37*i)) (h1:Ss.length<=j) (h2:j<94):known Ss (z5L (st+37*j))=false:=by
 cases e:known Ss (z5L (st+37*j))with
 |false=>rfl
 |true=>
  obtain⟨S,hS,z⟩:=List.any_eq_true.mp e
  obtain⟨i,hi,ei⟩:=List.mem_iff_getElem.mp hS
  have z:=of_decide_eq_true z
  rw[<-ei,hc i _ (List.getElem?_eq_getElem hi)]at z
  have:=z80 z
  omega
section
variable {X:Cx}
def zEn (K:PySem.W.Frag):R2:=fun x y H Q=>∃(a b:Addr) (z z':Str) (i j:Int),x=.ref a/\y=.ref b/\SqT K H a [.str z,.int i]/\SqT K H b [.str z',.int j]/\Q (.bl ((z==z')&&(i==j))) H
theorem zAV (hu:X.A.units+1<cLine):OpR X (compareOp .Eq) (zEn X.K):=by
 intro pins s σ H x y v u Q I rx ry h0
 obtain⟨a,b,z,z',i,j,rfl,rfl,ha,hb,q⟩:=h0
 cases rx
 cases ry
 obtain⟨its,r1,p1,_⟩:=I.tuple ha
 obtain⟨its2,r2,p2,_⟩:=I.tuple hb
 cases r1 with
 |@cons _ u1 _ _ x1 r1=>cases r1 with
  |@cons _ u2 _ _ x2 r1=>
   cases r1
   cases r2 with
   |@cons _ v1 _ _ y1 r2=>cases r2 with
    |@cons _ v2 _ _ y2 r2=>
     cases r2
     obtain⟨t1,rfl⟩:=x1
     obtain⟨t2,rfl⟩:=x2
     obtain⟨t3,rfl⟩:=y1
     obtain⟨t4,rfl⟩:=y2
     refine SeqAt.eq_tupleAt (e:=fun k=>match k with|0=>z==z'|_=>i==j) p1 p2 (by omega) (fun k k1 k2=>?_) ⟨.bl _,H,I,rfl,?_⟩
     .have c2:k<2:=k1
      match k,c2 with
      |0,_=>exact SeqAt.EqAt.str_str _ _ _ _
      |1,_=>exact SeqAt.EqAt.int_int _ _ _ _
     .have e:((List.range (min 2 2)).all (fun k=>match k with|0=>z==z'|_=>i==j)&&((2:Nat)==2))=((z==z')&&(i==j)):=by
       show(((z==z')&&((i==j)&&true))&&true)=_
       rw[Bool.and_true,Bool.and_true]
      show Q (.bl ((List.range (min 2 2)).all (fun k=>match k with|0=>z==z'|_=>i==j)&&((2:Nat)==2))) H
      rw[e]
      exact q
end
end L2
namespace L2
open PySem PySem.Spec PyProof.Rows G
theorem z7G {P:Nat->Addr->Prop}:∀n:Nat,(∀i,i<n->∃p,P i p)->∃ps:List Addr,ps.length=n/\∀(i:Nat) p,ps[i]?=some p->P i p
 |0,_=>⟨[],rfl,fun _ _ e=>by simp at e⟩
 |n+1,h=>by
  obtain⟨ps,hl,hp⟩:=z7G n fun i hi=>h i (by omega)
  obtain⟨p,hn⟩:=h n (Nat.lt_succ_self n)
  refine⟨ps++[p],by rw[List.length_append,hl];rfl,fun i q e=>?_⟩
  by_cases hi:i<ps.length
  .rw[List.getElem?_append_left hi]at e
   exact hp i q e
  .rw[List.getElem?_append_right (by omega)]at e
   cases hk:i-ps.length with
   |zero=>
    rw[hk]at e
    cases e
    have:i=n:=by omega
    rw[this]
    exact hn
   |succ m=>
    rw[hk]at e
    cases e
theorem PrsAt.pics {hg:Nat} {H:Hp} {l:Addr} {us:List Addr} {Ss:List Sg} (h:PrsAt hg H l us Ss):∃ps:List Addr,ps.length=Ss.length/\∀(i:Nat) t S p,us[i]?=some t->Ss[i]?=some S->ps[i]?=some p->H t=some (.tup [.str (one S.c),.ref p])/\PicAt H p S.w S.rows/\Rect S.w hg S.rows:=by
 obtain⟨ps,hl,hp⟩:=z7G (P:=fun i p=>∃(hi:i<us.length) (hj:i<Ss.length),H us[i]=some (.tup [.str (one Ss[i].c),.ref p])/\PicAt H p Ss[i].w Ss[i].rows/\Rect Ss[i].w hg Ss[i].rows) Ss.length fun i hi=>by
  have hu:i<us.length:=by rw[h.len];exact hi
  obtain⟨p,a,b,c⟩:=h.at' i _ _ (List.getElem?_eq_getElem hu) (List.getElem?_eq_getElem hi)
  exact⟨p,hu,hi,a,b,c⟩
 refine⟨ps,hl,fun i t S p e1 e2 e3=>?_⟩
 obtain⟨hi,hj,a,b,c⟩:=hp i p e3
 rw[List.getElem?_eq_getElem hi]at e1
 rw[List.getElem?_eq_getElem hj]at e2
 cases e1
 cases e2
 exact⟨a,b,c⟩
noncomputable def kvF (Ss:List Sg) (ps:List Addr):List (Key × V):=(Ss.zip ps).map fun p=>(Sum.inr (one p.1.c),V.ref p.2)
theorem z4K {Ss:List Sg} {ps:List Addr} (h:ps.length=Ss.length):(kvF Ss ps).length=Ss.length:=by
 unfold kvF
 rw[List.length_map,List.length_zip,h,Nat.min_self]
theorem z6N {Ss:List Sg} {ps:List Addr} (h:ps.length=Ss.length) {i:Nat} (hi:i<Ss.length):(kvF Ss ps)[i]?=some (Sum.inr (one Ss[i].c),V.ref (ps[i]'(by omega))):=by
 unfold kvF
 rw[List.getElem?_map,List.getElem?_eq_getElem (by rw[List.length_zip,h,Nat.min_self];exact hi),List.getElem_zip]
 rfl
theorem z8A:∀{Ss:List Sg} {ps:List Addr},ps.length=Ss.length->(kvF Ss ps).map (·.1)=Ss.map fun S=>(Sum.inr (one S.c):Key)
 |[],[],_=>rfl
 |[],_::_,h=>by cases h
 |_::_,[],h=>by cases h
 |S::Ss,p::ps,h=>by
  show(Sum.inr (one S.c):Key)::(kvF Ss ps).map (·.1)=_
  rw[z8A (by simpa using h)]
  rfl
theorem zD3 {m:List (Key × V)} {k:Key} {v:V} (h:k∉m.map (·.1)):putK m k v=m++[(k,v)]:=by
 unfold putK
 rw[if_neg fun z=>?_]
 obtain⟨p,hp,e⟩:=List.any_eq_true.mp z
 exact h (List.mem_map.mpr ⟨p,hp,by simpa using e⟩)
theorem z4v:∀{kvs m:List (Key × V)},(kvs.map (·.1)).Nodup->(∀k∈kvs.map (·.1),k∉m.map (·.1))->putAll m kvs=m++kvs
 |[],m,_,_=>(List.append_nil m).symm
 |(k,v)::kvs,m,nd,h=>by
  show putAll (putK m k v) kvs=_
  obtain⟨n1,n2⟩:=List.nodup_cons.mp nd
  rw[zD3 (h k List.mem_cons_self),z4v n2 fun k' hk hm=>?_,List.append_assoc]
  .rfl
  .rw[List.map_append]at hm
   rcases List.mem_append.mp hm with z|z
   .exact h k' (List.mem_cons_of_mem _ hk) z
   .have e:k'=k:=by simpa using z
    exact n1 (e▸hk)
theorem z7H {hg:Nat} {Ss:List Sg} {ps:List Addr} (O:FontOk hg Ss) (h:ps.length=Ss.length):putAll [] (kvF Ss ps)=kvF Ss ps:=by
 rw[z4v ?_ fun _ _ z=>by simp at z]
 .rfl
 .rw[z8A h]
  have e:(Ss.map fun S=>(Sum.inr (one S.c):Key))=(Ss.map (·.c)).map fun c=>(Sum.inr (one c):Key):=by rw[List.map_map];rfl
  rw[e]
  refine List.Pairwise.map _ (fun a b n z=>n ?_) O.nd
  injection z with z
  exact one_inj z
theorem z7I:∀{Ss:List Sg} {ps:List Addr} (c:Nat),ps.length=Ss.length->(z59 (kvF Ss ps) (Sum.inr (one c))).isSome=known Ss c
 |[],[],_,_=>rfl
 |[],_::_,_,h=>by cases h
 |_::_,[],_,h=>by cases h
 |S::Ss,p::ps,c,h=>by
  have ih:=z7I (Ss:=Ss) (ps:=ps) c (by simpa using h)
  unfold known
  rw[List.any_cons]
  by_cases e:S.c=c
  .rw[decide_eq_true e,Bool.true_or,<-e]
   show(z59 ((Sum.inr (one S.c),V.ref p)::kvF Ss ps) (Sum.inr (one S.c))).isSome=true
   unfold z59
   rw[List.find?_cons_of_pos (by simp)]
   rfl
  .rw[decide_eq_false e,Bool.false_or]
   show(z59 ((Sum.inr (one S.c),V.ref p)::kvF Ss ps) (Sum.inr (one c))).isSome=_
   have ne:¬(Sum.inr (one S.c):Key)=Sum.inr (one c):=fun z=>by
    injection z with z
    exact e (one_inj z)
   unfold z59 at ih⊢
   rw[List.find?_cons_of_neg (by simpa using ne)]
   exact ih
theorem zAW {Ss:List Sg} {ps:List Addr}:∀{c:Nat},ps.length=Ss.length->known Ss c=true->∃(i:Nat) (S:Sg) (p:Addr),Ss[i]?=some S/\ps[i]?=some p/\S.c=c/\z59 (kvF Ss ps) (Sum.inr (one c))=some (.ref p):=fun{c} h k=>by
 have e:=z7I c h
 rw[k]at e
 obtain⟨v,hv⟩:=Option.isSome_iff_exists.mp e
 unfold z59 at hv
 obtain⟨⟨k',v'⟩,hf,ev⟩:=Option.map_eq_some_iff.mp hv
 have hm:=List.mem_of_find?_eq_some hf
 have hk:=List.find?_some hf
 obtain⟨i,hi,ei⟩:=List.mem_iff_getElem.mp hm
 rw[z4K h]at hi
 have g:=z6N h hi
 rw[List.getElem?_eq_getElem (by rw[z4K h];exact hi),ei]at g
 cases g
 refine⟨i,Ss[i],ps[i]'(by omega),List.getElem?_eq_getElem hi,List.getElem?_eq_getElem _,?_,?_⟩
 .have:(Sum.inr (one Ss[i].c):Key)=Sum.inr (one c):=by simpa using hk
  injection this with z
  exact one_inj z
 .unfold z59
  rw[hf]
  rfl
theorem zCF {n d:Nat} {i:Int} (h0:0<=i) (h1:i<=n):HT.sIx n d (some i)=i.toNat:=by
 simp only[HT.sIx]
 rw[if_neg (by omega)]
 omega
theorem zBc {z:Str} {i:Int} (h0:0<=i) (h1:i<=z.length):(z5l z none (some i)).cps.toList=z.cps.toList.take i.toNat:=by
 unfold z5l
 rw[zCF h0 h1]
 show((z.cps.toList.drop 0).take (i.toNat-0)).toArray.toList=_
 rw[List.drop_zero,Nat.sub_zero]
theorem zBd {z:Str} {i:Int} (h0:0<=i) (h1:i<=z.length):(z5l z (some i) none).cps.toList=z.cps.toList.drop i.toNat:=by
 unfold z5l
 rw[zCF h0 h1]
 show((z.cps.toList.drop i.toNat).take (z.length-i.toNat)).toArray.toList=_
 have e:z.length=z.cps.toList.length:=(Array.length_toList).symm
 rw[List.take_of_length_le (by rw[List.length_drop,e];exact Nat.le_refl _)]
noncomputable def putIn (z:Str) (i:Int) (c:Nat):Str:=z5l z none (some i)++one c++z5l z (some i) none
theorem z4L {z:Str} {i:Int} (h0:0<=i) (h1:i<=z.length) (c:Nat):(putIn z i c).cps.toList=z.cps.toList.take i.toNat++c::z.cps.toList.drop i.toNat:=by
 have e:(putIn z i c).cps=(z5l z none (some i)).cps++#[c]++(z5l z (some i) none).cps:=rfl
 rw[e,Array.toList_append,Array.toList_append,zBc h0 h1,zBd h0 h1,List.append_assoc]
 rfl
theorem zAX {z:Str} {i:Int} (h0:0<=i) (h1:i<=z.length) (c:Nat):(putIn z i c).length=z.length+1:=by
 have e:=congrArg List.length (z4L h0 h1 c)
 have e2:z.cps.toList.length=z.length:=Array.length_toList
 rw[List.length_append,List.length_cons,List.length_take,List.length_drop,e2]at e
 have e3:(putIn z i c).cps.toList.length=(putIn z i c).length:=Array.length_toList
 omega
theorem zAY {z:Str} {i:Int} (h0:0<=i) (h1:i<=z.length) {c d:Nat}:d∈(putIn z i c).cps.toList↔d=c\/d∈z.cps.toList:=by
 rw[z4L h0 h1,List.mem_append,List.mem_cons]
 have e:d∈z.cps.toList↔d∈z.cps.toList.take i.toNat\/d∈z.cps.toList.drop i.toNat:=by
  rw[<-List.mem_append,List.take_append_drop]
 rw[e]
 constructor
 .rintro(h|h|h)
  .exact .inr (.inl h)
  .exact .inl h
  .exact .inr (.inr h)
 .rintro(h|h|h)
  .exact .inr (.inl h)
  .exact .inl h
  .exact .inr (.inr h)
theorem zBe (n:Int):z5L n∈sgnL:=by
 unfold z5L
 have h1:=Int.emod_nonneg n (show(94:Int)≠0 by decide)
 have h2:=Int.emod_lt_of_pos n (show(0:Int)<94 by decide)
 have hj:(n%94).toNat<sgnL.length:=by rw[z3C];omega
 rw[List.getD_eq_getElem?_getD,List.getElem?_eq_getElem hj]
 exact List.getElem_mem hj
noncomputable def sgB (z:Str):Bool:=decide (z.length=1)&&((decide (32<=z.cps.getD 0 0)&&decide (z.cps.getD 0 0<=126))&&decide (z.cps.getD 0 0≠37))
def sgV:V->Bool
 |.str z=>sgB z
 |_=>false
theorem sgn_mem {c:Nat}:c∈sgnL↔32<=c/\c<=126/\c≠37:=by
 unfold sgnL
 rw[List.mem_filter,List.mem_map,decide_eq_true_iff]
 constructor
 .rintro⟨⟨a,ha,rfl⟩,h⟩
  have:=List.mem_range.mp ha
  omega
 .rintro⟨h1,h2,h3⟩
  exact⟨⟨c-32,List.mem_range.mpr (by omega),by omega⟩,h3⟩
theorem zD4 {c:Nat} (h:c∈sgnL):sgB (one c)=true:=by
 obtain⟨h1,h2,h3⟩:=sgn_mem.mp h
 unfold sgB
 have e:(one c).cps.getD 0 0=c:=rfl
 rw[e,decide_eq_true (zCj c),decide_eq_true h1,decide_eq_true h2,decide_eq_true h3]
 rfl
def zAZ:Sp:=fun vs H Q _=>∃v T,vs=[v]/\tyS H v=some T/\(∀z,v=.str z->z.length<=1000)/\Q (.bl (sgV v)) H
inductive PairIs (H:Hp) (v:V):Bool->Prop
 |no (T:String):tyS H v=some T->(T=="tuple")=false->PairIs H v false
 |few (t:Addr) (xs:List V):v=.ref t->H t=some (.tup xs)->xs.length≠2->PairIs H v false
 |two (t:Addr) (a b:V) (T:String) (k:Bool):v=.ref t->H t=some (.tup [a,b])->tyS H a=some T->(∀z,a=.str z->z.length<=1000)->IsP H b k->PairIs H v (sgV a&&k)
theorem PrAt.isPair {hg:Nat} {H:Hp} {t:Addr} {S:Sg} (h:PrAt hg H t S) (hc:S.c∈sgnL):PairIs H (.ref t) true:=by
 obtain⟨p,a,b,R⟩:=h
 have q:=PairIs.two (H:=H) (v:=.ref t) t (.str (one S.c)) (.ref p) "str" true rfl a rfl (fun z e=>by cases e;exact(by decide:(1:Nat)<=1000)) (b.isP R)
 rw[Bool.and_true]at q
 have e:sgV (.str (one S.c))=true:=zD4 hc
 rw[e]at q
 exact q
def zAa:Sp:=fun vs H Q _=>∃v k,vs=[v]/\PairIs H v k/\∀H',Same H H'->Q (.bl k) H'
def z8B:Sp:=fun vs H Q _=>∃(l:Addr) (us:List Addr) (Ss:List Sg) (hg:Nat),vs=[.ref l]/\PrsAt hg H l us Ss/\FontOk hg Ss/\∀d H',Same H H'->H d=none->PicsAt hg H' d Ss->Q (.ref d) H'
def zDr (H:Hp) (l:Addr) (Ss:List Sg) (cs:List Nat):Prop:=∃ps:List Addr,ps.length=cs.length/\H l=some (.lst (ps.map V.ref))/\∀(i:Nat) p c,ps[i]?=some p->cs[i]?=some c->∃S∈Ss,S.c=c/\PicAt H p S.w S.rows
def z3I (C cS:Addr):Sp:=fun vs H Q E=>∃(x:Addr) (z:Str) (Ss:List Sg) (hg:Nat) (gap:Int),vs=[.ref x,.str z]/\FA C H x hg Ss gap/\FontOk hg Ss/\z.length<=1000/\zBa z/\
 (firstBad Ss z.cps.toList 0=none->∀l H',Same H H'->H l=none->zDr H' l Ss z.cps.toList->Q (.ref l) H')/\
 ∀c i d H',firstBad Ss z.cps.toList 0=some (c,i)->Same H H'->H' d=some (.ext (z3f d [("at",.int (i:Nat)),("sign",.str (one c))]))->E (.ref cS) (some d) H'
def z3J (C:Addr):Sp:=fun vs H Q _=>∃(x:Addr) (Ss:List Sg) (hg:Nat) (gap:Int),vs=[.ref x]/\FA C H x hg Ss gap/\Q (.int hg) H
end L2
namespace L2
open PySem PySem.Spec PyProof.Rows G
section
variable {prog:Program} {w:World} {A:Around} {R:Result->Shared->Prop} {J:Addr} {fp wr:List Addr} {n:Nat} {P:Nat->Value->Prop} {St:Nat->Heap->Prop}
end
section
variable {prog:Program} {w:World} {A:Around} {E:Value->Shared->Prop} {s:Shared} {l:Addr} {xs:Array (Int × Tok)}
end
section
variable {X:Cx}
theorem z7J {sc:Scope} {cl:List (Str × Addr)} {C:Addr} {N:List Str} {fp:List Addr} {s2:Shared} {H2:Hp} {pn:List (Addr × Obj)} (hc:X.calm=true):z2a (cxC X sc cl C N fp s2 H2 pn) (.type "dict") (fun xs H Q=>∃(l:Addr) (ts:List Addr) (kvs:List (Key × V)),xs=[.ref l]/\SqL X.K H l (ts.map V.ref)/\kvs.length=ts.length/\(putAll [] kvs).length<=sizeLine/\
 (∀(i:Nat) t k v,ts[i]?=some t->kvs[i]?=some (k,v)->H t=some (.tup [kV k,v]))/\∀p,H p=none->Q (.ref p) (upd H p (.dK (putAll [] kvs)))):=z3X (X:=cxC X sc cl C N fp s2 H2 pn) hc
end
end L2
namespace L2
open PySem PySem.Spec PyProof.Rows G
noncomputable def sgF (Ss:List Sg) (c:Nat):Sg:=(Ss.find? fun S=>decide (S.c=c)).getD ⟨c,0,[]⟩
theorem zAb {hg:Nat} {Ss:List Sg} {S:Sg} (O:FontOk hg Ss) (hS:S∈Ss):sgF Ss S.c=S:=by
 unfold sgF
 cases h:Ss.find? fun T=>decide (T.c=S.c)with
 |none=>
  have:=List.find?_eq_none.mp h S hS
  simp at this
 |some T=>
  have hT:=List.mem_of_find?_eq_some h
  have e:T.c=S.c:=by simpa using List.find?_some h
  obtain⟨i,hi,ei⟩:=List.mem_iff_getElem.mp hT
  obtain⟨j,hj,ej⟩:=List.mem_iff_getElem.mp hS
  have z:(Ss.map (·.c))[i]'(by rw[List.length_map];exact hi)=(Ss.map (·.c))[j]'(by rw[List.length_map];exact hj):=by
   rw[List.getElem_map,List.getElem_map,ei,ej]
   exact e
  have ij:=(List.getElem_inj O.nd).mp z
  subst ij
  show T=S
  rw[<-ei,<-ej]
theorem z3K {hg:Nat} {Ss:List Sg} {c:Nat} (O:FontOk hg Ss) (h:known Ss c=true):sgF Ss c∈Ss/\(sgF Ss c).c=c:=by
 obtain⟨S,hS,e⟩:=List.any_eq_true.mp h
 have e:=of_decide_eq_true e
 have q:=zAb O hS
 rw[e]at q
 rw[q]
 exact⟨hS,e⟩
noncomputable def z3w (Ss:List Sg) (gap:Int) (cs:List Nat) (k:Nat):Int:=((cs.take k).map fun c=>((sgF Ss c).w:Int)+gap).sum
theorem z6O (Ss:List Sg) (gap:Int) (cs:List Nat):z3w Ss gap cs 0=0:=rfl
theorem z6P {Ss:List Sg} {gap:Int} {cs:List Nat} {k c:Nat} (h:cs[k]?=some c):z3w Ss gap cs (k+1)=z3w Ss gap cs k+(((sgF Ss c).w:Int)+gap):=by
 unfold z3w
 rw[List.take_succ,h,List.map_append,List.sum_append]
 simp
noncomputable def cellK (Ss:List Sg) (hg:Nat) (gap:Int) (cs:List Nat):Nat->Int->Nat->Option Int
 |0,_,_=>none
 |k+1,x,y=>(match cs[k]? with
  |some c=>look (sgF Ss c).w hg (sgF Ss c).rows (x-z3w Ss gap cs k) (y:Int)
  |none=>none).or (cellK Ss hg gap cs k x y)
theorem z2n {Ss:List Sg} {hg:Nat} {gap:Int} {cs:List Nat} {k c:Nat} (h:cs[k]?=some c) (x:Int) (y:Nat):cellK Ss hg gap cs (k+1) x y=(look (sgF Ss c).w hg (sgF Ss c).rows (x-z3w Ss gap cs k) (y:Int)).or (cellK Ss hg gap cs k x y):=by
 show(match cs[k]? with
  |some c=>look (sgF Ss c).w hg (sgF Ss c).rows (x-z3w Ss gap cs k) (y:Int)
  |none=>none).or (cellK Ss hg gap cs k x y)=_
 rw[h]
theorem z3x {w h:Nat} {rows:Rws} {x y:Int} (hx:x<0\/(w:Int)<=x):look w h rows x y=none:=by
 unfold look
 rw[if_neg (by omega)]
theorem z8m {w h:Nat} {rows:Rws} (R:Rect w h rows) (x y:Int):Cell (look w h rows x y):=by
 rw[z3V R]
 exact z7y (z2y R y) _
theorem z3Y {hg:Nat} {Ss:List Sg} (O:FontOk hg Ss) (gap:Int) {cs:List Nat} (hk:∀c∈cs,known Ss c=true) (x:Int) (y:Nat):∀k,Cell (cellK Ss hg gap cs k x y)
 |0=>fun z e=>nomatch e
 |k+1=>by
  have ih:=z3Y O gap hk x y k
  cases hc:cs[k]? with
  |none=>
   show Cell ((match cs[k]? with
    |some c=>look (sgF Ss c).w hg (sgF Ss c).rows (x-z3w Ss gap cs k) (y:Int)
    |none=>none).or (cellK Ss hg gap cs k x y))
   rw[hc]
   exact ih
  |some c=>
   rw[z2n hc]
   have h1:=z8m (O.rect _ (z3K O (hk c (List.mem_of_getElem? hc))).1) (x-z3w Ss gap cs k) (y:Int)
   cases hl:look (sgF Ss c).w hg (sgF Ss c).rows (x-z3w Ss gap cs k) (y:Int)with
   |none=>exact ih
   |some z=>
    rw[hl]at h1
    exact h1
noncomputable def z32 (Ss:List Sg) (hg:Nat) (gap:Int) (cs:List Nat) (x:Int) (w k:Nat):Rws:=z1r w hg fun i y=>cellK Ss hg gap cs k (x+(i:Int)) y
theorem z3L {hg:Nat} {Ss:List Sg} (O:FontOk hg Ss) (h1:1<=hg) (h2:hg<=64) (gap:Int) {cs:List Nat} (hk:∀c∈cs,known Ss c=true) (x:Int) {w:Nat} (w1:1<=w) (w2:w<=64) (k:Nat):Rect w hg (z32 Ss hg gap cs x w k):=
 z2i h1 h2 w1 w2 fun _ _=>z3Y O gap hk _ _ _
theorem zAc (Ss:List Sg) (hg:Nat) (gap:Int) (cs:List Nat) (x:Int) (w:Nat):z32 Ss hg gap cs x w 0=List.replicate hg (List.replicate w none):=by
 unfold z32 z1r
 refine List.eq_replicate_iff.mpr ⟨by rw[List.length_map,List.length_range],fun r hr=>?_⟩
 obtain⟨y,_,rfl⟩:=List.mem_map.mp hr
 refine List.eq_replicate_iff.mpr ⟨by rw[List.length_map,List.length_range],fun c hc=>?_⟩
 obtain⟨i,_,rfl⟩:=List.mem_map.mp hc
 rfl
theorem zBf {hg:Nat} {Ss:List Sg} (O:FontOk hg Ss) (h1:1<=hg) (h2:hg<=64) (gap:Int) {cs:List Nat} (hk:∀c∈cs,known Ss c=true) (x:Int) {w:Nat} (w1:1<=w) (w2:w<=64) {k c:Nat} (hc:cs[k]?=some c):
 z0j (z32 Ss hg gap cs x w k) (cutRows (sgF Ss c).rows (-(z3w Ss gap cs k-x)) (-0) w hg)=z32 Ss hg gap cs x w (k+1):=by
 have R:=z3L O h1 h2 gap hk x w1 w2 k
 have R2:=O.rect _ (z3K O (hk c (List.mem_of_getElem? hc))).1
 rw[<-zA3 R R2]
 unfold z32 z1r
 refine List.map_congr_left fun y hy=>?_
 unfold llR
 refine List.map_congr_left fun i hi=>?_
 show _=cellK Ss hg gap cs (k+1) (x+(i:Int)) y
 rw[z2n hc]
 have e1:(i:Int)-(z3w Ss gap cs k-x)=x+(i:Int)-z3w Ss gap cs k:=by omega
 have e2:(y:Int)-0=(y:Int):=by omega
 rw[e1,e2]
 congr 1
 exact z69 (f:=fun i y=>cellK Ss hg gap cs k (x+(i:Int)) y) (List.mem_range.mp hi) (List.mem_range.mp hy)
theorem zAd {hg:Nat} {Ss:List Sg} {gap:Int} {cs:List Nat} {x:Int} {w k c:Nat} (hc:cs[k]?=some c) (h:z3w Ss gap cs k-x<= -((sgF Ss c).w:Int)\/(w:Int)<=z3w Ss gap cs k-x):z32 Ss hg gap cs x w (k+1)=z32 Ss hg gap cs x w k:=by
 unfold z32
 refine z3U fun i y hi _=>?_
 rw[z2n hc,z3x (by omega)]
 rfl
abbrev Col:=List (Option Int)
noncomputable def z3k (hg:Nat) (S:Sg):List Col:=(List.range S.w).map fun x=>S.rows.map fun r=>(r[x]?).join
def z6k (hg:Nat) (gap:Int):List Col:=List.replicate gap.toNat (List.replicate hg none)
noncomputable def z1d (Ss:List Sg) (hg:Nat) (gap:Int) (cs:List Nat):Nat->List Col
 |0=>[]
 |k+1=>(match cs[k]? with
  |some c=>(z1d Ss hg gap cs k++if 0<k then z6k hg gap else [])++z3k hg (sgF Ss c)
  |none=>z1d Ss hg gap cs k)
theorem z3Z {Ss:List Sg} {hg:Nat} {gap:Int} {cs:List Nat} {k c:Nat} (h:cs[k]?=some c):z1d Ss hg gap cs (k+1)=(z1d Ss hg gap cs k++if 0<k then z6k hg gap else [])++z3k hg (sgF Ss c):=by
 show(match cs[k]? with
  |some c=>(z1d Ss hg gap cs k++if 0<k then z6k hg gap else [])++z3k hg (sgF Ss c)
  |none=>z1d Ss hg gap cs k)=_
 rw[h]
noncomputable def z1s (cols:List Col) (x:Int) (y:Nat):Option Int:=if 0<=x then((cols[x.toNat]?).bind fun c=>c[y]?).join else none
theorem z3g (A B:List Col) (x:Int) (y:Nat):z1s (A++B) x y=if x<A.length then z1s A x y else z1s B (x-A.length) y:=by
 unfold z1s
 by_cases h0:0<=x
 .rw[if_pos h0,if_pos h0]
  by_cases h1:x<A.length
  .rw[if_pos h1,List.getElem?_append_left (by omega)]
  .rw[if_neg h1,if_pos (by omega),List.getElem?_append_right (by omega)]
   have:x.toNat-A.length=(x-A.length).toNat:=by omega
   rw[this]
 .rw[if_neg h0,if_neg h0]
  by_cases h1:x<A.length
  .rw[if_pos h1]
  .rw[if_neg h1,if_neg (by omega)]
theorem z2o {A:List Col} {x:Int} {y:Nat} (h:(A.length:Int)<=x):z1s A x y=none:=by
 unfold z1s
 by_cases h0:0<=x
 .rw[if_pos h0,List.getElem?_eq_none (by omega)]
  rfl
 .rw[if_neg h0]
theorem z6Q {A:List Col} {x:Int} {y:Nat} (h:x<0):z1s A x y=none:=by
 unfold z1s
 rw[if_neg (by omega)]
theorem zAe (hg:Nat) (gap:Int) (x:Int) (y:Nat):z1s (z6k hg gap) x y=none:=by
 unfold z1s z6k
 by_cases h0:0<=x
 .rw[if_pos h0]
  by_cases h1:x.toNat<gap.toNat
  .rw[List.getElem?_replicate,if_pos h1]
   show((List.replicate hg none)[y]?).join=none
   rw[List.getElem?_replicate]
   split<;>rfl
  .rw[List.getElem?_replicate,if_neg h1]
   rfl
 .rw[if_neg h0]
theorem z8n {hg:Nat} {S:Sg} (R:Rect S.w hg S.rows) (x:Int) {y:Nat} (hy:y<hg):z1s (z3k hg S) x y=look S.w hg S.rows x (y:Int):=by
 have hR:=R.len
 by_cases h0:0<=x
 .by_cases h1:x<S.w
  .have hyr:y<S.rows.length:=by omega
   have hw:=(R.row0 hyr).1
   unfold z1s z3k
   rw[if_pos h0,List.getElem?_map,List.getElem?_range (by omega)]
   show((S.rows.map fun r=>(r[x.toNat]?).join)[y]?).join=_
   rw[List.getElem?_map,List.getElem?_eq_getElem hyr]
   show((S.rows[y]'hyr)[x.toNat]?).join=_
   have hx:x.toNat<(S.rows[y]'hyr).length:=by omega
   rw[List.getElem?_eq_getElem hx]
   have e:=zCc (w:=S.w) (h:=hg) (rows:=S.rows) (x:=x) (y:=(y:Int)) h0 (by omega) (by omega) (by omega) (by simpa using hyr) (by simpa using hx)
   rw[e]
   rfl
  .rw[z3x (.inr (by omega)),z2o (by unfold z3k;rw[List.length_map,List.length_range];omega)]
 .rw[z3x (.inl (by omega)),z6Q (by omega)]
theorem z6R {hg:Nat} {Ss:List Sg} (O:FontOk hg Ss) {gap:Int} (g0:0<=gap) {cs:List Nat} (hk:∀c∈cs,known Ss c=true):∀k,k<=cs.length->
 (((z1d Ss hg gap cs k).length:Int)=if k=0 then 0 else z3w Ss gap cs k-gap)/\∀(x:Int) (y:Nat),y<hg->z1s (z1d Ss hg gap cs k) x y=cellK Ss hg gap cs k x y
 |0,_=>⟨rfl,fun x y _=>by
  unfold z1s
  show(if 0<=x then((([]:List Col)[x.toNat]?).bind fun c=>c[y]?).join else none)=none
  split<;>rfl⟩
 |k+1,h=>by
  obtain⟨ihl,ihc⟩:=z6R O g0 hk k (by omega)
  have hc:cs[k]?=some (cs[k]'(by omega)):=List.getElem?_eq_getElem (by omega)
  generalize cs[k]'(by omega)=c at hc
  have R:=O.rect _ (z3K O (hk c (List.mem_of_getElem? hc))).1
  have hlen:((z1d Ss hg gap cs k++if 0<k then z6k hg gap else []).length:Int)=z3w Ss gap cs k:=by
   rw[List.length_append]
   by_cases h0:k=0
   .subst h0
    rfl
   .rw[if_neg h0]at ihl
    rw[if_pos (by omega)]
    unfold z6k
    rw[List.length_replicate]
    omega
  have hs:(z3k hg (sgF Ss c)).length=(sgF Ss c).w:=by unfold z3k;rw[List.length_map,List.length_range]
  rw[z3Z hc,z6P hc]
  refine⟨?_,fun x y hy=>?_⟩
  .rw[List.length_append,hs,if_neg (show¬k+1=0 by omega)]
   omega
  .rw[z3g,hlen,z2n hc]
   by_cases h1:x<z3w Ss gap cs k
   .rw[if_pos h1,z3x (.inl (by omega)),z3g]
    show _=cellK Ss hg gap cs k x y
    by_cases h2:x<(z1d Ss hg gap cs k).length
    .rw[if_pos h2]
     exact ihc x y hy
    .rw[if_neg h2,<-ihc x y hy,z2o (A:=z1d Ss hg gap cs k) (by omega)]
     by_cases h0:0<k
     .rw[if_pos h0]
      exact zAe _ _ _ _
     .rw[if_neg h0]
      unfold z1s
      split<;>rfl
   .rw[if_neg h1,z8n R _ hy]
    have e0:cellK Ss hg gap cs k x y=none:=by
     rw[<-ihc x y hy,z2o]
     by_cases h0:k=0
     .subst h0
      rw[if_pos rfl]at ihl
      rw[z6O]at h1
      omega
     .rw[if_neg h0]at ihl
      omega
    rw[e0]
    cases look (sgF Ss c).w hg (sgF Ss c).rows (x-z3w Ss gap cs k) (y:Int)<;>rfl
end L2
namespace L2
open PySem PySem.Spec PyProof.Rows G
def TableAt (hg:Nat) (H:Hp) (d:Addr) (Ss:List Sg):Prop:=∃rls:List Addr,rls.length=Ss.length/\H d=some (.dK (kvF Ss rls))/\∀(i:Nat) S p,Ss[i]?=some S->rls[i]?=some p->∃ps,RowsAt H p ps S.rows/\Rect S.w hg S.rows
theorem TableAt.get {hg:Nat} {H:Hp} {d:Addr} {Ss:List Sg} {c:Nat} (O:FontOk hg Ss) (h:TableAt hg H d Ss) (k:known Ss c=true):∃p ps,(∀H',Same H H'->DGet H' d (.str ⟨#[c]⟩) (some (.ref p)))/\RowsAt H p ps (sgF Ss c).rows/\Rect (sgF Ss c).w hg (sgF Ss c).rows:=by
 obtain⟨rls,a,b,e⟩:=h
 obtain⟨i,S,p,e1,e2,e3,e4⟩:=zAW a k
 obtain⟨ps,r1,r2⟩:=e i S p e1 e2
 have q:=zAb O (List.mem_of_getElem? e1)
 rw[e3]at q
 rw[q]
 refine⟨p,ps,fun H' s=>?_,r1,r2⟩
 have g:=DGet.k (k:=Sum.inr (one c)) (s _ _ b)
 rw[e4]at g
 exact g
theorem SgsAt.rows {hg:Nat} {H:Hp} {l:Addr} {ts:List Addr} {Ss:List Sg} (h:SgsAt hg H l ts Ss):∃rls:List Addr,rls.length=Ss.length/\∀(i:Nat) t S p,ts[i]?=some t->Ss[i]?=some S->rls[i]?=some p->H t=some (.tup [.str (one S.c),.ref p])/\∃ps,RowsAt H p ps S.rows/\Rect S.w hg S.rows:=by
 obtain⟨ps,hl,hp⟩:=z7G (P:=fun i p=>∃(hi:i<ts.length) (hj:i<Ss.length),H ts[i]=some (.tup [.str (one Ss[i].c),.ref p])/\∃ps,RowsAt H p ps Ss[i].rows/\Rect Ss[i].w hg Ss[i].rows) Ss.length fun i hi=>by
  have hu:i<ts.length:=by rw[h.len];exact hi
  obtain⟨p,ps,a,b,c⟩:=h.at' i _ _ (List.getElem?_eq_getElem hu) (List.getElem?_eq_getElem hi)
  exact⟨p,hu,hi,a,ps,b,c⟩
 refine⟨ps,hl,fun i t S p e1 e2 e3=>?_⟩
 obtain⟨hi,hj,a,b⟩:=hp i p e3
 rw[List.getElem?_eq_getElem hi]at e1
 rw[List.getElem?_eq_getElem hj]at e2
 cases e1
 cases e2
 exact⟨a,b⟩
def z3M (hg:Nat) (cols:List Col):Prop:=∀c∈cols,c.length=hg/\Cells c
theorem zBg {hg:Nat} {S:Sg} (R:Rect S.w hg S.rows):z3M hg (z3k hg S):=fun c hc=>by
 unfold z3k at hc
 obtain⟨x,_,rfl⟩:=List.mem_map.mp hc
 refine⟨by rw[List.length_map];exact R.len,fun d hd=>?_⟩
 obtain⟨r,hr,rfl⟩:=List.mem_map.mp hd
 cases hx:r[x]? with
 |none=>exact fun z e=>nomatch e
 |some z=>exact(R.row r hr).2 z (List.mem_of_getElem? hx)
theorem zD5 (hg:Nat) (gap:Int):z3M hg (z6k hg gap):=fun c hc=>by
 unfold z6k at hc
 rw[(List.mem_replicate.mp hc).2]
 exact⟨List.length_replicate,fun d hd=>by rw[(List.mem_replicate.mp hd).2];exact fun z e=>nomatch e⟩
theorem z5Q {hg:Nat} {Ss:List Sg} (O:FontOk hg Ss) {gap:Int} (g0:0<=gap) (g1:gap<=8) {cs:List Nat} (hk:∀c∈cs,known Ss c=true):∀k,k<=cs.length->z3M hg (z1d Ss hg gap cs k)/\(z1d Ss hg gap cs k).length<=72*k
 |0,_=>⟨fun c hc=>(nomatch hc),Nat.zero_le _⟩
 |k+1,h=>by
  obtain⟨i1,i2⟩:=z5Q O g0 g1 hk k (by omega)
  have hc:cs[k]?=some (cs[k]'(by omega)):=List.getElem?_eq_getElem (by omega)
  generalize cs[k]'(by omega)=c at hc
  have R:=O.rect _ (z3K O (hk c (List.mem_of_getElem? hc))).1
  have w2:=R.w2
  rw[z3Z hc]
  refine⟨fun d hd=>?_,?_⟩
  .rcases List.mem_append.mp hd with hd|hd
   .rcases List.mem_append.mp hd with hd|hd
    .exact i1 d hd
    .split at hd
     .exact zD5 hg gap d hd
     .cases hd
   .exact zBg R d hd
  .rw[List.length_append,List.length_append]
   have l1:(if 0<k then z6k hg gap else []).length<=8:=by
    split
    .unfold z6k
     rw[List.length_replicate]
     omega
    .exact Nat.zero_le _
   have l2:(z3k hg (sgF Ss c)).length=(sgF Ss c).w:=by unfold z3k;rw[List.length_map,List.length_range]
   omega
theorem z8o {hg:Nat} {cols:List Col} (h:z3M hg cols) (x:Int) (y:Nat):Cell (z1s cols x y):=by
 unfold z1s
 split
 .cases hx:cols[x.toNat]? with
  |none=>exact fun z e=>nomatch e
  |some c=>
   show Cell ((c[y]?).join)
   cases hy:c[y]? with
   |none=>exact fun z e=>nomatch e
   |some d=>exact(h c (List.mem_of_getElem? hx)).2 d (List.mem_of_getElem? hy)
 .exact fun z e=>nomatch e
theorem RowsB.fresh {H0 H:Hp} {l p:Addr} {ps:List Addr} {rows:Rws} (B:RowsB H0 H l ps rows) (n:H p=none):H0 p=none/\p≠l/\p∉ps:=by
 refine⟨B.same.free n,fun e=>?_,fun hp=>?_⟩
 .have:=B.rat.lst
  rw[<-e,n]at this
  cases this
 .obtain⟨i,hi,e⟩:=List.mem_iff_getElem.mp hp
  have hl:=B.rat.len
  have:=B.rat.row i p _ (by rw[List.getElem?_eq_getElem hi,e]) (List.getElem?_eq_getElem (by omega))
  rw[n]at this
  cases this
theorem z7K {Ss:List Sg} {z:Str} {i:Int} {c:Nat} (h0:0<=i) (h1:i<=z.length) (hT:TextOf Ss z) (hc:known Ss c=false):firstBad Ss (putIn z i c).cps.toList 0=some (c,i.toNat):=by
 have e:=z4L h0 h1 c
 have el:z.length=z.cps.toList.length:=(Array.length_toList).symm
 have hl:(z.cps.toList.take i.toNat).length=i.toNat:=by rw[List.length_take];omega
 rw[e]
 have:=z2P (Ss:=Ss) (cs:=z.cps.toList.take i.toNat++c::z.cps.toList.drop i.toNat) (i:=0) (k:=i.toNat) (c:=c) (fun d hd=>?_) ?_ hc
 .rw[this,Nat.zero_add]
 .rw[List.take_append_of_le_length (by omega)]at hd
  exact hT d (List.mem_of_mem_take (List.mem_of_mem_take hd))
 .rw[List.getElem?_append_right (by omega),hl,Nat.sub_self]
  rfl
def zAf (C cS:Addr):Sp:=fun vs H Q E=>∃(f:Addr) (z:Str) (x w:Int) (Ss:List Sg) (hg:Nat) (gap:Int),vs=[.ref f,.str z,.int x,.int w]/\FA C H f hg Ss gap/\FontOk hg Ss/\1<=hg/\hg<=64/\z.length<=1000/\zBa z/\1<=w/\w<=64/\
 (firstBad Ss z.cps.toList 0=none->∀p H',Same H H'->PicAt H' p w.toNat (z32 Ss hg gap z.cps.toList x w.toNat z.length)->Q (.ref p) H')/\
 ∀c i d H',firstBad Ss z.cps.toList 0=some (c,i)->Same H H'->H' d=some (.ext (z3f d [("at",.int (i:Nat)),("sign",.str (one c))]))->E (.ref cS) (some d) H'
end L2
namespace L2
open PySem PySem.Spec PyProof.Rows G
noncomputable def z0q (Ss:List Sg) (zs:List Str):Option (Nat × Nat):=zs.findSome? fun z=>firstBad Ss z.cps.toList 0
theorem z2w {Ss:List Sg} {zs:List Str} (h:z0q Ss zs=none):∀z∈zs,firstBad Ss z.cps.toList 0=none:=List.findSome?_eq_none_iff.mp h
theorem z3h {Ss:List Sg} {zs:List Str} {i:Nat} {z:Str} {p:Nat × Nat} (h:∀y∈zs.take i,firstBad Ss y.cps.toList 0=none) (e:zs[i]?=some z) (hz:firstBad Ss z.cps.toList 0=some p):z0q Ss zs=some p:=by
 obtain⟨hi,rfl⟩:=List.getElem?_eq_some_iff.mp e
 have e2:zs=zs.take i++zs[i]::zs.drop (i+1):=by
  rw[<-List.drop_eq_getElem_cons hi,List.take_append_drop]
 unfold z0q
 rw[e2,List.findSome?_append,List.findSome?_eq_none_iff.mpr h,Option.none_or,List.findSome?_cons,hz]
theorem z5R {Ss:List Sg} {cs:List Nat} {i:Nat} (hb:firstBad Ss cs i=none):∀c∈cs,known Ss c=true:=fun c hc=>by
 cases e:known Ss c with
 |true=>rfl
 |false=>
  obtain⟨c',j,e'⟩:=z2O (i:=i) ⟨c,hc,e⟩
  rw[hb]at e'
  cases e'
theorem zAg {w h:Nat} {f:Nat->Nat->Option Int} (x y:Int):look w h (z1r w h f) x y=if 0<=x/\x<w/\0<=y/\y<h then f x.toNat y.toNat else none:=by
 unfold look
 split
 .rename_i c
  obtain⟨a,b,c,d⟩:=c
  have e:(z1r w h f).getD y.toNat []=(List.range w).map fun x=>f x y.toNat:=by rw[List.getD_eq_getElem?_getD,z7x (by omega)];rfl
  rw[e,List.getD_eq_getElem?_getD,List.getElem?_map,List.getElem?_range (by omega)]
  rfl
 .rfl
noncomputable def z4c (Ss:List Sg) (hg:Nat) (gap lead:Int) (zs:List Str):Nat->Int->Int->Option Int
 |0,_,_=>none
 |k+1,x,y=>(match zs[k]? with
  |some z=>if 0<=y-(k:Int)*(hg+lead)/\y-(k:Int)*(hg+lead)<hg then cellK Ss hg gap z.cps.toList z.length x (y-(k:Int)*(hg+lead)).toNat else none
  |none=>none).or (z4c Ss hg gap lead zs k x y)
theorem z2p {Ss:List Sg} {hg:Nat} {gap lead:Int} {zs:List Str} {k:Nat} {z:Str} (h:zs[k]?=some z) (x y:Int):
 z4c Ss hg gap lead zs (k+1) x y=(if 0<=y-(k:Int)*(hg+lead)/\y-(k:Int)*(hg+lead)<hg then cellK Ss hg gap z.cps.toList z.length x (y-(k:Int)*(hg+lead)).toNat else none).or (z4c Ss hg gap lead zs k x y):=by
 show(match zs[k]? with
  |some z=>if 0<=y-(k:Int)*(hg+lead)/\y-(k:Int)*(hg+lead)<hg then cellK Ss hg gap z.cps.toList z.length x (y-(k:Int)*(hg+lead)).toNat else none
  |none=>none).or (z4c Ss hg gap lead zs k x y)=_
 rw[h]
theorem zD6 {a b:Option Int} (ha:Cell a) (hb:Cell b):Cell (a.or b):=by
 cases a with
 |none=>exact hb
 |some z=>exact ha
theorem z4w {hg:Nat} {Ss:List Sg} (O:FontOk hg Ss) (gap lead:Int) {zs:List Str} (hk:∀z∈zs,∀c∈z.cps.toList,known Ss c=true) (x y:Int):∀k,Cell (z4c Ss hg gap lead zs k x y)
 |0=>fun z e=>nomatch e
 |k+1=>by
  have ih:=z4w O gap lead hk x y k
  cases hz:zs[k]? with
  |none=>
   show Cell ((match zs[k]? with
    |some z=>if 0<=y-(k:Int)*(hg+lead)/\y-(k:Int)*(hg+lead)<hg then cellK Ss hg gap z.cps.toList z.length x (y-(k:Int)*(hg+lead)).toNat else none
    |none=>none).or (z4c Ss hg gap lead zs k x y))
   rw[hz]
   exact ih
  |some z=>
   rw[z2p hz]
   refine zD6 ?_ ih
   split
   .exact z3Y O gap (hk z (List.mem_of_getElem? hz)) _ _ _
   .exact fun z e=>nomatch e
noncomputable def z3N (Ss:List Sg) (hg:Nat) (gap lead:Int) (zs:List Str) (x y:Int) (w h k:Nat):Rws:=z1r w h fun i j=>z4c Ss hg gap lead zs k (x+(i:Int)) (y+(j:Int))
theorem z6S {hg:Nat} {Ss:List Sg} (O:FontOk hg Ss) (gap lead:Int) {zs:List Str} (hk:∀z∈zs,∀c∈z.cps.toList,known Ss c=true) (x y:Int) {w h:Nat} (w1:1<=w) (w2:w<=64) (h1:1<=h) (h2:h<=64) (k:Nat):Rect w h (z3N Ss hg gap lead zs x y w h k):=
 z2i h1 h2 w1 w2 fun _ _=>z4w O gap lead hk _ _ _
theorem zAh (Ss:List Sg) (hg:Nat) (gap lead:Int) (zs:List Str) (x y:Int) (w h:Nat):z3N Ss hg gap lead zs x y w h 0=List.replicate h (List.replicate w none):=by
 unfold z3N z1r
 refine List.eq_replicate_iff.mpr ⟨by rw[List.length_map,List.length_range],fun r hr=>?_⟩
 obtain⟨j,_,rfl⟩:=List.mem_map.mp hr
 refine List.eq_replicate_iff.mpr ⟨by rw[List.length_map,List.length_range],fun c hc=>?_⟩
 obtain⟨i,_,rfl⟩:=List.mem_map.mp hc
 rfl
theorem zBh {hg:Nat} {Ss:List Sg} (O:FontOk hg Ss) (g1:1<=hg) (g2:hg<=64) (gap lead:Int) {zs:List Str} (hk:∀z∈zs,∀c∈z.cps.toList,known Ss c=true) (x y:Int) {w h:Nat} (w1:1<=w) (w2:w<=64) (h1:1<=h) (h2:h<=64) {k:Nat} {z:Str} (hz:zs[k]?=some z):
 z0j (z3N Ss hg gap lead zs x y w h k) (cutRows (z32 Ss hg gap z.cps.toList x w z.length) (-0) (-((k:Int)*(hg+lead)-y)) w h)=z3N Ss hg gap lead zs x y w h (k+1):=by
 have R:=z6S O gap lead hk x y w1 w2 h1 h2 k
 have R2:=z3L O g1 g2 gap (hk z (List.mem_of_getElem? hz)) x w1 w2 z.length
 rw[<-zA3 R R2]
 unfold z3N z1r
 refine List.map_congr_left fun j hj=>?_
 unfold llR
 refine List.map_congr_left fun i hi=>?_
 have hi':=List.mem_range.mp hi
 have hj':=List.mem_range.mp hj
 show _=z4c Ss hg gap lead zs (k+1) (x+(i:Int)) (y+(j:Int))
 rw[z2p hz]
 congr 1
 .unfold z32
  rw[zAg]
  have e1:(j:Int)-((k:Int)*(hg+lead)-y)=y+(j:Int)-(k:Int)*(hg+lead):=by omega
  rw[e1,Int.sub_zero]
  generalize y+(j:Int)-(k:Int)*(hg+lead)=t
  by_cases c:0<=t/\t<hg
  .rw[if_pos ⟨by omega,by omega,c.1,c.2⟩,if_pos c,Int.toNat_natCast]
  .rw[if_neg (fun q=>c q.2.2),if_neg c]
 .exact z69 (f:=fun i j=>z4c Ss hg gap lead zs k (x+(i:Int)) (y+(j:Int))) hi' hj'
theorem z6T {hg:Nat} {Ss:List Sg} {gap lead:Int} {zs:List Str} {x y:Int} {w h k:Nat} {z:Str} (hz:zs[k]?=some z) (c:(k:Int)*(hg+lead)-y<= -(hg:Int)\/(h:Int)<=(k:Int)*(hg+lead)-y):
 z3N Ss hg gap lead zs x y w h (k+1)=z3N Ss hg gap lead zs x y w h k:=by
 unfold z3N
 refine z3U fun i j _ hj=>?_
 rw[z2p hz]
 generalize (k:Int)*(hg+lead)=t at c⊢
 rw[if_neg (by omega)]
 rfl
noncomputable def z3a (hg:Nat) (lead:Int) (cl:List (List Col)) (x t:Int):Option Int:=
 if 0<=t/(hg+lead)/\t/(hg+lead)<cl.length/\t%(hg+lead)<hg then z1s (cl.getD (t/(hg+lead)).toNat []) x (t%(hg+lead)).toNat else none
theorem zDs {p t k:Int} (hp:0<p) (h0:0<=t-k*p) (h1:t-k*p<p):t/p=k/\t%p=t-k*p:=by
 have e:=Int.mul_ediv_add_emod t p
 have m0:=Int.emod_nonneg t (show p≠0 by omega)
 have m1:=Int.emod_lt_of_pos t hp
 have hk:t/p=k:=by
  refine Int.le_antisymm ?_ ?_
  .refine Int.le_of_lt_add_one (Int.not_le.mp fun hle=>?_)
   have:=Int.mul_le_mul_of_nonneg_right hle (Int.le_of_lt hp)
   rw[Int.add_mul]at this
   rw[Int.mul_comm]at e
   omega
  .refine Int.le_of_lt_add_one (Int.not_le.mp fun hle=>?_)
   have:=Int.mul_le_mul_of_nonneg_right hle (Int.le_of_lt hp)
   rw[Int.add_mul]at this
   rw[Int.mul_comm]at e
   omega
 refine⟨hk,?_⟩
 rw[hk,Int.mul_comm]at e
 omega
theorem z8C {Ss:List Sg} {hg:Nat} {gap lead:Int} (g1:1<=hg) (l0:0<=lead) {zs:List Str} (x t:Int):∀k,k<=zs.length->
 z4c Ss hg gap lead zs k x t=if 0<=t/(hg+lead)/\t/(hg+lead)<k/\t%(hg+lead)<hg then cellK Ss hg gap (zs.getD (t/(hg+lead)).toNat Str.empty).cps.toList (zs.getD (t/(hg+lead)).toNat Str.empty).length x (t%(hg+lead)).toNat else none
 |0,_=>by rw[if_neg (by omega)];rfl
 |k+1,h=>by
  have ih:=z8C (Ss:=Ss) (gap:=gap) g1 l0 (zs:=zs) x t k (by omega)
  have hz:zs[k]?=some (zs[k]'(by omega)):=List.getElem?_eq_getElem (by omega)
  have hd:zs.getD k Str.empty=zs[k]'(by omega):=by rw[List.getD_eq_getElem?_getD,hz];rfl
  have hp:(0:Int)<hg+lead:=by omega
  rw[z2p hz,ih]
  by_cases c:0<=t-(k:Int)*(hg+lead)/\t-(k:Int)*(hg+lead)<hg
  .obtain⟨e1,e2⟩:=zDs hp c.1 (by omega)
   rw[if_pos c,if_neg (by rw[e1];omega),if_pos (by rw[e1,e2];omega),e1,e2,Int.toNat_natCast,hd,Option.or_none]
  .rw[if_neg c]
   show(if _ then _ else _)=_
   by_cases e:t/(hg+lead)=k
   .have q:=Int.mul_ediv_add_emod t (hg+lead)
    rw[e,Int.mul_comm]at q
    have m0:=Int.emod_nonneg t (show(hg:Int)+lead≠0 by omega)
    rw[if_neg (by rw[e];omega),if_neg (by rw[e];omega)]
   .by_cases d:0<=t/(hg+lead)/\t/(hg+lead)<k/\t%(hg+lead)<hg
    .rw[if_pos d,if_pos (by omega)]
    .rw[if_neg d,if_neg (by omega)]
theorem z4x {hg:Nat} {cl:List (List Col)} (h:∀c∈cl,z3M hg c) (lead x t:Int):Cell (z3a hg lead cl x t):=by
 unfold z3a
 split
 .rename_i c
  have hn:(t/(hg+lead)).toNat<cl.length:=by omega
  rw[List.getD_eq_getElem?_getD,List.getElem?_eq_getElem hn]
  exact z8o (h _ (List.getElem_mem hn)) _ _
 .exact fun z e=>nomatch e
noncomputable def zDt (hg:Nat) (lead:Int) (cl:List (List Col)) (x y:Int) (w h:Nat):Rws:=z1r w h fun i j=>z3a hg lead cl (x+(i:Int)) (y+(j:Int))
theorem zBi {hg:Nat} {Ss:List Sg} (O:FontOk hg Ss) (g1:1<=hg) {gap lead:Int} (g0:0<=gap) (l0:0<=lead) {zs:List Str} (hk:∀z∈zs,∀c∈z.cps.toList,known Ss c=true) (x y:Int) (w h:Nat):
 z3N Ss hg gap lead zs x y w h zs.length=zDt hg lead (zs.map fun z=>z1d Ss hg gap z.cps.toList z.length) x y w h:=by
 unfold z3N zDt
 refine z3U fun i j _ _=>?_
 rw[z8C g1 l0 _ _ _ (Nat.le_refl _)]
 unfold z3a
 rw[List.length_map]
 generalize y+(j:Int)=t
 by_cases c:0<=t/(hg+lead)/\t/(hg+lead)<zs.length/\t%(hg+lead)<hg
 .rw[if_pos c,if_pos c]
  have hn:(t/(hg+lead)).toNat<zs.length:=by omega
  have m0:=Int.emod_nonneg t (show(hg:Int)+lead≠0 by omega)
  have e1:zs.getD (t/(hg+lead)).toNat Str.empty=zs[(t/(hg+lead)).toNat]'hn:=by rw[List.getD_eq_getElem?_getD,List.getElem?_eq_getElem hn];rfl
  have e2:(zs.map fun z=>z1d Ss hg gap z.cps.toList z.length).getD (t/(hg+lead)).toNat []=z1d Ss hg gap (zs[(t/(hg+lead)).toNat]'hn).cps.toList (zs[(t/(hg+lead)).toNat]'hn).length:=by
   rw[List.getD_eq_getElem?_getD,List.getElem?_map,List.getElem?_eq_getElem hn];rfl
  rw[e1,e2]
  have el:(zs[(t/(hg+lead)).toNat]'hn).length=(zs[(t/(hg+lead)).toNat]'hn).cps.toList.length:=(Array.length_toList).symm
  rw[el]
  exact((z6R O g0 (hk _ (List.getElem_mem hn)) _ (Nat.le_refl _)).2 _ _ (by omega)).symm
 .rw[if_neg c,if_neg c]
theorem zAi {n:Nat} {i:Int} (h0:0<=i) (h1:i<n):ixN n i=some i.toNat:=by
 unfold ixN
 rw[if_pos h0,if_pos (by omega)]
def z2Q (H:Hp) (l:Addr) (zs:List Str):Prop:=H l=some (.lst (zs.map V.str))
def z7L (C cS:Addr):Sp:=fun vs H Q E=>∃(f l:Addr) (zs:List Str) (Ss:List Sg) (hg:Nat) (gap:Int),vs=[.ref f,.ref l]/\FA C H f hg Ss gap/\FontOk hg Ss/\z2Q H l zs/\(∀z∈zs,z.length<=1000/\zBa z)/\
 (z0q Ss zs=none->∀H',Same H H'->Q .non H')/\
 ∀c i d H',z0q Ss zs=some (c,i)->Same H H'->H' d=some (.ext (z3f d [("at",.int (i:Nat)),("sign",.str (one c))]))->E (.ref cS) (some d) H'
def z7M (C:Addr):Sp:=fun vs H Q _=>∃(f:Addr) (lead at_:Int) (Ss:List Sg) (hg:Nat) (gap:Int),vs=[.ref f,.int lead,.int at_]/\FA C H f hg Ss gap/\hg<=64/\0<=lead/\lead<=100/\0<=at_/\at_<=10000/\Q (.int (at_*((hg:Int)+lead))) H
def zCG (C cS:Addr):Sp:=fun vs H Q E=>∃(f l:Addr) (zs:List Str) (Ss:List Sg) (hg:Nat) (gap lead x y w h:Int),vs=[.ref f,.ref l,.int lead,.int x,.int y,.int w,.int h]/\FA C H f hg Ss gap/\FontOk hg Ss/\1<=hg/\hg<=64/\z2Q H l zs/\zs.length<=1000/\(∀z∈zs,z.length<=1000/\zBa z)/\0<=lead/\lead<=100/\1<=w/\w<=64/\1<=h/\h<=64/\
 (z0q Ss zs=none->∀p H',Same H H'->PicAt H' p w.toNat (z3N Ss hg gap lead zs x y w.toNat h.toNat zs.length)->Q (.ref p) H')/\
 ∀c i d H',z0q Ss zs=some (c,i)->Same H H'->H' d=some (.ext (z3f d [("at",.int (i:Nat)),("sign",.str (one c))]))->E (.ref cS) (some d) H'
structure ColsAt (H:Hp) (l:Addr) (hg:Nat) (cl:List (List Col)):Prop where
 lst:∃qs:List Addr,qs.length=cl.length/\H l=some (.lst (qs.map V.ref))/\∀(i:Nat) q c,qs[i]?=some q->cl[i]?=some c->∃ps,RowsAt H q ps c
 ok:∀c∈cl,z3M hg c/\c.length<=20000
end L2
namespace L2
open PySem PySem.Spec PyProof.Rows G
theorem hold {t u:TS} {D:Ends} {σ:St} {H:Hp} (h:∀u',u'=u->zEA t u' D σ H):zEA t u D σ H:=h u rfl
theorem unhold {u' u:TS} {D:Ends} {σ:St} {H:Hp} (e:u'=u) (h:u D σ H):u' D σ H:=by
 rw[e]
 exact h
def SameX (S:List Addr) (H H':Hp):Prop:=∀b o,b∉S->H b=some o->H' b=some o
theorem SameX.of {S:List Addr} {H H':Hp} (s:Same H H'):SameX S H H':=fun b o _ h=>s b o h
theorem SameX.trans {S:List Addr} {H H1 H2:Hp} (a:SameX S H H1) (b:SameX S H1 H2):SameX S H H2:=fun c o n h=>b c o n (a c o n h)
theorem SameX.sub {S T:List Addr} {H H':Hp} (a:SameX S H H') (h:∀p∈S,p∈T):SameX T H H':=fun b o n e=>a b o (fun hb=>n (h b hb)) e
theorem SameX.put {S:List Addr} {H H':Hp} {p:Addr} {o:HO} (a:SameX S H H') (h:p∈S):SameX S H (upd H' p o):=fun b u n e=>by
 have nb:b≠p:=fun z=>n (by rw[z];exact h)
 rw[z06 nb]
 exact a b u n e
theorem SameX.old {S:List Addr} {H0 H H':Hp} (s:Same H0 H) (a:SameX S H H') (h:∀p∈S,H0 p=none):Same H0 H':=fun b o e=>a b o (fun hb=>by rw[h b hb]at e;cases e) (s b o e)
noncomputable def off (F:List Addr) (H:Hp):Hp:=fun b=>if b∈F then none else H b
theorem z2Z {F:List Addr} {H:Hp} {b:Addr} {o:HO} (h:off F H b=some o):b∉F/\H b=some o:=by
 unfold off at h
 split at h
 .cases h
 .rename_i n
  exact⟨n,h⟩
theorem z4M {F:List Addr} {H:Hp} {b:Addr} {o:HO} (n:b∉F) (h:H b=some o):off F H b=some o:=by
 unfold off
 rw[if_neg n]
 exact h
theorem z1n {F:List Addr} {H:Hp}:Same (off F H) H:=fun _ _ h=>(z2Z h).2
theorem z0u {F:List Addr} {H H':Hp} (s:SameX F H H'):Same (off F H) (off F H'):=fun b o h=>z4M (z2Z h).1 (s b o (z2Z h).1 (z2Z h).2)
theorem z7N {F:List Addr} {H:Hp} {p:Addr} {o:HO} (h:p∈F):Same (off F H) (off F (upd H p o)):=z0u ((SameX.of (Same.refl _)).put h)
theorem zD7 {F:List Addr} {H0 H:Hp} (s:Same H0 H) (n:∀p∈F,H0 p=none):Same H0 (off F H):=fun b o h=>z4M (fun z=>by rw[n b z]at h;cases h) (s b o h)
theorem zBj {F G:List Addr} {H H':Hp} (s:Same H H') (h:∀p∈G,p∈F\/H p=none):Same (off F H) (off G H'):=fun b o e=>z4M (fun z=>by
 rcases h b z with f|f
 .exact(z2Z e).1 f
 .rw[(z2Z e).2]at f
  cases f) (s b o (z2Z e).2)
theorem RowsAt.off {F:List Addr} {H:Hp} {l:Addr} {ps:List Addr} {rows:List (List (Option Int))} (h:RowsAt H l ps rows) (hl:l∉F) (hp:∀p∈ps,p∉F):RowsAt (L2.off F H) l ps rows:=
 ⟨z4M hl h.lst,h.len,fun i p r e1 e2=>z4M (hp p (List.mem_of_getElem? e1)) (h.row i p r e1 e2)⟩
theorem RowsAt.put {H:Hp} {l m:Addr} {ps:List Addr} {rows:List (List (Option Int))} {o:HO} (h:RowsAt H l ps rows) (n:l≠m) (np:∀x∈ps,x≠m):RowsAt (upd H m o) l ps rows:=
 ⟨(z06 n).trans h.lst,h.len,fun i p r e1 e2=>(z06 (np p (List.mem_of_getElem? e1))).trans (h.row i p r e1 e2)⟩
noncomputable def wnF (f ll:Addr) (lead wd hh x y:Int):List (Str × V):=[("font",.ref f),("lines",.ref ll),("lead",.int lead),("wide",.int wd),("high",.int hh),("x",.int x),("y",.int y)]
theorem zDu (f ll:Addr) (lead wd hh x y z:Int):z43 "x" (.int z) (wnF f ll lead wd hh x y)=wnF f ll lead wd hh z y:=rfl
theorem zDv (f ll:Addr) (lead wd hh x y z:Int):z43 "y" (.int z) (wnF f ll lead wd hh x y)=wnF f ll lead wd hh x z:=rfl
structure Wn where
 w:Addr
 ll:Addr
 f:Addr
 lead:Int
 wd:Int
 hh:Int
def WnAt (C:Addr) (H:Hp) (W:Wn) (x y:Int) (zs:List Str):Prop:=(∃dx,H W.w=some (.ins C dx (wnF W.f W.ll W.lead W.wd W.hh x y)))/\z2Q H W.ll zs
theorem WnAt.mono {C:Addr} {H H':Hp} {W:Wn} {x y:Int} {zs:List Str} (s:Same H H') (h:WnAt C H W x y zs):WnAt C H' W x y zs:=let ⟨⟨dx,a⟩,b⟩:=h;⟨⟨dx,s _ _ a⟩,s _ _ b⟩
def mx0 (z:Int):Int:=if z>0 then z else 0
noncomputable def z4N (wd hh dx dy:Int):Int:=wd*hh-mx0 (wd-z1h dx)*mx0 (hh-z1h dy)
noncomputable def bxN (bs:List Bx):Int:=(bs.map fun b=>b.2.2.1*b.2.2.2).sum
theorem zBk {w h:Nat} {dx dy:Int} (c:(w:Int)<=z1h dx\/(h:Int)<=z1h dy):bxN [(0,0,(w:Int),(h:Int))]=z4N w h dx dy:=by
 unfold z4N bxN mx0
 rcases c with c|c
 .rw[if_neg (show¬(w:Int)-z1h dx>0 by omega),Int.zero_mul]
  simp
 .rw[if_neg (show¬(h:Int)-z1h dy>0 by omega),Int.mul_zero]
  simp
theorem zBl {w h:Nat} {dx dy:Int} (c1:¬(w:Int)<=z1h dx) (c2:¬(h:Int)<=z1h dy):bxN (bxA w h dx++bxB w h dx dy)=z4N w h dx dy:=by
 have a:=z2N dx
 have b:=z2N dy
 have e1:((bxA w h dx).map fun b=>b.2.2.1*b.2.2.2).sum=z1h dx*h:=by
  unfold bxA
  split
  .simp
  .rw[show z1h dx=0 by omega]
   simp
 have e2:((bxB w h dx dy).map fun b=>b.2.2.1*b.2.2.2).sum=((w:Int)-z1h dx)*z1h dy:=by
  unfold bxB
  split
  .simp
  .rw[show z1h dy=0 by omega]
   simp
 unfold z4N bxN mx0
 rw[List.map_append,List.sum_append,e1,e2,if_pos (show(w:Int)-z1h dx>0 by omega),if_pos (show(h:Int)-z1h dy>0 by omega),Int.mul_sub,Int.sub_mul,Int.sub_mul]
 omega
theorem zAj {w h:Nat} (w2:w<=64) (h2:h<=64) {b:Bx} (B:zE5 w h b): -1000000000000<=b.2.2.1*b.2.2.2/\b.2.2.1*b.2.2.2<=(1000000000000:Int):=by
 obtain⟨a1,a2,a3,a4,a5,a6⟩:=B
 have p1:0<=b.2.2.1*b.2.2.2:=Int.mul_nonneg (by omega) (by omega)
 have p2:b.2.2.1*b.2.2.2<=64*64:=Int.mul_le_mul (by omega) (by omega) (by omega) (by omega)
 omega
theorem zDw (z:Int):0<=mx0 z/\(z<=64->mx0 z<=64):=by
 unfold mx0
 split<;>omega
noncomputable def clA (a u:Int):Int:=if(if u<1000000000-a then u else 1000000000-a)> -1000000000-a then(if u<1000000000-a then u else 1000000000-a)else-1000000000-a
theorem zDx {a u:Int}: -1000000000-a<=clA a u/\clA a u<=1000000000-a:=by
 unfold clA
 repeat' split
 all_goals omega
noncomputable def shI (a b c d:Int):Int:=mx0 ((if c+d<a+b then c+d else a+b)-(if c>a then c else a))
theorem z8D (t g y:Int) (g0:0<=g):∀n:Nat,(((List.range n).filter fun(j:Nat)=>decide (t<=y+(j:Int))&&decide (y+(j:Int)<t+g)).length:Int)=shI t g y n
 |0=>by
  unfold shI mx0
  rw[List.range_zero]
  show(0:Int)=_
  repeat' split
  all_goals omega
 |n+1=>by
  have ih:=z8D t g y g0 n
  rw[List.range_succ,List.filter_append,List.length_append,Int.natCast_add,ih]
  unfold shI mx0
  by_cases c:t<=y+(n:Int)/\y+(n:Int)<t+g
  .rw[List.filter_cons_of_pos (by rw[decide_eq_true c.1,decide_eq_true c.2];rfl)]
   show _+((1:Nat):Int)=_
   repeat' split
   all_goals omega
  .rw[List.filter_cons_of_neg (by rw[<-Bool.decide_and,decide_eq_false c];exact Bool.false_ne_true)]
   show _+((0:Nat):Int)=_
   repeat' split
   all_goals omega
def z6U:Sp:=fun vs H Q _=>∃(w h:Nat) (dx dy:Int),vs=[.int w,.int h,.int dx,.int dy]/\1<=w/\w<=64/\1<=h/\h<=64/\∀l ts bs H',Same H H'->H l=none->BxsAt H' l ts bs->FreshOk w h dx dy bs->bxN bs=z4N w h dx dy->Q (.ref l) H'
def z8E:Sp:=fun vs H Q _=>∃a b c d:Int,vs=[.int a,.int b,.int c,.int d]/\Q (.int (shI a b c d)) H
def z5S (C CF cS:Addr):Sp:=fun vs H Q E=>∃(x dx f l:Addr) (lead wd hh:Int) (zs:List Str) (Ss:List Sg) (hg:Nat) (gap:Int),vs=[.ref x,.ref f,.ref l,.int lead,.int wd,.int hh]/\H x=some (.ins C dx [])/\FA CF H f hg Ss gap/\FontOk hg Ss/\z2Q H l zs/\(∀z∈zs,z.length<=1000/\zBa z)/\
 (z0q Ss zs=none->∀ll H',SameX [x] H H'->H ll=none->WnAt C H' ⟨x,ll,f,lead,wd,hh⟩ 0 0 zs->Q .non H')/\
 ∀c i d H',z0q Ss zs=some (c,i)->Same H H'->H' d=some (.ext (z3f d [("at",.int (i:Nat)),("sign",.str (one c))]))->E (.ref cS) (some d) H'
def z5T (C:Addr):Sp:=fun vs H Q _=>∃(W:Wn) (x y dx dy:Int) (zs:List Str),vs=[.ref W.w,.int dx,.int dy]/\WnAt C H W x y zs/\1<=W.wd/\W.wd<=64/\1<=W.hh/\W.hh<=64/\∀H',SameX [W.w] H H'->WnAt C H' W (x+dx) (y+dy) zs->Q (.int (z4N W.wd W.hh dx dy)) H'
def z3y (C cL:Addr):Sp:=fun vs H Q E=>∃(W:Wn) (x y k:Int) (zs:List Str),vs=[.ref W.w,.int k]/\WnAt C H W x y zs/\(0<=k->k<zs.length->Q .non H)/\((k<0\/(zs.length:Int)<=k)->E (.ref cL) none H)
def z8F (C CF cS cL:Addr):Sp:=fun vs H Q E=>∃(W:Wn) (x y k:Int) (zs:List Str) (z:Str) (F:List Addr) (Ss:List Sg) (hg:Nat) (gap:Int),vs=[.ref W.w,.int k,.str z]/\WnAt C H W x y zs/\W.ll∈F/\FA CF (off F H) W.f hg Ss gap/\FontOk hg Ss/\hg<=64/\0<=W.lead/\W.lead<=100/\zs.length<=1000/\z.length<=1000/\zBa z/\0<=W.wd/\W.wd<=64/\
 ((k<0\/(zs.length:Int)<=k)->E (.ref cL) none H)/\
 (∀c i d H',0<=k->k<zs.length->firstBad Ss z.cps.toList 0=some (c,i)->Same H H'->H' d=some (.ext (z3f d [("at",.int (i:Nat)),("sign",.str (one c))]))->E (.ref cS) (some d) H')/\
 (0<=k->k<zs.length->firstBad Ss z.cps.toList 0=none->∀H',SameX [W.ll] H H'->WnAt C H' W x y (zs.set k.toNat z)->Q (.int (W.wd*shI (k*((hg:Int)+W.lead)) hg y W.hh)) H')
def z3z (C cL:Addr):Sp:=fun vs H Q E=>∃(W:Wn) (x y k:Int) (zs:List Str),vs=[.ref W.w,.int k]/\WnAt C H W x y zs/\(∀z,0<=k->zs[k.toNat]?=some z->Q (.str z) H)/\((k<0\/(zs.length:Int)<=k)->E (.ref cL) none H)
def z7O (C CF:Addr):Sp:=fun vs H Q _=>∃(W:Wn) (x y:Int) (zs:List Str) (Ss:List Sg) (hg:Nat) (gap:Int),vs=[.ref W.w]/\WnAt C H W x y zs/\FA CF H W.f hg Ss gap/\FontOk hg Ss/\1<=hg/\hg<=64/\zs.length<=1000/\(∀z∈zs,z.length<=1000/\TextOf Ss z)/\0<=W.lead/\W.lead<=100/\1<=W.wd/\W.wd<=64/\1<=W.hh/\W.hh<=64/\
 ∀p H',Same H H'->PicAt H' p W.wd.toNat (z3N Ss hg gap W.lead zs x y W.wd.toNat W.hh.toNat zs.length)->Q (.ref p) H'
def z5U (C:Addr):Sp:=fun vs H Q _=>∃(W:Wn) (x y:Int) (zs:List Str),vs=[.ref W.w]/\WnAt C H W x y zs/\∀t H',Same H H'->H' t=some (.tup [.int x,.int y])->Q (.ref t) H'
structure MkD where
 l:Addr
 f:Addr
 ts:List Addr
 Ss:List Sg
 hg:Nat
 gap:Int
 lead:Int
 c:Nat
structure MkAt (CF:Addr) (G:Hp) (mk:Addr) (M:MkD):Prop where
 tup:G mk=some (.tup [.ref M.l,.int M.hg,.int M.gap,.int M.lead,.str (one M.c)])
 sg:SgsAt M.hg G M.l M.ts M.Ss
 fa:FA CF G M.f M.hg M.Ss M.gap
 ok:FontOk M.hg M.Ss
 h1:1<=M.hg
 h2:M.hg<=64
 g0:0<=M.gap
 g1:M.gap<=8
 l0:0<=M.lead
 l1:M.lead<=100
 un:known M.Ss M.c=false
 sc:M.c∈sgnL
theorem MkAt.mono {CF:Addr} {G G':Hp} {mk:Addr} {M:MkD} (s:Same G G') (h:MkAt CF G mk M):MkAt CF G' mk M:=⟨s _ _ h.tup,h.sg.mono s,h.fa.mono s,h.ok,h.h1,h.h2,h.g0,h.g1,h.l0,h.l1,h.un,h.sc⟩
structure Bw where
 st:Addr
 zl:Addr
 w:Addr
 ll:Addr
 cl:Addr
noncomputable def Bw.ads (b:Bw):List Addr:=[b.st,b.zl,b.w,b.ll,b.cl]
theorem Bw.nd5 {b:Bw} (h:b.ads.Nodup):(b.st≠b.zl/\b.st≠b.w/\b.st≠b.ll/\b.st≠b.cl)/\(b.zl≠b.w/\b.zl≠b.ll/\b.zl≠b.cl)/\(b.w≠b.ll/\b.w≠b.cl)/\b.ll≠b.cl:=by
 simp only[Bw.ads,List.nodup_cons,List.mem_cons,List.not_mem_nil,or_false,not_or]at h
 exact⟨h.1,h.2.1,h.2.2.1,h.2.2.2.1⟩
theorem Bw.mzl {b:Bw}:b.zl∈b.ads:=List.mem_cons_of_mem _ List.mem_cons_self
theorem Bw.mll {b:Bw}:b.ll∈b.ads:=List.mem_cons_of_mem _ (List.mem_cons_of_mem _ (List.mem_cons_of_mem _ List.mem_cons_self))
theorem Bw.mcl {b:Bw}:b.cl∈b.ads:=List.mem_cons_of_mem _ (List.mem_cons_of_mem _ (List.mem_cons_of_mem _ (List.mem_cons_of_mem _ List.mem_cons_self)))
def ClAt (F:List Addr) (H:Hp) (M:MkD) (cl:Addr) (zs:List Str):Prop:=∃qs:List Addr,qs.length=zs.length/\H cl=some (.lst (qs.map V.ref))/\∀(i:Nat) q z,qs[i]?=some q->zs[i]?=some z->∃ps,RowsAt (off F H) q ps (z1d M.Ss M.hg M.gap z.cps.toList z.length)
structure StW (C:Addr) (F:List Addr) (H:Hp) (M:MkD) (b:Bw) (wd hh x y:Int) (zs:List Str):Prop where
 st:∃sp,H b.st=some (.lst [.ref b.zl,.ref sp,.int wd,.int hh,.ref b.w,.ref b.cl])/\off F H sp=some (.tup [.int x,.int y])
 zl:z2Q H b.zl zs
 wn:WnAt C H ⟨b.w,b.ll,M.f,M.lead,wd,hh⟩ x y zs
 cl:ClAt F H M b.cl zs
 nd:b.ads.Nodup
 inF:∀p∈b.ads,p∈F
 al:∀p∈F,∃o,H p=some o
 w1:1<=wd
 w2:wd<=64
 h1:1<=hh
 h2:hh<=64
 x1: -1000000000<=x
 x2:x<=1000000000
 y1: -1000000000<=y
 y2:y<=1000000000
 n:zs.length<=20
 tx:∀z∈zs,z.length<=20/\TextOf M.Ss z
section
variable {C:Addr} {F S:List Addr} {H H':Hp} {M:MkD} {b:Bw} {wd hh x y:Int} {zs:List Str}
theorem ClAt.keep {cl:Addr} (e:SameX S H H') (hS:∀p∈S,p∈F) (hc:cl∉S) (h:ClAt F H M cl zs):ClAt F H' M cl zs:=let ⟨qs,c1,c2,c3⟩:=h;⟨qs,c1,e _ _ hc c2,fun i q z e1 e2=>let ⟨ps,r⟩:=c3 i q z e1 e2;⟨ps,r.mono (z0u (e.sub hS))⟩⟩
theorem z7P (e:SameX S H H') (hx:∀p∈S,∃o,H' p=some o) (h:∀p∈F,∃o,H p=some o):∀p∈F,∃o,H' p=some o:=fun p hp=>by
 by_cases hs:p∈S
 .exact hx p hs
 .obtain⟨o,ho⟩:=h p hp
  exact⟨o,e p o hs ho⟩
theorem StW.keep (e:SameX S H H') (hx:∀p∈S,∃o,H' p=some o) (hS:∀p∈S,p∈F) (dj:∀p∈b.ads,p∉S) (h:StW C F H M b wd hh x y zs):StW C F H' M b wd hh x y zs:=by
 have o:=z0u (e.sub hS)
 have k:∀{p:Addr} {u:HO},p∈b.ads->H p=some u->H' p=some u:=fun{p u} hp=>e p u (dj p hp)
 obtain⟨sp,s1,s2⟩:=h.st
 obtain⟨⟨dx,w1⟩,w2⟩:=h.wn
 obtain⟨qs,c1,c2,c3⟩:=h.cl
 have m:b.ads=[b.st,b.zl,b.w,b.ll,b.cl]:=rfl
 exact⟨⟨sp,k (by simp[m]) s1,o _ _ s2⟩,k (by simp[m]) h.zl,⟨⟨dx,k (by simp[m]) w1⟩,k (by simp[m]) w2⟩,⟨qs,c1,k (by simp[m]) c2,fun i q z e1 e2=>let ⟨ps,r⟩:=c3 i q z e1 e2;⟨ps,r.mono o⟩⟩,h.nd,h.inF,z7P e hx h.al,h.w1,h.w2,h.h1,h.h2,h.x1,h.x2,h.y1,h.y2,h.n,h.tx⟩
theorem StW.mono (s:Same H H') (h:StW C F H M b wd hh x y zs):StW C F H' M b wd hh x y zs:=h.keep (S:=[]) (SameX.of s) (fun _ z=>nomatch z) (fun _ z=>nomatch z) fun _ _ z=>nomatch z
theorem StW.more {G:List Addr} (hG:∀p∈F,p∈G) (n:∀p∈G,p∈F\/H p=none) (s:Same H H') (ga:∀p∈G,∃o,H' p=some o) (h:StW C F H M b wd hh x y zs):StW C G H' M b wd hh x y zs:=by
 have o:=zBj s n
 obtain⟨sp,s1,s2⟩:=h.st
 obtain⟨qs,c1,c2,c3⟩:=h.cl
 exact⟨⟨sp,s _ _ s1,o _ _ s2⟩,s _ _ h.zl,h.wn.mono s,⟨qs,c1,s _ _ c2,fun i q z e1 e2=>let ⟨ps,r⟩:=c3 i q z e1 e2;⟨ps,r.mono o⟩⟩,h.nd,fun p hp=>hG p (h.inF p hp),ga,h.w1,h.w2,h.h1,h.h2,h.x1,h.x2,h.y1,h.y2,h.n,h.tx⟩
theorem StW.ex (h:StW C F H M b wd hh x y zs):∀p∈b.ads,∃o,H p=some o:=fun p hp=>by
 obtain⟨sp,s1,_⟩:=h.st
 obtain⟨⟨dx,w1⟩,w2⟩:=h.wn
 obtain⟨qs,_,c2,_⟩:=h.cl
 have hp:p∈[b.st,b.zl,b.w,b.ll,b.cl]:=hp
 simp only[List.mem_cons,List.not_mem_nil,or_false]at hp
 rcases hp with rfl|rfl|rfl|rfl|rfl
 .exact⟨_,s1⟩
 .exact⟨_,h.zl⟩
 .exact⟨_,w1⟩
 .exact⟨_,w2⟩
 .exact⟨_,c2⟩
theorem StW.step (h:StW C F H M b wd hh x y zs) {sp:Addr} {x' y':Int} (e:SameX [b.st,b.w] H H') (gs:H' b.st=some (.lst [.ref b.zl,.ref sp,.int wd,.int hh,.ref b.w,.ref b.cl])) (gp:H' sp=some (.tup [.int x',.int y'])) (np:H sp=none) (wn:WnAt C H' ⟨b.w,b.ll,M.f,M.lead,wd,hh⟩ x' y' zs) (x1: -1000000000<=x') (x2:x'<=1000000000) (y1: -1000000000<=y') (y2:y'<=1000000000):StW C F H' M b wd hh x' y' zs:=by
 obtain⟨⟨n1,n2,n3,n4⟩,⟨n5,n6,n7⟩,⟨n8,n9⟩,n10⟩:=Bw.nd5 h.nd
 have inS:∀p∈[b.st,b.w],p∈F:=fun p hp=>h.inF p (by
  simp only[List.mem_cons,List.not_mem_nil,or_false]at hp
  rcases hp with rfl|rfl<;>simp[Bw.ads])
 have o:=z0u (e.sub inS)
 obtain⟨qs,c1,c2,c3⟩:=h.cl
 refine⟨⟨sp,gs,z4M (fun z=>?_) gp⟩,e _ _ ?_ h.zl,wn,⟨qs,c1,e _ _ ?_ c2,fun i q z e1 e2=>let ⟨ps,r⟩:=c3 i q z e1 e2;⟨ps,r.mono o⟩⟩,h.nd,h.inF,z7P e (fun p hp=>?_) h.al,h.w1,h.w2,h.h1,h.h2,x1,x2,y1,y2,h.n,h.tx⟩
 .obtain⟨u,hu⟩:=h.al _ z
  rw[np]at hu
  cases hu
 .simp only[List.mem_cons,List.not_mem_nil,or_false,not_or]
  exact⟨Ne.symm n1,n5⟩
 .simp only[List.mem_cons,List.not_mem_nil,or_false,not_or]
  exact⟨Ne.symm n4,Ne.symm n9⟩
 .simp only[List.mem_cons,List.not_mem_nil,or_false]at hp
  rcases hp with rfl|rfl
  .exact⟨_,gs⟩
  .obtain⟨⟨dx,a⟩,_⟩:=wn
   exact⟨_,a⟩
theorem StW.edit (h:StW C F H M b wd hh x y zs) {zs':List Str} (e:SameX [b.zl,b.ll,b.cl] H H') (gz:z2Q H' b.zl zs') (gl:z2Q H' b.ll zs') (gc:ClAt F H' M b.cl zs') (n:zs'.length<=20) (tx:∀z∈zs',z.length<=20/\TextOf M.Ss z):StW C F H' M b wd hh x y zs':=by
 obtain⟨⟨n1,n2,n3,n4⟩,⟨n5,n6,n7⟩,⟨n8,n9⟩,n10⟩:=Bw.nd5 h.nd
 have inS:∀p∈[b.zl,b.ll,b.cl],p∈F:=fun p hp=>h.inF p (by
  simp only[List.mem_cons,List.not_mem_nil,or_false]at hp
  rcases hp with rfl|rfl|rfl<;>simp[Bw.ads])
 have o:=z0u (e.sub inS)
 obtain⟨sp,s1,s2⟩:=h.st
 obtain⟨⟨dx,w1⟩,_⟩:=h.wn
 refine⟨⟨sp,e _ _ ?_ s1,o _ _ s2⟩,gz,⟨⟨dx,e _ _ ?_ w1⟩,gl⟩,gc,h.nd,h.inF,z7P e (fun p hp=>?_) h.al,h.w1,h.w2,h.h1,h.h2,h.x1,h.x2,h.y1,h.y2,n,tx⟩
 .simp only[List.mem_cons,List.not_mem_nil,or_false,not_or]
  exact⟨n1,n3,n4⟩
 .simp only[List.mem_cons,List.not_mem_nil,or_false,not_or]
  exact⟨Ne.symm n5,n8,n9⟩
 .simp only[List.mem_cons,List.not_mem_nil,or_false]at hp
  obtain⟨qs,_,c2,_⟩:=gc
  rcases hp with rfl|rfl|rfl
  .exact⟨_,gz⟩
  .exact⟨_,gl⟩
  .exact⟨_,c2⟩
theorem zBm:∀p∈[b.st,b.w],p∈b.ads:=fun p hp=>by
 simp only[List.mem_cons,List.not_mem_nil,or_false]at hp
 rcases hp with rfl|rfl<;>simp[Bw.ads]
theorem z8G:∀p∈[b.zl,b.ll,b.cl],p∈b.ads:=fun p hp=>by
 simp only[List.mem_cons,List.not_mem_nil,or_false]at hp
 rcases hp with rfl|rfl|rfl<;>simp[Bw.ads]
end
structure WdD where
 b0:Bw
 b1:Bw
 w0:Int
 h0:Int
 w1:Int
 h1:Int
 sl:Addr
noncomputable def WdD.F (D:WdD):List Addr:=(D.sl::D.b0.ads)++D.b1.ads
structure Wld (C:Addr) (G H:Hp) (M:MkD) (D:WdD):Prop where
 s0:∃x y zs,StW C D.F H M D.b0 D.w0 D.h0 x y zs
 s1:∃x y zs,StW C D.F H M D.b1 D.w1 D.h1 x y zs
 sl:H D.sl=some (.lst [.ref D.b0.st,.ref D.b1.st])
 sm:Same G (off D.F H)
 n0:D.sl∉D.b0.ads
 n1:D.sl∉D.b1.ads
 dj:∀p∈D.b1.ads,p∉D.b0.ads
section
variable {C:Addr} {G H H':Hp} {M:MkD} {D:WdD} {x y:Int} {zs:List Str}
theorem Wld.mono (s:Same H H') (h:Wld C G H M D):Wld C G H' M D:=
 ⟨let ⟨x,y,zs,a⟩:=h.s0;⟨x,y,zs,a.mono s⟩,let ⟨x,y,zs,a⟩:=h.s1;⟨x,y,zs,a.mono s⟩,s _ _ h.sl,h.sm.trans (z0u (SameX.of s)),h.n0,h.n1,h.dj⟩
theorem Wld.d0 (h:Wld C G H M D) (e:SameX D.b0.ads H H') (s:StW C D.F H' M D.b0 D.w0 D.h0 x y zs):Wld C G H' M D:=by
 obtain⟨x1,y1,zs1,a⟩:=h.s1
 exact⟨⟨_,_,_,s⟩,⟨_,_,_,a.keep e s.ex s.inF h.dj⟩,e _ _ h.n0 h.sl,h.sm.trans (z0u (e.sub s.inF)),h.n0,h.n1,h.dj⟩
theorem Wld.d1 (h:Wld C G H M D) (e:SameX D.b1.ads H H') (s:StW C D.F H' M D.b1 D.w1 D.h1 x y zs):Wld C G H' M D:=by
 obtain⟨x1,y1,zs1,a⟩:=h.s0
 exact⟨⟨_,_,_,a.keep e s.ex s.inF fun p hp hq=>h.dj p hq hp⟩,⟨_,_,_,s⟩,e _ _ h.n1 h.sl,h.sm.trans (z0u (e.sub s.inF)),h.n0,h.n1,h.dj⟩
end
def z33:Sp:=fun vs H Q _=>∃(z:Str) (d:Addr) (hg:Nat) (gap:Int) (Ss:List Sg),vs=[.str z,.ref d,.int hg,.int gap]/\TableAt hg H d Ss/\FontOk hg Ss/\1<=hg/\hg<=64/\0<=gap/\gap<=8/\z.length<=200/\TextOf Ss z/\
 ∀l ps H',RowsB H H' l ps (z1d Ss hg gap z.cps.toList z.length)->Q (.ref l) H'
def z40:Sp:=fun vs H Q _=>∃(c:Int) (l:Addr) (n:Int) (ts:List Addr) (Ss:List Sg) (hg:Nat),vs=[.int c,.ref l,.int n]/\SgsAt hg H l ts Ss/\1<=Ss.length/\0<=n/\n<=20/\∀z,z.length=n.toNat->TextOf Ss z->Q (.str z) H
def z6V (K:PySem.W.Frag):Sp:=fun vs H Q _=>∃(a:Addr) (ns:List Int) (k:Int) (l:Addr) (m:Int) (ts:List Addr) (Ss:List Sg) (hg:Nat),vs=[.ref a,.int k,.ref l,.int m]/\SqL K H a (ns.map V.int)/\SgsAt hg H l ts Ss/\1<=Ss.length/\0<=k/\k<1000/\0<=m/\m<=20/\
 ∀p zs H',Same H H'->H p=none->z2Q H' p zs->zs.length=m.toNat->(∀z∈zs,z.length<=20/\TextOf Ss z)->Q (.ref p) H'
def zAk (C CF:Addr):Sp:=fun vs H Q _=>∃(F:List Addr) (mk:Addr) (M:MkD) (b:Bw) (wd hh x y:Int) (zs:List Str),vs=[.ref b.st,.ref mk]/\StW C F H M b wd hh x y zs/\MkAt CF (off F H) mk M/\∀q H',Same H H'->PicAt H' q wd.toNat (zDt M.hg M.lead (zs.map fun z=>z1d M.Ss M.hg M.gap z.cps.toList z.length) x y wd.toNat hh.toNat)->Q (.ref q) H'
def z3b (C CF:Addr):Sp:=fun vs H Q _=>∃(F:List Addr) (mk:Addr) (M:MkD) (b:Bw) (wd hh x y:Int) (zs:List Str),vs=[.ref b.st,.ref mk]/\StW C F H M b wd hh x y zs/\MkAt CF (off F H) mk M/\∀H',Same H H'->Q (.bl true) H'
def z4y (C:Addr):Sp:=fun vs H Q _=>∃(F:List Addr) (M:MkD) (b:Bw) (wd hh x y:Int) (zs:List Str) (c:Int),vs=[.int c,.ref b.st]/\StW C F H M b wd hh x y zs/\∀x' y' H',SameX b.ads H H'->StW C F H' M b wd hh x' y' zs->Q (.bl true) H'
def z8H (C CF:Addr):Sp:=fun vs H Q _=>∃(F:List Addr) (mk:Addr) (M:MkD) (b:Bw) (wd hh x y:Int) (zs:List Str) (c:Int),vs=[.int c,.ref b.st,.ref mk]/\StW C F H M b wd hh x y zs/\MkAt CF (off F H) mk M/\0<zs.length/\∀zs' H',SameX b.ads H H'->StW C F H' M b wd hh x y zs'->Q (.bl true) H'
def z4z (C CF:Addr):Sp:=fun vs H Q _=>∃(W:Wn) (x y k:Int) (zs:List Str) (z:Str) (F:List Addr) (Ss:List Sg) (hg:Nat) (gap:Int),vs=[.ref W.w,.int k,.str z]/\WnAt C H W x y zs/\W.ll∈F/\FA CF (off F H) W.f hg Ss gap/\FontOk hg Ss/\hg<=64/\0<=W.lead/\W.lead<=100/\zs.length<=1000/\z.length<=1000/\zBa z/\0<=W.wd/\W.wd<=64/\
 (((k<0\/(zs.length:Int)<=k)/\∀H',Same H H'->Q (.str (Str.ofString "no line")) H')\/(0<=k/\k<zs.length/\∃c i,firstBad Ss z.cps.toList 0=some (c,i)/\∀t H',Same H H'->H' t=some (.tup [.str (one c),.int (i:Nat)])->Q (.ref t) H'))
def z50 (C:Addr):Sp:=fun vs H Q _=>∃(W:Wn) (x y k:Int) (zs:List Str),vs=[.ref W.w,.int k]/\WnAt C H W x y zs/\(k<0\/(zs.length:Int)<=k)/\∀H',Same H H'->Q (.bl true) H'
def z4O (C CF:Addr):Sp:=fun vs H Q _=>∃(F:List Addr) (mk:Addr) (M:MkD) (b:Bw) (wd hh x y:Int) (zs:List Str) (c:Int),vs=[.int c,.ref b.st,.ref mk]/\StW C F H M b wd hh x y zs/\MkAt CF (off F H) mk M/\∀H',Same H H'->Q (.bl true) H'
def z8I (C CF:Addr):Sp:=fun vs H Q _=>∃(F:List Addr) (mk:Addr) (M:MkD) (b:Bw) (wd hh x y:Int) (zs:List Str) (c:Int),vs=[.int c,.ref b.st,.ref mk]/\StW C F H M b wd hh x y zs/\MkAt CF (off F H) mk M/\∀x' y' zs' H',SameX b.ads H H'->StW C F H' M b wd hh x' y' zs'->Q (.bl true) H'
def zAl (K:PySem.W.Frag) (C CF:Addr):Sp:=fun vs H Q _=>∃(a:Addr) (ns:List Int) (k:Int) (mk:Addr) (M:MkD) (m:Int) (F:List Addr),vs=[.ref a,.int k,.ref mk,.ref M.f,.int m]/\SqL K H a (ns.map V.int)/\0<=k/\k<900/\MkAt CF H mk M/\0<=m/\m<=20/\(∀p∈F,∃o,H p=some o)/\
 ∀b wd hh zs H',Same H H'->(∀p∈b.ads,H p=none)->StW C (F++b.ads) H' M b wd hh 0 0 zs->zs.length=m.toNat->Q (.ref b.st) H'
def z51 (CF:Addr):Sp:=fun vs H Q _=>∃(v:V) (mk:Addr) (M:MkD),vs=[v,.ref mk,.ref M.f]/\MkAt CF H mk M/\∀H',Same H H'->Q (.bl true) H'
def z6W (K:PySem.W.Frag):Sp:=fun vs H Q _=>∃(a:Addr) (ns:List Int),vs=[.ref a]/\SqL K H a (ns.map V.int)/\ns.length<=63/\∀l (cs:List Int) H',Same H H'->H l=none->H' l=some (.lst (cs.map V.int))->Q (.ref l) H'
end L2
set_option hygiene false in
local macro_rules | `(tactic| walk_at "r1") => `(tactic| first
 |refine⟨_,rfl,?_⟩
 |refine⟨_,_,rfl,rfl,?_⟩
 |refine⟨rfl,?_⟩
 |refine⟨(by show(0:Int)<_;first|decide|omega),?_⟩
 |refine⟨⟨(by first|decide|omega),(by first|decide|omega)⟩,?_⟩
 |refine⟨L2.mulL (by first|decide|omega) (by first|decide|omega),?_⟩
 |refine⟨L2.mulR (by first|decide|omega) (by first|decide|omega),?_⟩
 |refine⟨L2.powS (by first|decide|omega) (by first|decide|omega) (by first|decide|omega),?_⟩
 |refine⟨L2.szV (by simp),?_⟩
 |(apply L2.unhold hB';first|refine L2.hold fun _ hB'=>?_|skip))
local macro_rules | `(tactic| walk_at "rs") => `(tactic| repeat walk_at "r1")
namespace K36
open PySem PyProof.Rows L2 G
def z1e (i:Nat):Stmt:=PySem.Challenge.pw_glowboard_k36_whole_windows.main.body.getD i (.Pass ⟨0,0,0,0⟩)
abbrev z20:Stmt:=z1e 7
abbrev z1i:Stmt:=z1e 8
abbrev z2R:Stmt:=z1e 10
abbrev z1M:Stmt:=z1e 11
abbrev z1N:Stmt:=z1e 12
abbrev z21:Stmt:=z1e 13
abbrev z0y:Stmt:=z1e 14
abbrev z22:Stmt:=z1e 15
abbrev z2S:Stmt:=z1e 16
abbrev z2T:Stmt:=z1e 17
abbrev z1O:Stmt:=z1e 19
abbrev z23:Stmt:=z1e 20
abbrev z5V:Stmt:=z1e 21
abbrev z1P:Stmt:=z1e 22
abbrev z3O:Stmt:=z1e 23
abbrev z0z:Stmt:=z1e 25
abbrev z34:Stmt:=z1e 26
abbrev z4P:Stmt:=z1e 27
abbrev s_fresh:Stmt:=z1e 29
abbrev z19:Stmt:=z1e 30
abbrev z1T:Stmt:=inClass (z1e 31) 0
abbrev z0c:Stmt:=inClass (z1e 31) 1
abbrev z0Y:Stmt:=inClass (z1e 31) 2
abbrev z1U:Stmt:=inClass (z1e 31) 3
abbrev z1V:Stmt:=inClass (z1e 31) 4
abbrev z1G:Stmt:=inClass (z1e 31) 5
abbrev z1W:Stmt:=inClass (z1e 31) 6
abbrev z2U:Stmt:=z1e 33
abbrev z2V:Stmt:=z1e 34
abbrev z0U:Stmt:=z1e 35
abbrev z1w:Stmt:=inClass (z1e 36) 0
abbrev z1X:Stmt:=inClass (z1e 36) 1
abbrev z1A:Stmt:=inClass (z1e 36) 2
abbrev z1x:Stmt:=inClass (z1e 36) 4
abbrev z24:Stmt:=z1e 38
abbrev z1j:Stmt:=z1e 39
abbrev z1k:Stmt:=z1e 40
abbrev z1p:Stmt:=z1e 41
abbrev z25:Stmt:=z1e 42
abbrev z1Y:Stmt:=z1e 43
abbrev z26:Stmt:=z1e 44
abbrev z1l:Stmt:=z1e 45
abbrev z1Z:Stmt:=z1e 46
abbrev z0k:Stmt:=z1e 47
abbrev z27:Stmt:=z1e 48
abbrev z1m:Stmt:=z1e 49
abbrev z2W:Stmt:=z1e 50
abbrev z1B:Stmt:=z1e 51
abbrev z0V:Stmt:=z1e 52
abbrev z1C:Stmt:=z1e 53
abbrev z1Q:Stmt:=z1e 54
abbrev z1R:Stmt:=z1e 55
abbrev z1D:Stmt:=z1e 56
abbrev z28:Stmt:=z1e 57
abbrev z1a:Stmt:=z1e 58
abbrev z0o:Stmt:=z1e 59
abbrev z1b:Stmt:=z1e 60
abbrev z3l:Stmt:=z1e 61
structure Blt (mg:Str->Option Value):Prop where
 f_len:mg "len"=none
 f_range:mg "range"=none
 f_enumerate:mg "enumerate"=none
 f_zip:mg "zip"=none
 f_reversed:mg "reversed"=none
 f_isinstance:mg "isinstance"=none
 f_int:mg "int"=none
 f_bool:mg "bool"=none
 f_str:mg "str"=none
 f_list:mg "list"=none
 f_tuple:mg "tuple"=none
 f_dict:mg "dict"=none
 f_all:mg "all"=none
 f_sum:mg "sum"=none
 f_abs:mg "abs"=none
 f_min:mg "min"=none
 f_max:mg "max"=none
 f_ord:mg "ord"=none
structure Co (K:PySem.W.Frag) (mg:Str->Option Value) (J0 J3:Addr):Prop where
 m_Window:mg "Window"=some (.ref J0)
 k_Window:Cls K J0
 n_Window_font:NoAttr K J0 "font"
 n_Window_lines:NoAttr K J0 "lines"
 n_Window_lead:NoAttr K J0 "lead"
 n_Window_wide:NoAttr K J0 "wide"
 n_Window_high:NoAttr K J0 "high"
 n_Window_x:NoAttr K J0 "x"
 n_Window_y:NoAttr K J0 "y"
 m_Font:mg "Font"=some (.ref J3)
 k_Font:Cls K J3
 n_Font_pics:NoAttr K J3 "pics"
 n_Font_high:NoAttr K J3 "high"
 n_Font_gap:NoAttr K J3 "gap"
structure Cl (K:PySem.W.Frag) (mg:Str->Option Value) (J6 J7 J4 J5:Addr):Prop where
 m_GlowError:mg "GlowError"=some (.ref J6)
 gi:Gi K J6
 x_GlowError:XE K J6
 tup:PySem.W.kitOne K (.type "tuple") (.ref J6)=some false
 ab:∀c∈([J7,J4,J5]:List Addr),PySem.W.mroIn K c (.ref J6)=some true
 m_NoFont:mg "NoFont"=some (.ref J7)
 x_NoFont:XE K J7
 m_NoSign:mg "NoSign"=some (.ref J4)
 x_NoSign:XE K J4
 f_NoSign_sign:PySem.W.findIn K (.ref J4) "sign"=some none
 f_NoSign_at:PySem.W.findIn K (.ref J4) "at"=some none
 m_NoLine:mg "NoLine"=some (.ref J5)
 x_NoLine:XE K J5
 kt:∀i,i<3->Kits K [J7,J4,J5] J6 i
section
variable {P:Program} {w:World} {K:PySem.W.Frag} {mg:Str->Option Value} {base:Heap}
abbrev z2q:Stmt:=inClass (z1e 4) 0
theorem zAm:FnScope ["self","sign","at"] ["self","sign","at"] (z03 z2q):=⟨rfl,rfl,rfl,by decide+kernel,rfl,by decide+kernel,by decide+kernel⟩
theorem zAn {J6 J7 J4 J5:Addr} (Z:Cl K mg J6 J7 J4 J5) {f:Addr} {fd:FuncData} (D:Fun K "__init__" "NoSign.__init__" z2q f fd):FnOk P w K mg base CX0 1 f fd ["self","sign","at"] (zE6 J4 "sign" "at"):=by
 refine D.ok zAm (fun vs H Q E h=>?_) (fun cdv A outer s H vs Q E hr h=>?_)
 .obtain⟨x,z,v,rfl,_⟩:=h
  rfl
 obtain⟨x,z,v,rfl,hx,hz,hv,q⟩:=h
 refine⟨_,z04 (z0e (zBP rfl Z.m_GlowError Z.gi (z00 (pv 0) (z00 (zCq (z3t zAK (z3t (zCo (pv 1)) (z3t zAK (z3t (zDf (pv 2)) zCp))))) z02)))) (z04 (zCm (pv 0) (pv 1) rfl) (z05 (zCn (pv 0) (pv 2) rfl))),?_⟩
 refine⟨_,rfl,⟨by decide,⟨_,rfl,⟨z,rfl,hz⟩,rfl⟩,by decide,⟨_,rfl,hv,rfl⟩,trivial⟩,fun z'=>⟨x,J4,none,_,rfl,hx,Z.x_NoSign,?_⟩⟩
 refine⟨_,rfl,_,rfl,x,J4,rfl,hx,Z.x_NoSign,Z.f_NoSign_sign,fun d nd hd=>?_⟩
 refine⟨_,rfl,_,rfl,x,J4,d,_,rfl,hd,by rw[z06 (Ne.symm hd),upd_same],upd_same,by show 1<=900;decide,Z.x_NoSign,Z.f_NoSign_at,?_⟩
 rw[z2K]
 exact q d nd hd
end
section
variable {P:Program} {w:World} {K:PySem.W.Frag} {mg:Str->Option Value} {base:Heap}
theorem z7Q:FnScope ["_law_found"] ["_law_found"] (z03 z1j):=⟨rfl,rfl,rfl,by decide+kernel,rfl,by decide+kernel,by decide+kernel⟩
theorem z7R {f:Addr} {fd:FuncData} (D:Df K mg "_law_whole" z1j ["_law_found"] f fd) (B:Blt mg):
 Ow P w K mg base "_law_whole" ["_law_found"] 1 z2h:=by
 refine D.ow (D.F.ok z7Q (fun vs H Q E h=>?_) (fun cdv A outer s H vs Q E hr h=>?_))
 .obtain⟨x,T,rfl,_⟩:=h
  rfl
 obtain⟨x,T,rfl,hT,q⟩:=h
 refine⟨_,(z05 (z0I (z2t (z07 z0n rfl B.f_isinstance boot_isinstance (z00 (pv 0) (z00 (z1K (v:=.ty "int") rfl B.f_int boot_int rfl) z02))) (z2s (zBr (z07 z0n rfl B.f_isinstance boot_isinstance (z00 (pv 0) (z00 (z1K (v:=.ty "bool") rfl B.f_bool boot_bool rfl) z02)))))))),?_⟩
 refine⟨x,rfl,x,"int",T,rfl,by decide,hT,_,rfl,?_⟩
 have e:=z4C T (z5A hT)
 cases hi:z8W T "int" with
 |true=>
  rw[hi,if_pos rfl]at e
  refine z3e ⟨x,rfl,x,"bool",T,rfl,by decide,hT,_,rfl,?_⟩
  rw[e]
  exact q
 |false=>
  rw[hi,if_neg (by decide)]at e
  refine z5y ?_
  rw[e]
  exact q
theorem W6:FnScope ["_law_script","_law_k","_law_wide","_law_high","_law_rows_here","_law_y"] ["_law_script","_law_k","_law_wide","_law_high"] (z03 z1p):=⟨rfl,rfl,rfl,by decide+kernel,rfl,by decide+kernel,by decide+kernel⟩
theorem z8p {f:Addr} {fd:FuncData} (D:Df K mg "_law_rows" z1p ["_law_script","_law_k","_law_wide","_law_high"] f fd)
 (W7:Ow P w K mg base "_law_shade" ["_law_script","_law_k"] 2 (zA5 K)) (B:Blt mg):
 Ow P w K mg base "_law_rows" ["_law_script","_law_k","_law_wide","_law_high"] 3 (zC1 K):=by
 refine D.ow (D.F.ok W6 (fun vs H Q E h=>?_) (fun cdv A outer s H vs Q E hr h=>?_))
 .obtain⟨a,ns,k,w,h,rfl,_⟩:=h
  rfl
 obtain⟨a,ns,k,wd,hg,rfl,hS,k0,k1,w1,w2,h1,h2,q⟩:=h
 refine⟨_,(z04 (z0B (i:=4) W6.nd rfl (Or.inl rfl) (z1o z02))
  (z04 (z1S PassesOwn.never rfl (z0S rfl B.f_range (z00 (pv 3) z02)) (z0K (i:=5) W6.nd rfl (Or.inr rfl)) (z05 (z0e (z3i PySem.F.plainAttrs_list PySem.F.slot_list_append PySem.F.type_list_append z0p (pv 4) (z00 (z1L (locs:=["_law_x"]) (ix:=[0,1,5]) rfl (BlkSc.look (dsc:=z03 z1p) (N:=["_law_script","_law_k","_law_wide","_law_high","_law_rows_here","_law_y"]) rfl rfl (by decide+kernel)) (z0S rfl B.f_range (z00 (pv 2) z02)) (fun _ _ _ _ _ _=>(z0K (i:=0) (by decide+kernel:(["_law_x","_law_script","_law_k","_law_y"]:List Str).Nodup) rfl (Or.inl rfl))) (fun _ _ _ _ _ _=>z0h) (fun _ _ _ _ _ _=>(z0G W7 hr rfl (z00 (pv 1) (z00 (z08 z0P (z08 z0P (pv 2) (z08 z0s z01 (pv 3))) (pv 0)) z02))))) z02)))))
  (z05 (z0I (pv 4))))),?_⟩
 walk_at "rs"
 intro l nl
 refine⟨_,rfl,_,rfl,(z2v (by omega) (by omega)).1,(z2v (by omega) (by omega)).2,?_⟩
 refine z0v (n:=hg.toNat) (fun y σ H2=>∃ps rows v5,σ=[some (.ref a),some (.int k),some (.int wd),some (.int hg),some (.ref l),v5]/\RowsB H H2 l ps rows/\rows.length=y/\∀r∈rows,r.length=wd.toNat/\Cells r)
  ⟨[],[],none,rfl,z6v (Same.refl _) nl,rfl,(fun _ hr=>nomatch hr)⟩ ?_ ?_
 .rintro y σ H2 hy ⟨ps,rows,v5,rfl,RB,hlen,hrow⟩
  have hpl:=RB.rat.len
  refine⟨_,rfl,.inl ⟨rfl,_,SqL.of RB.rat.lst⟩,_,rfl,_,rfl,(z2v (by omega) (by omega)).1,(z2v (by omega) (by omega)).2,?_⟩
  refine z0i (n:=wd.toNat) (fun i σ zs H3=>∃v r,σ=[v,some (.ref a),some (.int k),some (.int (0+(y:Int)))]/\zs=r.map z0X/\r.length=i/\Cells r/\H3=H2) ⟨none,[],rfl,rfl,rfl,(fun _ h=>nomatch h),rfl⟩ (Nat.le_of_lt (z0H (by omega))) ?_ ?_ ?_ ?_ ?_
  .rintro i σ zs H3 ⟨v,r,_,rfl,hr,_⟩
   rw[List.length_map,hr]
  .rintro σ zs H3 _
   show wd.toNat<=wd.toNat
   exact Nat.le_refl _
  .intro i σ zs H3 hi _
   show i<wd.toNat
   exact hi
  .rintro i σ zs H3 x H' Z hi ⟨v,r,rfl,rfl,hr,hc,rfl⟩ ⟨rfl,rfl⟩ hZ
   walk_at "rs"
   refine⟨a,ns,_,rfl,RB.same.seq hS,by omega,by omega,fun c hcell=>?_⟩
   refine hZ _ _ _ ⟨_,r++[c],rfl,by rw[List.map_append];rfl,by rw[List.length_append,hr];rfl,fun d hd=>?_,rfl⟩
   rcases List.mem_append.mp hd with e|e
   .exact hc d e
   .rw[List.mem_singleton.mp e]
    exact hcell
  .rintro σ zs H3 ⟨v,r,rfl,rfl,hr,hc,rfl⟩ p np
   have npl:p≠l:=fun e=>by
    have:=RB.rat.lst
    rw[<-e,np]at this
    cases this
   have npp:p∉ps:=fun hp=>by
    obtain⟨i,hi,e⟩:=List.mem_iff_getElem.mp hp
    have:=RB.rat.row i p (rows[i]'(by omega)) (by rw[List.getElem?_eq_getElem hi,e]) (List.getElem?_eq_getElem _)
    rw[np]at this
    cases this
   have np0:H p=none:=RB.same.free np
   have RB1:=RB.put (o:=.lst (r.map z0X)) np0 npl npp
   refine⟨l,_,_,rfl,rfl,RB1.rat.lst,by rw[List.length_map];exact z0H (by omega),?_⟩
   refine⟨ps++[p],rows++[r],_,rfl,RB1.push np0 npl upd_same,by rw[List.length_append,hlen];rfl,fun r' hr'=>?_⟩
   rcases List.mem_append.mp hr' with e|e
   .exact hrow r' e
   .rw[List.mem_singleton.mp e]
    exact⟨hr,hc⟩
 .rintro σ H2 ⟨ps,rows,v5,rfl,RB,hlen,hrow⟩
  refine⟨_,rfl,?_⟩
  exact q l ps rows H2 RB.same RB.fl (fun p hp=>(RB.fp p hp).1) RB.rat ⟨hlen,by omega,by omega,by omega,by omega,hrow⟩
theorem JB:FnScope ["_law_rows_here","_law_paints","_law_masks","_law_row","_law_paint","_law_mask","_law_cell"] ["_law_rows_here"] (z03 z25):=⟨rfl,rfl,rfl,by decide+kernel,rfl,by decide+kernel,by decide+kernel⟩
theorem z8q {f:Addr} {fd:FuncData} (D:Df K mg "_law_bits" z25 ["_law_rows_here"] f fd) (B:Blt mg):
 Ow P w K mg base "_law_bits" ["_law_rows_here"] 1 z5F:=by
 refine D.ow (D.F.ok JB (fun vs H Q E h=>?_) (fun cdv A outer s H vs Q E hr h=>?_))
 .obtain⟨l,ps,rows,w,h,rfl,_⟩:=h
  rfl
 obtain⟨l,ps,rows,wd,hg,rfl,RA,R,q⟩:=h
 refine⟨_,(z04 (z0B (i:=1) JB.nd rfl (Or.inl rfl) (z1o z02))
  (z04 (z0B (i:=2) JB.nd rfl (Or.inl rfl) (z1o z02))
  (z04 (z1S PassesOwn.never rfl (z1q (pv 0)) (z0K (i:=3) JB.nd rfl (Or.inl rfl)) (z04 (z0B (i:=4) JB.nd rfl (Or.inl rfl) z01)
  (z04 (z0B (i:=5) JB.nd rfl (Or.inl rfl) z01)
  (z04 (z1S PassesOwn.never rfl (zDS rfl B.f_reversed (z00 (pv 3) z02)) (z0K (i:=6) JB.nd rfl (Or.inl rfl)) (z04 (z0B (i:=4) JB.nd rfl (Or.inl rfl) (z08 z0s (pv 4) z01))
  (z04 (z0B (i:=5) JB.nd rfl (Or.inl rfl) (z08 z0s (pv 5) z01))
  (z05 (z0R (z0N z6o (pv 6) z3c (z0O _)) (z04 (z0B (i:=4) JB.nd rfl (Or.inl rfl) (z08 z0P (pv 4) (pv 6)))
  (z05 (z0B (i:=5) JB.nd rfl (Or.inl rfl) (z08 z0P (pv 5) z01)))) z0L)))))
  (z04 (z0e (z3i PySem.F.plainAttrs_list PySem.F.slot_list_append PySem.F.type_list_append z0p (pv 1) (z00 (pv 4) z02)))
  (z05 (z0e (z3i PySem.F.plainAttrs_list PySem.F.slot_list_append PySem.F.type_list_append z0p (pv 2) (z00 (pv 5) z02)))))))))
  (z05 (z0I (z0t (z00 (z07 z0F rfl B.f_len boot_len (z00 (z0C ix_list (pv 0) z01 (fun _ _=>rfl)) z02)) (z00 (z07 z0F rfl B.f_len boot_len (z00 (pv 0) z02)) (z00 (z0w z1E rfl B.f_tuple boot_tuple (z00 (pv 1) z02)) (z00 (z0w z1E rfl B.f_tuple boot_tuple (z00 (pv 2) z02)) z02)))))))))),?_⟩
 walk_at "rs"
 intro lp np
 walk_at "rs"
 intro lm nm
 have hlen:=RA.len
 have hR:=R.len
 have hR2:=R.h2
 have hpm:lp≠lm:=fun e=>by
  rw[<-e,upd_same]at nm
  cases nm
 have s1:Same H (upd (upd H lp (.lst [])) lm (.lst [])):=(Same.new np).trans (Same.new nm)
 have nm0:H lm=none:=(Same.new np).free nm
 have g1:(upd (upd H lp (.lst [])) lm (.lst [])) lp=some (.lst []):=by rw[z06 hpm,upd_same]
 have g2:(upd (upd H lp (.lst [])) lm (.lst [])) lm=some (.lst []):=upd_same
 generalize upd (upd H lp (.lst [])) lm (.lst [])=H1 at s1 g1 g2
 refine⟨_,rfl,l,rfl,⟨_,SqL.of (s1 _ _ RA.lst)⟩,?_⟩
 refine z3m (K:=K) (a:=l) (xs:=ps.map V.ref) (fun i σ H2=>∃v3 v4 v5 v6,σ=[some (.ref l),some (.ref lp),some (.ref lm),v3,v4,v5,v6]/\Same H H2/\H2 lp=some (.lst (((rows.take i).map z09).map V.int))/\H2 lm=some (.lst (((rows.take i).map z0J).map V.int)))
  ⟨none,none,none,none,rfl,s1,g1,g2⟩ (fun i σ H2 _ ⟨_,_,_,_,_,s,_⟩=>SqL.of (s _ _ RA.lst)) ?_ ?_
 .rintro i x σ H2 hi ⟨v3,v4,v5,v6,rfl,s2,gp,gm⟩
  have hil:i<rows.length:=by
   have:=(List.getElem?_eq_some_iff.mp hi).1
   rw[List.length_map]at this
   omega
  obtain⟨p,hp,gr⟩:=RA.at hil
  rw[List.getElem?_map,hp]at hi
  cases hi
  obtain⟨hw,hc⟩:=R.row0 hil
  generalize hrow:rows[i]'hil=r at gr hw hc
  have hw2:=R.w2
  walk_at "rs"
  refine⟨p,_,rfl,SqL.of (s2 _ _ gr),?_⟩
  refine zCZ (K:=K) (a:=p) (xs:=r.map z0X) (fun j σ H3=>∃v6,σ=[some (.ref l),some (.ref lp),some (.ref lm),some (.ref p),some (.int (z09 (r.drop (r.length-j)))),some (.int (z0J (r.drop (r.length-j)))),v6]/\H3=H2)
   ⟨v6,by rw[Nat.sub_zero,List.drop_length];rfl,rfl⟩ (fun j σ H3 _ ⟨_,_,e⟩=>by rw[e];exact SqL.of (s2 _ _ gr)) ?_ ?_
  .rintro j x σ H3 hj hx ⟨v6,rfl,rfl⟩
   rw[List.length_map]at hj hx
   have hd:r.drop (r.length-(j+1))=r[r.length-1-j]'(by omega)::r.drop (r.length-j):=by
    have e1:r.length-(j+1)=r.length-1-j:=by omega
    have e2:r.length-j=r.length-1-j+1:=by omega
    rw[e1,e2]
    exact List.drop_eq_getElem_cons (by omega)
   rw[List.getElem?_map,List.getElem?_eq_getElem (by omega)]at hx
   have hx':x=z0X (r[r.length-1-j]'(by omega)):=(Option.some.inj hx).symm
   subst hx'
   have hcell:=hc _ (List.getElem_mem (show r.length-1-j<r.length by omega))
   generalize r[r.length-1-j]'(by omega)=c at hd hcell
   cases c with
   |none=>
    walk_at "rs"
    refine zBD (fun n=>absurd rfl n) (fun _=>?_)
    refine⟨some (z0X none),?_,rfl⟩
    rw[hd]
    show _=[_,_,_,_,some (V.int ((none:Option Int).getD 0+16*z09 (r.drop (r.length-j)))),some (V.int ((if(none:Option Int).isSome=true then 1 else 0)+2*z0J (r.drop (r.length-j)))),_]
    have e1:(none:Option Int).getD 0+16*z09 (r.drop (r.length-j))=z09 (r.drop (r.length-j))*16:=by
     show(0:Int)+_=_
     omega
    have e2:(if(none:Option Int).isSome=true then(1:Int)else 0)+2*z0J (r.drop (r.length-j))=z0J (r.drop (r.length-j))*2:=by
     rw[if_neg (by simp)]
     omega
    rw[e1,e2]
    rfl
   |some z=>
    walk_at "rs"
    refine⟨some (z0X (some z)),?_,rfl⟩
    rw[hd]
    show _=[_,_,_,_,some (V.int ((some z:Option Int).getD 0+16*z09 (r.drop (r.length-j)))),some (V.int ((if(some z:Option Int).isSome=true then 1 else 0)+2*z0J (r.drop (r.length-j)))),_]
    have e1:(some z:Option Int).getD 0+16*z09 (r.drop (r.length-j))=z09 (r.drop (r.length-j))*16+z:=by
     show z+_=_
     omega
    have e2:(if(some z:Option Int).isSome=true then(1:Int)else 0)+2*z0J (r.drop (r.length-j))=z0J (r.drop (r.length-j))*2+1:=by
     rw[if_pos (show(some z).isSome=true from rfl)]
     omega
    rw[e1,e2]
    rfl
  .rintro σ H3 ⟨v6,rfl,rfl⟩
   rw[List.length_map,Nat.sub_self,List.drop_zero]
   have szp:(((rows.take i).map z09).map V.int).length<sizeLine:=by
    rw[List.length_map,List.length_map,List.length_take]
    exact z0H (by omega)
   have szm:(((rows.take i).map z0J).map V.int).length<sizeLine:=by
    rw[List.length_map,List.length_map,List.length_take]
    exact z0H (by omega)
   refine⟨_,rfl,.inl ⟨rfl,_,SqL.of gp⟩,_,rfl,lp,_,_,rfl,rfl,gp,szp,?_⟩
   have gm':(upd H3 lp (.lst (((rows.take i).map z09).map V.int++[.int (z09 r)]))) lm=some (.lst (((rows.take i).map z0J).map V.int)):=by
    rw[z06 (Ne.symm hpm)]
    exact gm
   refine⟨_,rfl,.inl ⟨rfl,_,SqL.of gm'⟩,_,rfl,lm,_,_,rfl,rfl,gm',szm,?_⟩
   have tk:rows.take (i+1)=rows.take i++[r]:=by
    rw[List.take_succ,List.getElem?_eq_getElem hil,hrow]
    rfl
   refine⟨_,_,_,_,rfl,(s2.put np).put nm0,?_,?_⟩
   .rw[z06 hpm,upd_same,tk,List.map_append,List.map_append]
    rfl
   .rw[upd_same,tk,List.map_append,List.map_append]
    rfl
 .rintro σ H2 ⟨v3,v4,v5,v6,rfl,s2,gp,gm⟩
  rw[List.length_map,hlen,List.take_length]at gp gm
  obtain⟨p0,e0,g0⟩:=(RA.mono s2).atI R.ne
  refine⟨_,rfl,l,_,0,_,rfl,rfl,SqL.of (s2 _ _ RA.lst),e0,p0,_,rfl,.inl (SqL.of g0),_,rfl,l,_,rfl,.inl (SqL.of (s2 _ _ RA.lst)),_,rfl,lp,_,rfl,.inl ⟨SqL.of gp,fun t1 n1=>?_⟩⟩
  refine⟨_,rfl,lm,_,rfl,.inl ⟨SqL.of ((Same.new n1) _ _ gm),fun t2 n2=>?_⟩⟩
  refine⟨szV (by simp),fun t3 n3=>?_⟩
  refine q t3 _ (((s2.trans (Same.new n1)).trans (Same.new n2)).trans (Same.new n3)) ⟨t1,t2,?_,?_,?_⟩
  .rw[upd_same,List.length_map,List.length_map,hlen,(R.row0 R.ne).1]
  .exact(Same.new n3) _ _ ((Same.new n2) _ _ upd_same)
  .exact(Same.new n3) _ _ upd_same
theorem z7S:FnScope ["_law_found","_law_due_here"] ["_law_found","_law_due_here"] (z03 z1Y):=⟨rfl,rfl,rfl,by decide+kernel,rfl,by decide+kernel,by decide+kernel⟩
theorem z7T {f:Addr} {fd:FuncData} (D:Df K mg "_law_is_pic" z1Y ["_law_found","_law_due_here"] f fd)
 (JA:Ow P w K mg base "_law_whole" ["_law_found"] 1 z2h) (B:Blt mg):
 Ow P w K mg base "_law_is_pic" ["_law_found","_law_due_here"] 2 zA6:=by
 refine D.ow (D.F.ok z7S (fun vs H Q E h=>?_) (fun cdv A outer s H vs Q E hr h=>?_))
 .obtain⟨p,d,w,h,rows,rfl,_⟩:=h
  rfl
 obtain⟨p,d,wd,hg,rows,rfl,PC,PD,R,q⟩:=h
 refine⟨_,(z04 (z0R (PW.pt (z2D (z0a (z0W (z07 z0n rfl B.f_isinstance boot_isinstance (z00 (pv 0) (z00 (z1K (v:=.ty "tuple") rfl B.f_tuple boot_tuple rfl) z02))))) (z1c (z0N z41 (z07 z0F rfl B.f_len boot_len (z00 (pv 0) z02)) z01 (z0O _))))) (z05 (z0I z2A)) z0L)
  (z04 (z0R (PW.pt (z2D (z0a (z0W (z07 z0n rfl B.f_isinstance boot_isinstance (z00 (z0C ix_tup (pv 0) z01 (fun _ _=>rfl)) (z00 (z1K (v:=.ty "tuple") rfl B.f_tuple boot_tuple rfl) z02))))) (z1c (z0a (z0W (z07 z0n rfl B.f_isinstance boot_isinstance (z00 (z0C ix_tup (pv 0) z01 (fun _ _=>rfl)) (z00 (z1K (v:=.ty "tuple") rfl B.f_tuple boot_tuple rfl) z02)))))))) (z05 (z0I z2A)) z0L)
  (z04 (z0R (z0a (z0W (z07 (z2L rfl) rfl B.f_all boot_all (z00 (z1L (locs:=["_law_number"]) (ix:=[]) rfl (BlkSc.look (dsc:=z03 z1Y) (N:=["_law_found","_law_due_here"]) rfl rfl (by decide+kernel)) (zBs (z08 z9n (z08 z9n (z0t (z00 (z0C ix_tup (pv 0) z01 (fun _ _=>rfl)) (z00 (z0C ix_tup (pv 0) z01 (fun _ _=>rfl)) z02))) (z0C ix_tup (pv 0) z01 (fun _ _=>rfl))) (z0C ix_tup (pv 0) z01 (fun _ _=>rfl)))) (fun _ _ _ _ _ _=>(z0K (i:=0) (by decide+kernel:(["_law_number"]:List Str).Nodup) rfl (Or.inl rfl))) (fun _ _ _ _ _ _=>z0h) (fun _ _ _ _ _ _=>(z0G JA hr rfl (z00 (pv 0) z02)))) z02)))) (z05 (z0I z2A)) z0L)
  (z05 (z0I (z1y (zDV (z8V hr)) (pv 0) (pv 1) (z0O _))))))),?_⟩
 obtain⟨pp,pm,g1,g2,g3⟩:=id PC
 obtain⟨qp,qm,d1,d2,d3⟩:=id PD
 have hR:=R.len
 have hR2:=R.h2
 refine⟨_,rfl,_,"tuple","tuple",rfl,by decide,by simp only[tyS,g1],_,rfl,z1f rfl ?_⟩
 refine⟨_,rfl,p,_,rfl,.inr (SqT.of g1),rfl,_,rfl,z1f rfl ?_⟩
 refine⟨_,rfl,p,_,2,_,rfl,rfl,SqT.of g1,rfl,_,"tuple","tuple",rfl,by decide,by simp only[tyS,g2],_,rfl,z1f rfl ?_⟩
 refine⟨_,rfl,p,_,3,_,rfl,rfl,SqT.of g1,rfl,_,"tuple","tuple",rfl,by decide,by simp only[tyS,g3],_,rfl,z1f rfl ?_⟩
 have hp1:(rows.map z09).map V.int≠[]:=fun e=>by
  have h0:=R.ne
  rw[List.map_eq_nil_iff,List.map_eq_nil_iff]at e
  rw[e]at h0
  exact absurd h0 (Nat.lt_irrefl _)
 have hm1:(rows.map z0J).map V.int≠[]:=fun e=>by
  have h0:=R.ne
  rw[List.map_eq_nil_iff,List.map_eq_nil_iff]at e
  rw[e]at h0
  exact absurd h0 (Nat.lt_irrefl _)
 refine⟨_,rfl,p,_,0,_,rfl,rfl,SqT.of g1,rfl,_,rfl,p,_,1,_,rfl,rfl,SqT.of g1,rfl,szV (by simp),fun t1 n1=>?_⟩
 have s1:Same H (upd H t1 (.tup [.int (wd:Int),.int (rows.length:Int)])):=Same.new n1
 have k1:(upd H t1 (.tup [.int (wd:Int),.int (rows.length:Int)])) t1=some (.tup [.int (wd:Int),.int (rows.length:Int)]):=upd_same
 generalize upd H t1 (.tup [.int (wd:Int),.int (rows.length:Int)])=H1 at s1 k1⊢
 refine⟨_,rfl,p,_,2,_,rfl,rfl,SqT.of (s1 _ _ g1),rfl,?_⟩
 refine⟨t1,pp,_,_,rfl,rfl,SqT.of k1,SqT.of (s1 _ _ g2),(by rw[List.length_map,List.length_map];exact Nat.le_of_lt (z0H (by simp;omega))),(fun e=>nomatch e),(fun _ e=>absurd e hp1),fun _ _ t2 n2=>?_⟩
 have s2:Same H1 (upd H1 t2 (.tup ([.int (wd:Int),.int (rows.length:Int)]++(rows.map z09).map V.int))):=Same.new n2
 have k2:(upd H1 t2 (.tup ([.int (wd:Int),.int (rows.length:Int)]++(rows.map z09).map V.int))) t2=some (.tup ([.int (wd:Int),.int (rows.length:Int)]++(rows.map z09).map V.int)):=upd_same
 generalize upd H1 t2 (.tup ([.int (wd:Int),.int (rows.length:Int)]++(rows.map z09).map V.int))=H2 at s2 k2⊢
 have u2:=s1.trans s2
 refine⟨_,rfl,p,_,3,_,rfl,rfl,SqT.of (u2 _ _ g1),rfl,?_⟩
 refine⟨t2,pm,_,_,rfl,rfl,SqT.of k2,SqT.of (u2 _ _ g3),(by rw[List.length_append,List.length_map,List.length_map,List.length_map,List.length_map];exact Nat.le_of_lt (z0H (by simp;omega))),(fun e=>nomatch e),(fun _ e=>absurd e hm1),fun _ _ t3 n3=>?_⟩
 have eall:[V.int (wd:Int),.int (rows.length:Int)]++(rows.map z09).map V.int++(rows.map z0J).map V.int=(([(wd:Int),(rows.length:Int)]++rows.map z09)++rows.map z0J).map V.int:=by
  rw[List.map_append,List.map_append]
  rfl
 rw[eall]
 have hns:(([(wd:Int),(rows.length:Int)]++rows.map z09)++rows.map z0J).length<=200:=by
  rw[List.length_append,List.length_append,List.length_map,List.length_map]
  simp
  omega
 generalize ([(wd:Int),(rows.length:Int)]++rows.map z09)++rows.map z0J=ms at hns
 have s3:Same H2 (upd H2 t3 (.tup (ms.map V.int))):=Same.new n3
 have k3:(upd H2 t3 (.tup (ms.map V.int))) t3=some (.tup (ms.map V.int)):=upd_same
 generalize upd H2 t3 (.tup (ms.map V.int))=H3 at s3 k3⊢
 have u3:=u2.trans s3
 refine⟨t3,rfl,⟨_,SqT.of k3⟩,?_⟩
 refine z0i (n:=ms.length) (fun i σ zs H4=>∃v,σ=[v]/\zs=(List.replicate i true).map V.bl/\H4=H3) ⟨none,rfl,rfl,rfl⟩ (Nat.le_of_lt (z0H (by omega))) ?_ ?_ ?_ ?_ ?_
 .rintro i σ zs H4 ⟨v,_,rfl,_⟩
  rw[List.length_map,List.length_replicate]
 .rintro σ zs H4 ⟨v,_,_,rfl⟩
  exact⟨_,SqT.of k3,by rw[List.length_map];exact Nat.le_refl _⟩
 .rintro i σ zs H4 hi ⟨v,_,_,rfl⟩
  exact⟨_,.int (ms[i]'hi),SqT.of k3,by rw[List.getElem?_map,List.getElem?_eq_getElem hi];rfl⟩
 .rintro i σ zs H4 x H' Z hi ⟨v,rfl,rfl,rfl⟩ ⟨rfl,hx⟩ hZ
  have e:=hx _ (SqT.of k3)
  rw[List.getElem?_map,List.getElem?_eq_getElem hi]at e
  cases e
  refine⟨_,rfl,_,"int",rfl,rfl,?_⟩
  refine hZ _ _ _ ⟨_,rfl,?_,rfl⟩
  rw[List.replicate_succ',List.map_append]
  rfl
 .rintro σ zs H4 ⟨v,rfl,rfl,rfl⟩ l' hl'
  refine⟨l',List.replicate ms.length true,rfl,SqL.of upd_same,_,rfl,z1f (by simp) ?_⟩
  have u4:=u3.trans (Same.new (o:=.lst ((List.replicate ms.length true).map V.bl)) hl')
  generalize upd H4 l' (.lst ((List.replicate ms.length true).map V.bl))=H5 at u4⊢
  refine⟨_,rfl,_,rfl,p,d,pp,pm,qp,qm,_,_,_,_,_,_,_,_,rfl,rfl,SqT.of (u4 _ _ g1),SqT.of (u4 _ _ d1),SqT.of (u4 _ _ g2),SqT.of (u4 _ _ g3),SqT.of (u4 _ _ d2),SqT.of (u4 _ _ d3),?_⟩
  simp only[beq_self_eq_true,decide_true,Bool.and_self]
  exact q _ u4
theorem z8r:FnScope ["thing"] ["thing"] (z03 z20):=⟨rfl,rfl,rfl,by decide+kernel,rfl,by decide+kernel,by decide+kernel⟩
theorem z8s {f:Addr} {fd:FuncData} (D:Df K mg "is_whole" z20 ["thing"] f fd) (B:Blt mg):
 Ow P w K mg base "is_whole" ["thing"] 1 z2h:=by
 refine D.ow (D.F.ok z8r (fun vs H Q E h=>?_) (fun cdv A outer s H vs Q E hr h=>?_))
 .obtain⟨x,T,rfl,_⟩:=h
  rfl
 obtain⟨x,T,rfl,hT,q⟩:=h
 refine⟨_,(z05 (z0I (z2t (z07 z0n rfl B.f_isinstance boot_isinstance (z00 (pv 0) (z00 (z1K (v:=.ty "int") rfl B.f_int boot_int rfl) z02))) (z2s (zBr (z07 z0n rfl B.f_isinstance boot_isinstance (z00 (pv 0) (z00 (z1K (v:=.ty "bool") rfl B.f_bool boot_bool rfl) z02)))))))),?_⟩
 refine⟨x,rfl,x,"int",T,rfl,by decide,hT,_,rfl,?_⟩
 have e:=z4C T (z5A hT)
 cases hi:z8W T "int" with
 |true=>
  rw[hi,if_pos rfl]at e
  refine z3e ⟨x,rfl,x,"bool",T,rfl,by decide,hT,_,rfl,?_⟩
  rw[e]
  exact q
 |false=>
  rw[hi,if_neg (by decide)]at e
  refine z5y ?_
  rw[e]
  exact q
theorem z7U:FnScope ["thing","least","most"] ["thing","least","most"] (z03 z1i):=⟨rfl,rfl,rfl,by decide+kernel,rfl,by decide+kernel,by decide+kernel⟩
theorem z7V {f:Addr} {fd:FuncData} (D:Df K mg "is_within" z1i ["thing","least","most"] f fd)
 (JW:Ow P w K mg base "is_whole" ["thing"] 1 z2h) (B:Blt mg):
 Ow P w K mg base "is_within" ["thing","least","most"] 2 z3p:=by
 refine D.ow (D.F.ok z7U (fun vs H Q E h=>?_) (fun cdv A outer s H vs Q E hr h=>?_))
 .obtain⟨x,a,b,T,rfl,_⟩:=h
  rfl
 obtain⟨x,a,b,T,rfl,hT,q⟩:=h
 refine⟨_,(z05 (z0I (z2t (z0G JW hr rfl (z00 (pv 0) z02)) (z2s (z7m z55 z55 (pv 1) (pv 0) (pv 2)))))),?_⟩
 refine⟨_,rfl,x,T,rfl,hT,_,rfl,?_⟩
 by_cases hi:∃i,x=.int i
 .obtain⟨i,rfl⟩:=hi
  cases hT
  refine z5z rfl ?_
  walk_at "rs"
  refine z29 (fun c1=>?_) (fun c1=>?_)
  .walk_at "rs"
   have e:inB (.int i) a b=decide (i<=b):=by
    show(decide (a<=i)&&decide (i<=b))=_
    rw[decide_eq_true c1,Bool.true_and]
   rw[e]at q
   exact q
  .have e:inB (.int i) a b=false:=by
    show(decide (a<=i)&&decide (i<=b))=_
    rw[decide_eq_false c1,Bool.false_and]
   rw[e]at q
   exact q
 .have e:inB x a b=false:=by
   cases x<;>first|rfl|exact absurd ⟨_,rfl⟩ hi
  rw[e]at q
  refine z1f ?_ q
  exact z6w hT hi
theorem zAo:FnScope ["thing"] ["thing"] (z03 z2R):=⟨rfl,rfl,rfl,by decide+kernel,rfl,by decide+kernel,by decide+kernel⟩
theorem zAp {f:Addr} {fd:FuncData} (D:Df K mg "is_side" z2R ["thing"] f fd)
 (JG:Ow P w K mg base "is_within" ["thing","least","most"] 2 z3p) (B:Blt mg):
 Ow P w K mg base "is_side" ["thing"] 3 zC3:=by
 refine D.ow (D.F.ok zAo (fun vs H Q E h=>?_) (fun cdv A outer s H vs Q E hr h=>?_))
 .obtain⟨x,T,rfl,_⟩:=h
  rfl
 obtain⟨x,T,rfl,hT,q⟩:=h
 refine⟨_,(z05 (z0I (z0G JG hr rfl (z00 (pv 0) (z00 z01 (z00 z01 z02)))))),?_⟩
 exact⟨_,rfl,x,_,_,T,rfl,hT,q⟩
theorem Jc:FnScope ["row","paint","x","cell"] ["row"] (z03 z22):=⟨rfl,rfl,rfl,by decide+kernel,rfl,by decide+kernel,by decide+kernel⟩
theorem z8t {f:Addr} {fd:FuncData} (D:Df K mg "paint_of" z22 ["row"] f fd) (B:Blt mg):
 Ow P w K mg base "paint_of" ["row"] 1 z9l:=by
 refine D.ow (D.F.ok Jc (fun vs H Q E h=>?_) (fun cdv A outer s H vs Q E hr h=>?_))
 .obtain⟨l,r,rfl,_⟩:=h
  rfl
 obtain⟨l,r,rfl,hl,hc,hn,q⟩:=h
 refine⟨_,(z04 (z0B (i:=1) Jc.nd rfl (Or.inl rfl) z01)
  (z04 (z1S PassesOwn.never rfl (z6t rfl B.f_enumerate (z00 (pv 0) z02)) (z5n (n:=2) rfl (z0b (z0K (i:=2) Jc.nd rfl (Or.inl rfl)) (z0b (z0K (i:=3) Jc.nd rfl (Or.inl rfl)) z2d))) (z05 (z0R (z0N z6o (pv 3) z3c (z0O _)) (z05 (z0B (i:=1) Jc.nd rfl (Or.inl rfl) (z08 z9C (pv 1) (z08 z7k (pv 3) (z08 z0s z01 (pv 2)))))) z0L)))
  (z05 (z0I (pv 1))))),?_⟩
 refine⟨_,rfl,l,rfl,⟨_,SqL.of hl⟩,?_⟩
 refine z5B (K:=K) (a:=l) (xs:=r.map z0X) (fun i σ H2=>∃v w,σ=[some (.ref l),some (.int (z09 (r.take i))),v,w]/\Same H H2) ⟨none,none,rfl,Same.refl _⟩ (fun i σ H2 _ ⟨_,_,_,s⟩=>SqL.of (s _ _ hl)) ?_ ?_
 .rintro i x σ H2 T hi ⟨v,w,rfl,s2⟩ nT
  have hil:i<r.length:=by
   have:=(List.getElem?_eq_some_iff.mp hi).1
   rwa [List.length_map]at this
  rw[List.getElem?_map,List.getElem?_eq_getElem hil]at hi
  have hx:x=z0X (r[i]'hil):=(Option.some.inj hi).symm
  subst hx
  have tk:r.take (i+1)=r.take i++[r[i]'hil]:=by
   rw[List.take_succ,List.getElem?_eq_getElem hil]
   rfl
  have hcell:=hc _ (List.getElem_mem hil)
  have hpre:Cells (r.take i):=fun d hd=>hc d (List.mem_of_mem_take hd)
  have hb:=z2m hpre
  have hln:(r.take i).length=i:=by rw[List.length_take];omega
  have sn:=z4k (r[i]'hil) (r.take i)
  rw[<-tk,hln]at sn
  rw[hln]at hb
  generalize r[i]'hil=c at hcell sn
  have s3:Same H2 (upd H2 T (.tup [.int i,z0X c])):=Same.new nT
  refine⟨T,_,rfl,SqT.of upd_same,rfl,_,_,rfl,_,_,rfl,rfl,?_⟩
  cases c with
  |none=>
   walk_at "rs"
   refine zBD (fun n=>absurd rfl n) (fun _=>?_)
   refine⟨some (.int i),some (z0X none),?_,s2.trans s3⟩
   have e:z09 (r.take (i+1))=z09 (r.take i):=by
    rw[sn]
    show _+0*_=_
    omega
   rw[e]
   rfl
  |some z=>
   obtain⟨z0,z1⟩:=hcell z rfl
   walk_at "rs"
   refine⟨some (.int i),some (z0X (some z)),?_,s2.trans s3⟩
   have e:z09 (r.take (i+1))=Builtin.bitOr (z09 (r.take i)) (z*2^((4:Int)*(i:Int)).toNat):=by
    have e4:((4:Int)*(i:Int)).toNat=4*i:=by omega
    rw[e4,z6u hb.1 (by rw[zC0];exact hb.2) z0,sn,zC0]
    rfl
   rw[e]
   rfl
 .rintro σ H2 ⟨v,w,rfl,s2⟩
  refine⟨_,rfl,?_⟩
  rw[List.length_map,List.take_length]
  exact q _ s2
theorem Jl:FnScope ["row","mask","x","cell"] ["row"] (z03 z2S):=⟨rfl,rfl,rfl,by decide+kernel,rfl,by decide+kernel,by decide+kernel⟩
theorem zAq {f:Addr} {fd:FuncData} (D:Df K mg "mask_of" z2S ["row"] f fd) (B:Blt mg):
 Ow P w K mg base "mask_of" ["row"] 1 zC2:=by
 refine D.ow (D.F.ok Jl (fun vs H Q E h=>?_) (fun cdv A outer s H vs Q E hr h=>?_))
 .obtain⟨l,r,rfl,_⟩:=h
  rfl
 obtain⟨l,r,rfl,hl,hc,hn,q⟩:=h
 refine⟨_,(z04 (z0B (i:=1) Jl.nd rfl (Or.inl rfl) z01)
  (z04 (z1S PassesOwn.never rfl (z6t rfl B.f_enumerate (z00 (pv 0) z02)) (z5n (n:=2) rfl (z0b (z0K (i:=2) Jl.nd rfl (Or.inl rfl)) (z0b (z0K (i:=3) Jl.nd rfl (Or.inl rfl)) z2d))) (z05 (z0R (z0N z6o (pv 3) z3c (z0O _)) (z05 (z0B (i:=1) Jl.nd rfl (Or.inl rfl) (z08 z9C (pv 1) (z08 z7k z01 (pv 2))))) z0L)))
  (z05 (z0I (pv 1))))),?_⟩
 refine⟨_,rfl,l,rfl,⟨_,SqL.of hl⟩,?_⟩
 refine z5B (K:=K) (a:=l) (xs:=r.map z0X) (fun i σ H2=>∃v w,σ=[some (.ref l),some (.int (z0J (r.take i))),v,w]/\Same H H2) ⟨none,none,rfl,Same.refl _⟩ (fun i σ H2 _ ⟨_,_,_,s⟩=>SqL.of (s _ _ hl)) ?_ ?_
 .rintro i x σ H2 T hi ⟨v,w,rfl,s2⟩ nT
  have hil:i<r.length:=by
   have:=(List.getElem?_eq_some_iff.mp hi).1
   rwa [List.length_map]at this
  rw[List.getElem?_map,List.getElem?_eq_getElem hil]at hi
  have hx:x=z0X (r[i]'hil):=(Option.some.inj hi).symm
  subst hx
  have tk:r.take (i+1)=r.take i++[r[i]'hil]:=by
   rw[List.take_succ,List.getElem?_eq_getElem hil]
   rfl
  have hb:=z2g (r.take i)
  have hln:(r.take i).length=i:=by rw[List.length_take];omega
  have sn:=z61 (r[i]'hil) (r.take i)
  rw[<-tk,hln]at sn
  rw[hln]at hb
  generalize r[i]'hil=c at sn
  have s3:Same H2 (upd H2 T (.tup [.int i,z0X c])):=Same.new nT
  refine⟨T,_,rfl,SqT.of upd_same,rfl,_,_,rfl,_,_,rfl,rfl,?_⟩
  cases c with
  |none=>
   walk_at "rs"
   refine zBD (fun n=>absurd rfl n) (fun _=>?_)
   refine⟨some (.int i),some (z0X none),?_,s2.trans s3⟩
   have e:z0J (r.take (i+1))=z0J (r.take i):=by
    rw[sn,if_neg (by simp)]
    omega
   rw[e]
   rfl
  |some z=>
   walk_at "rs"
   refine⟨some (.int i),some (z0X (some z)),?_,s2.trans s3⟩
   have e:z0J (r.take (i+1))=Builtin.bitOr (z0J (r.take i)) ((1:Int)*2^(i:Int).toNat):=by
    rw[Int.toNat_natCast,z6u hb.1 hb.2 (by decide),sn,if_pos (show(some z).isSome=true from rfl)]
   rw[e]
   rfl
 .rintro σ H2 ⟨v,w,rfl,s2⟩
  refine⟨_,rfl,?_⟩
  rw[List.length_map,List.take_length]
  exact q _ s2
theorem WZ:FnScope ["wide","high","cell","row"] ["wide","high","cell"] (z03 z2T):=⟨rfl,rfl,rfl,by decide+kernel,rfl,by decide+kernel,by decide+kernel⟩
theorem z8u {f T:Addr} {fd:FuncData} (D:DfD K mg "filled" z2T ["wide","high","cell"] f fd T)
 (WM:Ow P w K mg base "paint_of" ["row"] 1 z9l)
 (WS:Ow P w K mg base "mask_of" ["row"] 1 zC2) (B:Blt mg):
 FnOk P w K mg base CX0 2 f fd ["wide","high","cell"] z39:=by
 refine D.F.ok WZ (fun vs H Q E h=>?_) (fun cdv A outer s H vs Q E hr h=>?_)
 .obtain⟨w,h,c,rfl,_⟩:=h
  rfl
 obtain⟨wd,hg,c,rfl,w1,w2,h1,h2,hc,q⟩:=h
 refine⟨_,(z04 (z0B (i:=3) WZ.nd rfl (Or.inl rfl) (z08 zBw (z1o (z00 (pv 2) z02)) (pv 0)))
  (z05 (z0I (z0t (z00 (pv 0) (z00 (pv 1) (z00 (z08 z9m (z0t (z00 (z0G WM hr rfl (z00 (pv 3) z02)) z02)) (pv 1)) (z00 (z08 z9m (z0t (z00 (z0G WS hr rfl (z00 (pv 3) z02)) z02)) (pv 1)) z02)))))))),?_⟩
 walk_at "rs"
 intro l1 n1
 refine⟨_,rfl,l1,_,_,rfl,rfl,upd_same,by omega,by omega,?_,fun l2 n2=>?_⟩
 .show 1*wd.toNat<=sizeLine
  exact Nat.le_of_lt (z0H (by omega))
 rw[z5H]
 have s2:Same H (upd (upd H l1 (.lst [z0X c])) l2 (.lst (List.replicate wd.toNat (z0X c)))):=(Same.new n1).trans (Same.new n2)
 have g2:(upd (upd H l1 (.lst [z0X c])) l2 (.lst (List.replicate wd.toNat (z0X c)))) l2=some (.lst ((List.replicate wd.toNat c).map z0X)):=by rw[upd_same,List.map_replicate]
 generalize upd (upd H l1 (.lst [z0X c])) l2 (.lst (List.replicate wd.toNat (z0X c)))=H2 at s2 g2
 refine⟨_,rfl,_,rfl,_,rfl,l2,_,rfl,g2,z63 hc _,by rw[List.length_replicate];omega,fun H3 s3=>⟨szV (by simp),fun t1 m1=>?_⟩⟩
 refine⟨_,rfl,t1,_,_,rfl,rfl,upd_same,h1,by omega,fun p1 H4 s4 g4=>?_⟩
 have s4':=(s3.trans (Same.new m1)).trans s4
 refine⟨_,rfl,l2,_,rfl,s4' _ _ g2,z63 hc _,by rw[List.length_replicate];omega,fun H5 s5=>⟨szV (by simp),fun t2 m2=>?_⟩⟩
 refine⟨_,rfl,t2,_,_,rfl,rfl,upd_same,h1,by omega,fun p2 H6 s6 g6=>?_⟩
 refine⟨szV (by simp),fun t3 m3=>?_⟩
 have s6':=(s5.trans (Same.new m2)).trans s6
 refine q t3 _ (((s2.trans s4').trans s6').trans (Same.new m3)) ⟨p1,p2,?_,?_,?_⟩
 .rw[upd_same,List.length_replicate]
  have e1:((wd.toNat:Nat):Int)=wd:=by omega
  have e2:((hg.toNat:Nat):Int)=hg:=by omega
  rw[e1,e2]
 .rw[List.map_replicate,List.map_replicate]
  exact(Same.new m3) _ _ (s6' _ _ g4)
 .rw[List.map_replicate,List.map_replicate]
  exact(Same.new m3) _ _ g6
theorem z8v:FnScope ["_law_script","_law_k","_law_prime","_law_many"] ["_law_script","_law_k","_law_prime","_law_many"] (z03 z24):=⟨rfl,rfl,rfl,by decide+kernel,rfl,by decide+kernel,by decide+kernel⟩
theorem z8w {f:Addr} {fd:FuncData} (D:Df K mg "_law_draw" z24 ["_law_script","_law_k","_law_prime","_law_many"] f fd) (B:Blt mg):
 Ow P w K mg base "_law_draw" ["_law_script","_law_k","_law_prime","_law_many"] 1 (z2z K):=by
 refine D.ow (D.F.ok z8v (fun vs H Q E h=>?_) (fun cdv A outer s H vs Q E hr h=>?_))
 .obtain⟨a,ns,k,p,m,rfl,_⟩:=h
  rfl
 obtain⟨a,ns,k,p,m,rfl,hS,k0,k1,hp,hm,q⟩:=h
 refine⟨_,(z04 (z0R (z0N z36 (z07 z0F rfl B.f_len boot_len (z00 (pv 0) z02)) z01 (z0O _)) (z05 (z0I z01)) z0L)
  (z05 (z0I (z08 z0g (z08 z0g (z08 z0s (z08 z0P (z0C ix_list (pv 0) (z08 z0g (pv 1) (z07 z0F rfl B.f_len boot_len (z00 (pv 0) z02))) (fun _ _=>rfl)) (z08 z0s (pv 1) (pv 1))) z01) (pv 2)) (pv 3))))),?_⟩
 refine⟨_,rfl,a,_,rfl,.inl hS,?_⟩
 walk_at "rs"
 unfold z1t at q
 refine z29 (fun c=>?_) (fun c=>?_)
 .rw[if_pos (by rw[List.length_map]at c;have:=V.int.inj c;omega)]at q
  exact q
 .have hl:0<ns.length:=by
   rw[List.length_map]at c
   have:(ns.length:Int)≠0:=fun e=>c (by rw[e])
   omega
  rw[if_neg (by omega)]at q
  refine⟨_,rfl,_,rfl,_,rfl,a,_,rfl,.inl hS,_,_,rfl,rfl,(by rw[List.length_map];show(0:Int)<(ns.length:Int);omega),a,_,_,_,rfl,rfl,hS,zBI hl k,?_⟩
  walk_at "rs"
  exact q
theorem WR:FnScope ["_law_script","_law_k","_law_shade_here"] ["_law_script","_law_k"] (z03 z1k):=⟨rfl,rfl,rfl,by decide+kernel,rfl,by decide+kernel,by decide+kernel⟩
theorem z7W {f:Addr} {fd:FuncData} (D:Df K mg "_law_shade" z1k ["_law_script","_law_k"] f fd)
 (J8:Ow P w K mg base "_law_draw" ["_law_script","_law_k","_law_prime","_law_many"] 1 (z2z K)) (B:Blt mg):
 Ow P w K mg base "_law_shade" ["_law_script","_law_k"] 2 (zA5 K):=by
 refine D.ow (D.F.ok WR (fun vs H Q E h=>?_) (fun cdv A outer s H vs Q E hr h=>?_))
 .obtain⟨a,ns,k,rfl,_⟩:=h
  rfl
 obtain⟨a,ns,k,rfl,hS,k0,k1,q⟩:=h
 refine⟨_,(z04 (z0B (i:=2) WR.nd rfl (Or.inl rfl) (z0G J8 hr rfl (z00 (pv 0) (z00 (pv 1) (z00 z01 (z00 z01 z02))))))
  (z04 (z0R (z0N z6n (pv 2) z01 (z0O _)) (z05 (z0I z3c)) z0L)
  (z05 (z0I (pv 2))))),?_⟩
 refine L2.hold fun _ hB'=>?_
 walk_at "rs"
 refine⟨a,ns,k,_,_,rfl,hS,k0,by omega,(by decide),(by decide),?_⟩
 obtain⟨r0,r1⟩:=z1J (ns:=ns) (k:=k) (p:=10037) (m:=24) (by decide)
 generalize z1t ns k 10037 24=r at r0 r1
 walk_at "rs"
 refine z29 (fun c=>?_) (fun c=>?_)
 .exact q none (fun z e=>nomatch e)
 .walk_at "rs"
  exact q (some r) (fun z e=>by cases e;omega)
theorem W8:FnScope ["_law_number","_law_some"] ["_law_number"] (z03 z26):=⟨rfl,rfl,rfl,by decide+kernel,rfl,by decide+kernel,by decide+kernel⟩
theorem z8x {f:Addr} {fd:FuncData} (D:Df K mg "_law_sign" z26 ["_law_number"] f fd) (B:Blt mg):
 Ow P w K mg base "_law_sign" ["_law_number"] 1 zAB:=by
 refine D.ow (D.F.ok W8 (fun vs H Q E h=>?_) (fun cdv A outer s H vs Q E hr h=>?_))
 .obtain⟨n,rfl,_⟩:=h
  rfl
 obtain⟨n,rfl,q⟩:=h
 refine⟨_,(z04 (z0B (i:=1) W8.nd rfl (Or.inl rfl) z2X)
  (z04 (z0B (i:=1) W8.nd rfl (Or.inl rfl) (z08 z2G (pv 1) z2X))
  (z05 (z0I (z0C z9N (pv 1) (z08 z0g (pv 0) z01) (fun _ _=>rfl)))))),?_⟩
 refine L2.hold fun _ hB'=>?_
 walk_at "rs"
 refine⟨by decide+kernel,?_⟩
 walk_at "rs"
 exact⟨_,_,z5L n,rfl,rfl,by decide+kernel,(congrArg (fun l=>atI l (n%94)) (by decide+kernel)).trans (zDd n),q⟩
theorem JS:FnScope ["_law_script","_law_k","_law_many","_law_high","_law_start","_law_signs_here","_law_n","_law_wide"] ["_law_script","_law_k","_law_many","_law_high"] (z03 z1l):=⟨rfl,rfl,rfl,by decide+kernel,rfl,by decide+kernel,by decide+kernel⟩
theorem z7X {f:Addr} {fd:FuncData} (D:Df K mg "_law_signs" z1l ["_law_script","_law_k","_law_many","_law_high"] f fd)
 (J8:Ow P w K mg base "_law_draw" ["_law_script","_law_k","_law_prime","_law_many"] 1 (z2z K))
 (WN:Ow P w K mg base "_law_rows" ["_law_script","_law_k","_law_wide","_law_high"] 3 (zC1 K))
 (Ja:Ow P w K mg base "_law_sign" ["_law_number"] 1 zAB) (B:Blt mg):
 Ow P w K mg base "_law_signs" ["_law_script","_law_k","_law_many","_law_high"] 4 (zAC K):=by
 refine D.ow (D.F.ok JS (fun vs H Q E h=>?_) (fun cdv A outer s H vs Q E hr h=>?_))
 .obtain⟨a,ns,k,m,h,rfl,_⟩:=h
  rfl
 obtain⟨a,ns,k,m,hg,rfl,hS,k0,k1,m1,m2,h1,h2,q⟩:=h
 refine⟨_,(z04 (z0B (i:=4) JS.nd rfl (Or.inl rfl) (z0G J8 hr rfl (z00 (pv 0) (z00 (pv 1) (z00 z01 (z00 z01 z02))))))
  (z04 (z0B (i:=5) JS.nd rfl (Or.inl rfl) (z1o z02))
  (z04 (z1S PassesOwn.never rfl (z0S rfl B.f_range (z00 (pv 2) z02)) (z0K (i:=6) JS.nd rfl (Or.inl rfl)) (z04 (z0B (i:=7) JS.nd rfl (Or.inl rfl) (z08 z0P z01 (z0G J8 hr rfl (z00 (pv 0) (z00 (z08 z0P (z08 z0P (pv 1) z01) (pv 6)) (z00 z01 (z00 z01 z02)))))))
  (z2B (z0R (z0N z36 (z0G J8 hr rfl (z00 (pv 0) (z00 (z08 z0P (z08 z0P (pv 1) z01) (pv 6)) (z00 z01 (z00 z01 z02))))) z01 (z0O _)) (z05 (z0B (i:=7) JS.nd rfl (Or.inl rfl) z01)) z0L)
  (z05 (z0e (z3i PySem.F.plainAttrs_list PySem.F.slot_list_append PySem.F.type_list_append z0p (pv 5) (z00 (z0t (z00 (z0G Ja hr rfl (z00 (z08 z0P (pv 4) (z08 z0s z01 (pv 6))) z02)) (z00 (z0G WN hr rfl (z00 (pv 0) (z00 (z08 z0P (pv 1) (z08 z0s z01 (pv 6))) (z00 (pv 7) (z00 (pv 3) z02))))) z02))) z02)))))))
  (z05 (z0I (pv 5)))))),?_⟩
 walk_at "rs"
 refine⟨a,ns,k,10039,94,rfl,hS,k0,by omega,by decide,by decide,?_⟩
 generalize z1t ns k 10039 94=st at q
 refine⟨szV (by simp),fun l nl=>?_⟩
 refine⟨_,rfl,_,rfl,(z2v (by omega) (by omega)).1,(z2v (by omega) (by omega)).2,?_⟩
 refine z0v (n:=m.toNat) (fun i σ H2=>∃v6 v7 ts Ss,σ=[some (.ref a),some (.int k),some (.int m),some (.int hg),some (.int st),some (.ref l),v6,v7]/\Same H H2/\H2 l=some (.lst (ts.map V.ref))/\ts.length=i/\Ss.length=i/\(∀(j:Nat) t S,ts[j]?=some t->Ss[j]?=some S->SgAtX l hg.toNat H2 t S)/\∀(j:Nat) S,Ss[j]?=some S->S.c=z5L (st+37*j))
  ⟨none,none,[],[],rfl,Same.new nl,upd_same,rfl,rfl,(fun _ _ _ h=>nomatch h),(fun _ _ h=>nomatch h)⟩ ?_ ?_
 .rintro i σ H2 hi ⟨v6,v7,ts,Ss,rfl,s2,hl,ht,hs,hat,hc⟩
  have hS2:=s2.seq hS
  walk_at "rs"
  refine⟨a,ns,k+1+(0+(i:Int)),_,_,rfl,hS2,by omega,by omega,by decide,by decide,?_⟩
  obtain⟨r0,r1⟩:=z1J (ns:=ns) (k:=k+1+(0+(i:Int))) (p:=10061) (m:=5) (by decide)
  generalize z1t ns (k+1+(0+(i:Int))) 10061 5=r at r0 r1
  walk_at "rs"
  refine⟨fun σ H3=>H3=H2/\∃wd:Int,σ=[some (.ref a),some (.int k),some (.int m),some (.int hg),some (.int st),some (.ref l),some (.int (0+(i:Int))),some (.int wd)]/\1<=wd/\wd<=64,?_,?_⟩
  .walk_at "rs"
   refine⟨a,ns,k+1+(0+(i:Int)),_,_,rfl,hS2,by omega,by omega,by decide,by decide,?_⟩
   walk_at "rs"
   refine z29 (fun _=>?_) (fun _=>?_)
   .exact⟨rfl,64,rfl,by decide,by decide⟩
   .exact⟨rfl,_,rfl,by omega,by omega⟩
  .rintro σ H3 ⟨rfl,wd,rfl,w1,w2⟩
   refine⟨_,rfl,.inl ⟨rfl,_,SqL.of hl⟩,?_⟩
   walk_at "rs"
   refine⟨a,ns,k+70*(0+(i:Int)),wd,hg,rfl,hS2,by omega,by omega,w1,w2,h1,h2,fun rl ps rows H4 s4 nrl nps RA R=>?_⟩
   refine⟨szV (by simp),fun t nt=>?_⟩
   have s5:Same H4 (upd H4 t (.tup [.str (sgn (st+37*(0+(i:Int)))),.ref rl])):=Same.new nt
   have hl5:=s5 _ _ (s4 _ _ hl)
   refine⟨l,_,_,rfl,rfl,hl5,z0H (by rw[List.length_map];omega),?_⟩
   have e0:(0:Int)+(i:Int)=(i:Nat):=by omega
   refine⟨_,_,ts++[t],Ss++[⟨z5L (st+37*i),wd.toNat,rows⟩],rfl,((s2.trans s4).trans s5).put nl,by rw[upd_same,List.map_append];rfl,by rw[List.length_append,ht];rfl,by rw[List.length_append,hs];rfl,?_,zBK (f:=fun j=>z5L (st+37*j)) hc (by rw[hs])⟩
   refine zAE (by omega) (fun t S h=>((h.mono s4).mono s5).put hl5) hat ?_
   refine SgAtX.put hl5 ⟨rl,ps,?_,RA.mono s5,R,Ne.symm (z0A hl nrl),fun p hp=>Ne.symm (z0A hl (nps p hp))⟩
   rw[upd_same,e0]
   rfl
 .rintro σ H2 ⟨v6,v7,ts,Ss,rfl,s2,hl,ht,hs,hat,hc⟩
  exact⟨_,rfl,q l ts Ss H2 s2 nl ⟨hl,by omega,fun j t S x y=>(hat j t S x y).at⟩ hs hc⟩
theorem z7Y:FnScope ["_law_signs_here"] ["_law_signs_here"] (z03 z1Z):=⟨rfl,rfl,rfl,by decide+kernel,rfl,by decide+kernel,by decide+kernel⟩
theorem z7Z {f:Addr} {fd:FuncData} (D:Df K mg "_law_pairs" z1Z ["_law_signs_here"] f fd)
 (Jb:Ow P w K mg base "_law_bits" ["_law_rows_here"] 1 z5F) (B:Blt mg):
 Ow P w K mg base "_law_pairs" ["_law_signs_here"] 2 zAD:=by
 refine D.ow (D.F.ok z7Y (fun vs H Q E h=>?_) (fun cdv A outer s H vs Q E hr h=>?_))
 .obtain⟨l,ts,Ss,hg,rfl,_⟩:=h
  rfl
 obtain⟨l,ts,Ss,hg,rfl,SA,h60,q⟩:=h
 refine⟨_,(z05 (z0I (z1L (locs:=["_law_sign_here","_law_rows_here"]) (ix:=[]) rfl (BlkSc.look (dsc:=z03 z1Z) (N:=["_law_signs_here"]) rfl rfl (by decide+kernel)) (z1q (pv 0)) (fun _ _ _ _ _ _=>(z5D (n:=2) rfl (z0b (z0K (i:=0) (by decide+kernel:(["_law_sign_here","_law_rows_here"]:List Str).Nodup) rfl (Or.inl rfl)) (z0b (z0K (i:=1) (by decide+kernel:(["_law_sign_here","_law_rows_here"]:List Str).Nodup) rfl (Or.inl rfl)) z2d)))) (fun _ _ _ _ _ _=>z0h) (fun _ _ _ _ _ _=>(z0t (z00 (pv 0) (z00 (z0G Jb hr rfl (z00 (pv 1) z02)) z02))))))),?_⟩
 have hlen:=SA.len
 walk_at "rs"
 refine⟨⟨_,SqL.of SA.lst⟩,?_⟩
 refine z0i (n:=Ss.length) (fun i σ zs H2=>∃(v w:Option V) (us:List Addr),σ=[v,w]/\zs=us.map V.ref/\Same H H2/\us.length=i/\∀(j:Nat) t S,us[j]?=some t->Ss[j]?=some S->PrAt hg H2 t S)
  ⟨none,none,[],rfl,rfl,Same.refl _,rfl,(fun _ _ _ h=>nomatch h)⟩ (Nat.le_of_lt (z0H (by omega))) ?_ ?_ ?_ ?_ ?_
 .rintro i σ zs H2 ⟨v,w,us,_,rfl,_,hi,_⟩
  rw[List.length_map,hi]
 .rintro σ zs H2 ⟨v,w,us,_,_,s2,_⟩
  exact⟨_,SqL.of (s2 _ _ SA.lst),by rw[List.length_map];omega⟩
 .rintro i σ zs H2 hi ⟨v,w,us,_,_,s2,_⟩
  exact⟨_,_,SqL.of (s2 _ _ SA.lst),List.getElem?_eq_getElem (by rw[List.length_map];omega)⟩
 .rintro i σ zs H2 x H' Z hi ⟨v,w,us,rfl,rfl,s2,hu,g⟩ ⟨rfl,hx⟩ hZ
  have hx:=hx _ (SqL.of (s2 _ _ SA.lst))
  obtain⟨t,e1,A1,_⟩:=SA.get hi
  rw[List.getElem?_map,e1]at hx
  cases hx
  obtain⟨rl,ps,t1,RA,R⟩:=A1.mono s2
  refine⟨t,_,rfl,SqT.of t1,rfl,_,_,rfl,_,_,rfl,rfl,?_⟩
  refine⟨_,rfl,_,rfl,rl,ps,_,_,_,rfl,RA,R,fun p H3 s3 PC=>⟨szV (by simp),fun u nu=>?_⟩⟩
  refine hZ _ _ _ ⟨_,_,us++[u],rfl,by rw[List.map_append];rfl,(s2.trans s3).trans (Same.new nu),by rw[List.length_append,hu];rfl,zBJ (fun t S h=>(h.mono s3).mono (Same.new nu)) g fun S e=>?_⟩
  rw[hu,List.getElem?_eq_getElem hi]at e
  cases e
  exact⟨p,upd_same,PC.mono (Same.new nu),R⟩
 .rintro σ zs H2 ⟨v,w,us,rfl,rfl,s2,hu,g⟩ m nm
  exact q m us _ (s2.trans (Same.new nm)) (s2.free nm) ⟨upd_same,hu,fun i t S e1 e2=>(g i t S e1 e2).mono (Same.new nm)⟩
theorem Jd:FnScope ["wide","mask","room","x"] ["wide","mask"] (z03 z1M):=⟨rfl,rfl,rfl,by decide+kernel,rfl,by decide+kernel,by decide+kernel⟩
theorem z6X {f:Addr} {fd:FuncData} (D:Df K mg "paint_room" z1M ["wide","mask"] f fd) (B:Blt mg):
 Ow P w K mg base "paint_room" ["wide","mask"] 1 z9o:=by
 refine D.ow (D.F.ok Jd (fun vs H Q E h=>?_) (fun cdv A outer s H vs Q E hr h=>?_))
 .obtain⟨w,m,rfl,_⟩:=h
  rfl
 obtain⟨wd,m,rfl,w0,w1,m0,q⟩:=h
 refine⟨_,(z04 (z0B (i:=2) Jd.nd rfl (Or.inl rfl) z01)
  (z04 (z1S PassesOwn.never rfl (z0S rfl B.f_range (z00 (pv 0) z02)) (z0K (i:=3) Jd.nd rfl (Or.inl rfl)) (z05 (z0R (z0N z36 (z08 z7l (z08 z9B (pv 1) (pv 3)) z01) z01 (z0O _)) (z05 (z0B (i:=2) Jd.nd rfl (Or.inl rfl) (z08 z9C (pv 2) (z08 z7k z01 (z08 z0s z01 (pv 3)))))) z0L)))
  (z05 (z0I (pv 2))))),?_⟩
 refine⟨_,rfl,_,rfl,(z2v (by omega) (by omega)).1,(z2v (by omega) (by omega)).2,?_⟩
 refine z0v (n:=wd.toNat) (fun x σ H2=>∃v,σ=[some (.int wd),some (.int m),some (.int (roomI x m)),v]/\H2=H) ⟨none,rfl,rfl⟩ ?_ ?_
 .rintro x σ H2 hx ⟨v,rfl,rfl⟩
  have hr:=z3q x m
  have sn:=z4m x m
  have e0:(0+(x:Int)).toNat=x:=by omega
  have e4:(4*(0+(x:Int))).toNat=4*x:=by omega
  have ea:Builtin.bitAnd (m/2^(0+(x:Int)).toNat) 1=m/2^x%2:=by
   rw[e0,zFI]
  walk_at "rs"
  refine⟨by omega,?_⟩
  walk_at "rs"
  refine z29 (fun c=>?_) (fun c=>?_)
  .have c':m/2^x%2=1:=by
    rw[<-ea]
    injection c
   walk_at "rs"
   refine⟨some (.int (0+(x:Int))),?_,rfl⟩
   rw[if_pos c']at sn
   have e:roomI (x+1) m=Builtin.bitOr (roomI x m) (15*2^(4*(0+(x:Int))).toNat):=by
    rw[e4,z6u hr.1 (by rw[zC0];exact hr.2) (by decide),sn,zC0]
   rw[e]
   rfl
  .have c':¬m/2^x%2=1:=fun e=>c (by
    rw[<-ea]at e
    show V.int (Builtin.bitAnd (m/2^(0+(x:Int)).toNat) 1)=V.int 1
    rw[e])
   refine⟨some (.int (0+(x:Int))),?_,rfl⟩
   rw[if_neg c']at sn
   have e:roomI (x+1) m=roomI x m:=by
    rw[sn]
    omega
   rw[e]
   rfl
 .rintro σ H2 ⟨v,rfl,rfl⟩
  exact⟨_,rfl,q⟩
theorem z6Y:FnScope ["wide","paint","mask"] ["wide","paint","mask"] (z03 z1N):=⟨rfl,rfl,rfl,by decide+kernel,rfl,by decide+kernel,by decide+kernel⟩
theorem z6Z {f:Addr} {fd:FuncData} (D:Df K mg "is_bits_row" z1N ["wide","paint","mask"] f fd)
 (JW:Ow P w K mg base "is_whole" ["thing"] 1 z2h)
 (JT:Ow P w K mg base "paint_room" ["wide","mask"] 1 z9o) (B:Blt mg):
 Ow P w K mg base "is_bits_row" ["wide","paint","mask"] 2 zCA:=by
 refine D.ow (D.F.ok z6Y (fun vs H Q E h=>?_) (fun cdv A outer s H vs Q E hr h=>?_))
 .obtain⟨w,P,M,rfl,_⟩:=h
  rfl
 obtain⟨wd,P,M,rfl,w1,w2,⟨TP,hP⟩,⟨TM,hM⟩,q⟩:=h
 refine⟨_,(z04 (z0R (PW.pt (z2D (z0a (z0W (z0G JW hr rfl (z00 (pv 1) z02)))) (z1c (z0a (z0W (z0G JW hr rfl (z00 (pv 2) z02))))))) (z05 (z0I z2A)) z0L)
  (z04 (z0R (PW.pt (z2D (z0N z37 (pv 2) z01 (z0O _)) (z1c (z0N z41 (z08 z9B (pv 2) (pv 0)) z01 (z0O _))))) (z05 (z0I z2A)) z0L)
  (z05 (z0I (z2t (z1y z8O (pv 1) z01 (z0O _)) (z2s (z1y z36 (z08 z7l (pv 1) (z2x zBt (z0G JT hr rfl (z00 (pv 0) (z00 (pv 2) z02))))) z01 (z0O _)))))))),?_⟩
 refine L2.hold fun _ hB'=>?_
 refine⟨_,rfl,_,TP,rfl,hP,_,rfl,?_⟩
 by_cases iP:∃i,P=V.int i
 .obtain⟨p,rfl⟩:=iP
  cases hP
  refine z1f rfl ⟨_,rfl,_,TM,rfl,hM,_,rfl,?_⟩
  by_cases iM:∃i,M=V.int i
  .obtain⟨m,rfl⟩:=iM
   cases hM
   refine z1f rfl ?_
   walk_at "rs"
   refine z29 (fun c=>?_) (fun c=>?_)
   .refine z3e ?_
    have e:z7C wd.toNat (.int p) (.int m)=false:=zAQ (decide_eq_false (by omega))
    rw[e]at q
    exact q
   .have hm:0<=m:=by omega
    walk_at "rs"
    refine⟨by omega,?_⟩
    walk_at "rs"
    have ok:0<=p->z4U wd.toNat p m=(decide (m/2^wd.toNat=0)&&decide (Builtin.bitAnd p (Builtin.bitNot (roomI wd.toNat m))=0)):=fun h=>z4n _ _ _ h hm
    refine zBD (fun n=>?_) (fun e=>?_)
    .have n':¬m/2^wd.toNat=0:=fun h=>n (by show V.int (m/2^wd.toNat)=V.int 0;rw[h])
     have e:z7C wd.toNat (.int p) (.int m)=false:=by
      show(decide (0<=p)&&(decide (0<=m)&&z4U wd.toNat p m))=false
      by_cases h0:0<=p
      .rw[ok h0,decide_eq_false n',Bool.false_and,Bool.and_false,Bool.and_false]
      .rw[decide_eq_false h0,Bool.false_and]
     rw[e]at q
     exact q
    .have e':m/2^wd.toNat=0:=by injection e
     walk_at "rs"
     refine z29 (fun h0=>?_) (fun h0=>?_)
     .refine⟨_,rfl,_,rfl,_,rfl,wd,m,rfl,by omega,w2,hm,?_⟩
      walk_at "rs"
      have e2:z7C wd.toNat (.int p) (.int m)=decide (V.int (Builtin.bitAnd p (Builtin.bitNot (roomI wd.toNat m)))=V.int 0):=by
       show(decide (0<=p)&&(decide (0<=m)&&z4U wd.toNat p m))=_
       rw[ok h0,decide_eq_true h0,decide_eq_true hm,decide_eq_true e',Bool.true_and,Bool.true_and,Bool.true_and]
       exact decide_eq_decide.mpr ⟨fun h=>by rw[h],fun h=>by injection h⟩
      rw[e2]at q
      exact q
     .have e2:z7C wd.toNat (.int p) (.int m)=false:=zAP (decide_eq_false h0)
      rw[e2]at q
      exact q
  .rw[z6w hM iM]
   refine z3e ?_
   have e:z7C wd.toNat (.int p) M=false:=by
    cases M with
    |int m=>exact absurd ⟨m,rfl⟩ iM
    |_=>rfl
   rw[e]at q
   exact q
 .rw[z6w hP iP]
  refine z3e (z3e ?_)
  have e:z7C wd.toNat P M=false:=by
   cases P with
   |int m=>exact absurd ⟨m,rfl⟩ iP
   |_=>rfl
  rw[e]at q
  exact q
theorem z8y:FnScope ["thing"] ["thing"] (z03 z21):=⟨rfl,rfl,rfl,by decide+kernel,rfl,by decide+kernel,by decide+kernel⟩
theorem z8z {f:Addr} {fd:FuncData} (D:Df K mg "has_form" z21 ["thing"] f fd)
 (W9:Ow P w K mg base "is_side" ["thing"] 3 zC3) (B:Blt mg):
 Ow P w K mg base "has_form" ["thing"] 4 zCB:=by
 refine D.ow (D.F.ok z8y (fun vs H Q E h=>?_) (fun cdv A outer s H vs Q E hr h=>?_))
 .obtain⟨x,rfl,_⟩:=h
  rfl
 obtain⟨x,rfl,h⟩:=h
 refine⟨_,(z04 (z0R (PW.pt (z2D (z0a (z0W (z07 z0n rfl B.f_isinstance boot_isinstance (z00 (pv 0) (z00 (z1K (v:=.ty "tuple") rfl B.f_tuple boot_tuple rfl) z02))))) (z1c (z0N z41 (z07 z0F rfl B.f_len boot_len (z00 (pv 0) z02)) z01 (z0O _))))) (z05 (z0I z2A)) z0L)
  (z04 (z0R (PW.pt (z2D (z0a (z0W (z0G W9 hr rfl (z00 (z0C ix_tup (pv 0) z01 (fun _ _=>rfl)) z02)))) (z1c (z0a (z0W (z0G W9 hr rfl (z00 (z0C ix_tup (pv 0) z01 (fun _ _=>rfl)) z02))))))) (z05 (z0I z2A)) z0L)
  (z04 (z0R (PW.pt (z2D (z0a (z0W (z07 z0n rfl B.f_isinstance boot_isinstance (z00 (z0C ix_tup (pv 0) z01 (fun _ _=>rfl)) (z00 (z1K (v:=.ty "tuple") rfl B.f_tuple boot_tuple rfl) z02))))) (z1c (z0a (z0W (z07 z0n rfl B.f_isinstance boot_isinstance (z00 (z0C ix_tup (pv 0) z01 (fun _ _=>rfl)) (z00 (z1K (v:=.ty "tuple") rfl B.f_tuple boot_tuple rfl) z02)))))))) (z05 (z0I z2A)) z0L)
  (z05 (z0I (z2t (z1y z36 (z07 z0F rfl B.f_len boot_len (z00 (z0C ix_tup (pv 0) z01 (fun _ _=>rfl)) z02)) (z0C ix_tup (pv 0) z01 (fun _ _=>rfl)) (z0O _)) (z2s (z1y z36 (z07 z0F rfl B.f_len boot_len (z00 (z0C ix_tup (pv 0) z01 (fun _ _=>rfl)) z02)) (z0C ix_tup (pv 0) z01 (fun _ _=>rfl)) (z0O _))))))))),?_⟩
 rcases h with⟨T,hT,nT,q⟩|⟨p,xs,rfl,hp,nl,q⟩|⟨p,a,b,c,d,cv,dv,rfl,hp,⟨Ta,hTa⟩,⟨Tb,hTb⟩,hc,hd,q⟩
 .refine⟨_,rfl,_,"tuple",T,rfl,by decide,hT,_,rfl,?_⟩
  rw[z5P hT,nT]
  exact z3e (z3e q)
 .have hT:tyS H (.ref p)=some "tuple":=by simp only[tyS,hp]
  refine⟨_,rfl,_,"tuple","tuple",rfl,by decide,hT,_,rfl,z1f rfl ?_⟩
  refine⟨_,rfl,p,_,rfl,.inr (SqT.of hp),?_⟩
  walk_at "rs"
  refine zBD (fun _=>q) (fun e=>absurd ?_ nl)
  have e':((xs.length:Nat):Int)=4:=by injection e
  omega
 .have hT:tyS H (.ref p)=some "tuple":=by simp only[tyS,hp]
  refine⟨_,rfl,_,"tuple","tuple",rfl,by decide,hT,_,rfl,z1f rfl ?_⟩
  refine⟨_,rfl,p,_,rfl,.inr (SqT.of hp),?_⟩
  walk_at "rs"
  have no:z4b a b cv dv=false->Q (.bl false) H:=fun e=>by
   rw[e]at q
   exact q
  refine⟨p,_,0,_,rfl,rfl,SqT.of hp,rfl,_,Ta,rfl,hTa,_,rfl,?_⟩
  cases ea:inB a 1 64 with
  |false=>exact z3e (z3e (no (by unfold z4b;rw[ea];rfl)))
  |true=>
   refine z5y ⟨_,rfl,p,_,1,_,rfl,rfl,SqT.of hp,rfl,_,Tb,rfl,hTb,_,rfl,?_⟩
   cases eb:inB b 1 64 with
   |false=>exact z3e (no (by unfold z4b;rw[eb,Bool.false_and,Bool.and_false]))
   |true=>
    obtain⟨hb,rfl,b1,b2⟩:=z7D eb
    obtain⟨Tc,hTc,ec⟩:=hc.ty
    obtain⟨Td,hTd,ed⟩:=hd.ty
    refine z5y ⟨_,rfl,p,_,2,_,rfl,rfl,SqT.of hp,rfl,_,"tuple",Tc,rfl,by decide,hTc,_,rfl,?_⟩
    rw[z5P hTc,ec]
    cases cv with
    |none=>exact z3e (z3e (no (by unfold z4b;rw[Bool.and_false,Bool.and_false])))
    |some ps=>
     refine z5y ⟨_,rfl,p,_,3,_,rfl,rfl,SqT.of hp,rfl,_,"tuple",Td,rfl,by decide,hTd,_,rfl,?_⟩
     rw[z5P hTd,ed]
     cases dv with
     |none=>exact z3e (no (by unfold z4b;rw[Bool.and_false,Bool.and_false]))
     |some ms=>
      obtain⟨qc,rfl,gc,_⟩:=hc
      obtain⟨qd,rfl,gd,_⟩:=hd
      have fb:z4b a (.int hb) (some ps) (some ms)=(decide ((ps.length:Int)=hb)&&decide ((ms.length:Int)=hb)):=by
       show(inB a 1 64&&(inB (.int hb) 1 64&&_))=_
       rw[ea,eb,Bool.true_and,Bool.true_and]
       rfl
      rw[fb]at q
      refine z5y ⟨_,rfl,p,_,2,_,rfl,rfl,SqT.of hp,rfl,qc,_,rfl,.inr (SqT.of gc),_,rfl,p,_,1,_,rfl,rfl,SqT.of hp,rfl,rfl,_,rfl,?_⟩
      refine z29 (fun c1=>?_) (fun c1=>?_)
      .refine⟨_,rfl,p,_,3,_,rfl,rfl,SqT.of hp,rfl,qd,_,rfl,.inr (SqT.of gd),_,rfl,p,_,1,_,rfl,rfl,SqT.of hp,rfl,rfl,?_⟩
       have c1':((ps.length:Nat):Int)=hb:=by injection c1
       rw[decide_eq_true c1',Bool.true_and]at q
       rw[show decide (V.int ((ms.length:Nat):Int)=V.int hb)=decide (((ms.length:Nat):Int)=hb)from decide_eq_decide.mpr ⟨fun h=>by injection h,fun h=>by rw[h]⟩]
       exact q
      .rw[decide_eq_false (fun h=>c1 (by rw[h])),Bool.false_and]at q
       exact q
theorem z6a:FnScope ["thing"] ["thing"] (z03 z0y):=⟨rfl,rfl,rfl,by decide+kernel,rfl,by decide+kernel,by decide+kernel⟩
theorem z6b {f:Addr} {fd:FuncData} (D:Df K mg "is_picture" z0y ["thing"] f fd)
 (Jz:Ow P w K mg base "is_bits_row" ["wide","paint","mask"] 2 zCA)
 (WO:Ow P w K mg base "has_form" ["thing"] 4 zCB) (B:Blt mg):
 Ow P w K mg base "is_picture" ["thing"] 5 zDn:=by
 refine D.ow (D.F.ok z6a (fun vs H Q E h=>?_) (fun cdv A outer s H vs Q E hr h=>?_))
 .obtain⟨x,k,rfl,_⟩:=h
  rfl
 obtain⟨x,k,rfl,hk,q⟩:=h
 refine⟨_,(z04 (z0R (z0a (z0W (z0G WO hr rfl (z00 (pv 0) z02)))) (z05 (z0I z2A)) z0L)
  (z05 (z0I (z07 (z2L rfl) rfl B.f_all boot_all (z00 (z1L (locs:=["paint","mask"]) (ix:=[0]) rfl (BlkSc.look (dsc:=z03 z0y) (N:=["thing"]) rfl rfl (by decide+kernel)) (zBz rfl B.f_zip (z00 (z0C ix_tup (pv 0) z01 (fun _ _=>rfl)) (z00 (z0C ix_tup (pv 0) z01 (fun _ _=>rfl)) z02))) (fun _ _ _ _ _ _=>(z5D (n:=2) rfl (z0b (z0K (i:=0) (by decide+kernel:(["paint","mask","thing"]:List Str).Nodup) rfl (Or.inl rfl)) (z0b (z0K (i:=1) (by decide+kernel:(["paint","mask","thing"]:List Str).Nodup) rfl (Or.inl rfl)) z2d)))) (fun _ _ _ _ _ _=>z0h) (fun _ _ _ _ _ _=>(z0G Jz hr rfl (z00 (z0C z1H (pv 2) z01 (fun _ _=>rfl)) (z00 (pv 0) (z00 (pv 1) z02)))))) z02))))),?_⟩
 cases hk with
 |no T hT nT=>exact⟨_,rfl,x,rfl,.inl ⟨T,hT,nT,_,rfl,z3e (q _ (Same.refl _))⟩⟩
 |few p xs e hp nl=>exact⟨_,rfl,x,rfl,.inr (.inl ⟨p,xs,e,hp,nl,_,rfl,z3e (q _ (Same.refl _))⟩)⟩
 |four p a b c d cv dv e hp hTa hTb hc hd=>
  subst e
  refine⟨_,rfl,_,rfl,.inr (.inr ⟨p,a,b,c,d,cv,dv,rfl,hp,hTa,hTb,hc,hd,_,rfl,?_⟩)⟩
  cases ef:z4b a b cv dv with
  |false=>
   have e0:z8g a b cv dv=false:=by
    unfold z8g
    rw[ef,Bool.false_and]
   rw[e0]at q
   exact z3e (q _ (Same.refl _))
  |true=>
   have ef':=ef
   unfold z4b at ef'
   rw[Bool.and_eq_true,Bool.and_eq_true]at ef'
   obtain⟨ea,eb,ec⟩:=ef'
   obtain⟨wd,rfl,w1,w2⟩:=z7D ea
   obtain⟨hg,rfl,h1,h2⟩:=z7D eb
   cases cv with
   |none=>exact absurd ec (by simp)
   |some ps=>
    cases dv with
    |none=>exact absurd ec (by simp)
    |some ms=>
     have ec':(decide ((ps.length:Int)=hg)&&decide ((ms.length:Int)=hg))=true:=ec
     rw[Bool.and_eq_true,decide_eq_true_eq,decide_eq_true_eq]at ec'
     obtain⟨l1,l2⟩:=ec'
     obtain⟨qc,rfl,gc,_,tc⟩:=hc
     obtain⟨qd,rfl,gd,_,td⟩:=hd
     have e0:z8g (.int wd) (.int hg) (some ps) (some ms)=(ps.zip ms).all fun z=>z7C wd.toNat z.1 z.2:=by
      unfold z8g
      rw[ef,Bool.true_and]
      rfl
     rw[e0]at q
     refine z5y ⟨_,rfl,p,_,2,_,rfl,rfl,SqT.of hp,rfl,_,rfl,p,_,3,_,rfl,rfl,SqT.of hp,rfl,qc,qd,_,_,rfl,SqT.of gc,SqT.of gd,?_⟩
     have hz:(ps.zip ms).length=ps.length:=by
      rw[List.length_zip]
      omega
     refine z0i (n:=ps.length) (fun i σ zs H2=>∃u v,σ=[u,v,some (.ref p)]/\zs=(((ps.zip ms).take i).map fun z=>z7C wd.toNat z.1 z.2).map V.bl/\Same H H2/\i<=ps.length) ⟨none,none,rfl,rfl,Same.refl _,Nat.zero_le _⟩ (Nat.le_of_lt (z0H (by omega))) ?_ ?_ ?_ ?_ ?_
     .rintro i σ zs H2 ⟨u,v,_,rfl,_,hi⟩
      rw[List.length_map,List.length_map,List.length_take]
      omega
     .rintro σ zs H2 ⟨u,v,_,_,s2,_⟩
      exact⟨SqT.of (s2 _ _ gc),SqT.of (s2 _ _ gd),.inl (Nat.le_refl _)⟩
     .rintro i σ zs H2 hi ⟨u,v,_,_,s2,_⟩
      exact⟨SqT.of (s2 _ _ gc),SqT.of (s2 _ _ gd),hi,by omega⟩
     .rintro i σ zs H2 x H' Z hi ⟨u,v,rfl,rfl,s2,_⟩ ⟨T,y,z,nT,rfl,rfl,hy,hz'⟩ hZ
      have k2:Same H2 (upd H2 T (.tup [y,z])):=Same.new nT
      have k3:=s2.trans k2
      have ty:=(tc _ (List.mem_of_getElem? hy)).mono k3
      have tz:=(td _ (List.mem_of_getElem? hz')).mono k3
      refine⟨T,_,rfl,SqT.of upd_same,rfl,_,_,rfl,_,_,rfl,rfl,?_⟩
      refine⟨_,rfl,p,_,0,_,rfl,rfl,SqT.of (k3 _ _ hp),rfl,_,rfl,_,rfl,wd,y,z,rfl,w1,w2,ty,tz,?_⟩
      refine hZ _ _ _ ⟨_,_,rfl,?_,k3,hi⟩
      have hzi:(ps.zip ms)[i]?=some (y,z):=by
       rw[List.getElem?_zip_eq_some]
       exact⟨hy,hz'⟩
      rw[List.take_succ,hzi,List.map_append,List.map_append]
      rfl
     .rintro σ zs H2 ⟨u,v,rfl,rfl,s2,_⟩ l' nl'
      have et:(ps.zip ms).take ps.length=ps.zip ms:=List.take_of_length_le (by omega)
      rw[et]
      refine⟨l',_,rfl,SqL.of upd_same,?_⟩
      rw[List.all_map]
      exact q _ (s2.trans (Same.new nl'))
theorem z6c:FnScope ["rows","y"] ["rows","y"] (z03 z1O):=⟨rfl,rfl,rfl,by decide+kernel,rfl,by decide+kernel,by decide+kernel⟩
theorem z6d {f:Addr} {fd:FuncData} (D:Df K mg "bits_of_row" z1O ["rows","y"] f fd) (B:Blt mg):
 Ow P w K mg base "bits_of_row" ["rows","y"] 1 z6D:=by
 refine D.ow (D.F.ok z6c (fun vs H Q E h=>?_) (fun cdv A outer s H vs Q E hr h=>?_))
 .obtain⟨t,zs,y,rfl,_⟩:=h
  rfl
 obtain⟨t,zs,y,rfl,ht,q⟩:=h
 refine⟨_,(z05 (z0I (z35 (z2l z55 z37 z01 (pv 1) (z07 z0F rfl B.f_len boot_len (z00 (pv 0) z02))) (z0C ix_tup (pv 0) (pv 1) (fun _ _=>rfl)) z01))),?_⟩
 walk_at "rs"
 refine z29 (fun c1=>?_) (fun c1=>⟨_,rfl,z5y ?_⟩)
 .refine⟨_,rfl,t,_,rfl,.inr (SqT.of ht),?_⟩
  rw[List.length_map]
  walk_at "rs"
  refine z29 (fun c2=>?_) (fun c2=>?_)
  .have hy:y.toNat<zs.length:=by omega
   have e:zAt zs y=zs[y.toNat]'hy:=by
    unfold zAt
    rw[if_pos c1,List.getElem?_eq_getElem hy]
    rfl
   rw[e]at q
   exact⟨_,rfl,_,rfl,t,_,_,_,rfl,rfl,SqT.of ht,zDU c1 (List.getElem?_eq_getElem hy),q⟩
  .have e:zAt zs y=0:=by
    unfold zAt
    rw[if_pos c1,List.getElem?_eq_none (by omega)]
    rfl
   rw[e]at q
   exact q
 .have e:zAt zs y=0:=by
   unfold zAt
   rw[if_neg c1]
  rw[e]at q
  exact q
theorem WX:FnScope ["bits","at","many","moved"] ["bits","at","many"] (z03 z23):=⟨rfl,rfl,rfl,by decide+kernel,rfl,by decide+kernel,by decide+kernel⟩
theorem z90 {f:Addr} {fd:FuncData} (D:Df K mg "cut_bits" z23 ["bits","at","many"] f fd) (B:Blt mg):
 Ow P w K mg base "cut_bits" ["bits","at","many"] 1 z6E:=by
 refine D.ow (D.F.ok WX (fun vs H Q E h=>?_) (fun cdv A outer s H vs Q E hr h=>?_))
 .obtain⟨b,a,m,rfl,_⟩:=h
  rfl
 obtain⟨b,a,m,rfl,b0,b1,a0,a1,m0,m1,q⟩:=h
 refine⟨_,(z04 (z0B (i:=3) WX.nd rfl (Or.inl rfl) (z35 (z0N z8O (pv 1) z01 (z0O _)) (z08 z9B (pv 0) (pv 1)) (z08 zFM (pv 0) (z2x z2F (pv 1)))))
  (z05 (z0I (z08 z7l (pv 3) (z08 z1g (z08 z7k z01 (pv 2)) z01))))),?_⟩
 refine L2.hold fun _ hB'=>?_
 unfold z9r at q
 walk_at "rs"
 refine z29 (fun c1=>?_) (fun c1=>?_)
 .rw[if_pos c1]at q
  walk_at "rs"
  refine⟨c1,?_⟩
  walk_at "rs"
  have e:=z9z (m:=m.toNat) (Int.ediv_nonneg b0 (Int.le_of_lt (z38 a.toNat)))
  rw[<-e]at q
  exact q
 .rw[if_neg c1]at q
  walk_at "rs"
  have e:=z9z (m:=m.toNat) (Int.mul_nonneg b0 (Int.le_of_lt (z38 (-a).toNat)))
  rw[<-e]at q
  exact q
theorem Wa:FnScope ["pic","x","y","wide","high","paints","masks"] ["pic","x","y","wide","high"] (z03 z5V):=⟨rfl,rfl,rfl,by decide+kernel,rfl,by decide+kernel,by decide+kernel⟩
theorem zDy {f:Addr} {fd:FuncData} (D:Df K mg "cut" z5V ["pic","x","y","wide","high"] f fd)
 (JH:Owd P w K mg base "filled" ["wide","high","cell"] [.non] 2 z39)
 (Jj:Ow P w K mg base "bits_of_row" ["rows","y"] 1 z6D)
 (Jy:Ow P w K mg base "cut_bits" ["bits","at","many"] 1 z6E) (B:Blt mg):
 Ow P w K mg base "cut" ["pic","x","y","wide","high"] 3 zDZ:=by
 refine D.ow (D.F.ok Wa (fun vs H Q E h=>?_) (fun cdv A outer s H vs Q E hr h=>?_))
 .obtain⟨p,x,y,w,h,rows,w',h',rfl,_⟩:=h
  rfl
 obtain⟨p,x,y,wd,hg,rows,w',h',rfl,PC,R,w1,w2,h1,h2,q⟩:=h
 obtain⟨pp,pm,g1,g2,g3⟩:=id PC
 refine⟨_,(z04 (z0R (PW.pt (z2D (z0N z55 (pv 1) (z2x z2F (pv 3)) (z0O _)) (z1c (z0N z8O (pv 1) (z0C ix_tup (pv 0) z01 (fun _ _=>rfl)) (z0O _))))) (z05 (z0I (z5G JH hr rfl (z00 (pv 3) (z00 (pv 4) z02))))) z0L)
  (z04 (z3T (i:=5) (locs:=["j"]) (ix:=[0,2,1,3]) rfl Wa.nd rfl rfl (BlkSc.look (dsc:=z03 z5V) (N:=["pic","x","y","wide","high","paints","masks"]) rfl rfl (by decide+kernel)) (z0S rfl B.f_range (z00 (pv 4) z02)) (fun _ _ _ _ _ _=>(z0K (i:=0) (by decide+kernel:(["j","pic","y","x","wide"]:List Str).Nodup) rfl (Or.inl rfl))) (fun _ _ _ _ _ _=>z0h) (fun _ _ _ _ _ _=>(z0G Jy hr rfl (z00 (z0G Jj hr rfl (z00 (z0C z1H (pv 1) z01 (fun _ _=>rfl)) (z00 (z08 z0P (pv 2) (pv 0)) z02))) (z00 (z08 z0s z01 (pv 3)) (z00 (z08 z0s z01 (pv 4)) z02))))) rfl)
  (z04 (z3T (i:=6) (locs:=["j"]) (ix:=[0,2,1,3]) rfl Wa.nd rfl rfl (BlkSc.look (dsc:=z03 z5V) (N:=["pic","x","y","wide","high","paints","masks"]) rfl rfl (by decide+kernel)) (z0S rfl B.f_range (z00 (pv 4) z02)) (fun _ _ _ _ _ _=>(z0K (i:=0) (by decide+kernel:(["j","pic","y","x","wide"]:List Str).Nodup) rfl (Or.inl rfl))) (fun _ _ _ _ _ _=>z0h) (fun _ _ _ _ _ _=>(z0G Jy hr rfl (z00 (z0G Jj hr rfl (z00 (z0C z1H (pv 1) z01 (fun _ _=>rfl)) (z00 (z08 z0P (pv 2) (pv 0)) z02))) (z00 (pv 3) (z00 (pv 4) z02))))) rfl)
  (z05 (z0I (z0t (z00 (pv 3) (z00 (pv 4) (z00 (z0w z1E rfl B.f_tuple boot_tuple (z00 (pv 5) z02)) (z00 (z0w z1E rfl B.f_tuple boot_tuple (z00 (pv 6) z02)) z02)))))))))),?_⟩
 have e1:((w'.toNat:Nat):Int)=w':=by omega
 have e2:((h'.toNat:Nat):Int)=h':=by omega
 have off:(x<= -w'\/(wd:Int)<=x)->zEo (z8T z39 [V.non] E0 (zCM (zE0 3) (zCM (zE0 4) zE3))) {nx:=fun x H'=>Q V.non H',rt:=Q} (L2.start ["pic","x","y","wide","high","paints","masks"] [V.ref p,V.int x,V.int y,V.int w',V.int h']) H:=fun hx=>by
  refine⟨_,rfl,_,rfl,w',h',none,rfl,w1,w2,h1,h2,(fun _ e=>nomatch e),fun r H2 s2 PF=>?_⟩
  refine q r H2 s2 (PF.of ?_)
  rw[zCf R (by rw[e1];exact hx)]
 walk_at "rs"
 refine z29 (fun c=>z3e (off (.inl c))) (fun c1=>?_)
 refine⟨_,rfl,_,rfl,p,_,0,_,rfl,rfl,SqT.of g1,rfl,?_⟩
 walk_at "rs"
 refine z29 (fun c=>off (.inr c)) (fun c2=>?_)
 have hw2:=R.w2
 refine⟨_,rfl,_,rfl,(z2v (by omega) (by omega)).1,(z2v (by omega) (by omega)).2,?_⟩
 refine z0i (n:=h'.toNat) (fun i σ zs H2=>∃v,σ=[v,some (.ref p),some (.int y),some (.int x),some (.int w')]/\zs=((List.range i).map fun(j:Nat)=>z09 (z75 rows x (y+(j:Int)) w'.toNat)).map V.int/\H2=H)
  ⟨none,rfl,rfl,rfl⟩ (Nat.le_of_lt (z0H (by omega))) ?_ ?_ ?_ ?_ ?_
 .rintro i σ zs H2 ⟨v,_,rfl,_⟩
  rw[List.length_map,List.length_map,List.length_range]
 .rintro σ zs H2 _
  exact Nat.le_refl _
 .intro i σ zs H2 hi _
  exact hi
 .rintro i σ zs H2 z H' Z hi ⟨v,rfl,rfl,rfl⟩ ⟨rfl,rfl⟩ hZ
  have bd:=z6C R (y+(0+(i:Int)))
  refine⟨_,rfl,p,_,2,_,rfl,rfl,SqT.of g1,rfl,?_⟩
  walk_at "rs"
  refine⟨pp,_,_,rfl,g2,?_⟩
  walk_at "rs"
  refine⟨_,_,_,rfl,bd.1,bd.2,by omega,by omega,by omega,by omega,?_⟩
  refine hZ _ _ _ ⟨_,rfl,?_,rfl⟩
  rw[z4p,List.map_append,z8Z R,e1]
  have e0:y+(0+(i:Int))=y+(i:Int):=by omega
  rw[e0]
  rfl
 rintro σ zs H2 ⟨v,rfl,rfl,rfl⟩ l1 n1
 have s1:Same H2 (upd H2 l1 (.lst (((List.range h'.toNat).map fun(j:Nat)=>z09 (z75 rows x (y+(j:Int)) w'.toNat)).map V.int))):=Same.new n1
 have u1:(upd H2 l1 (.lst (((List.range h'.toNat).map fun(j:Nat)=>z09 (z75 rows x (y+(j:Int)) w'.toNat)).map V.int))) l1=_:=upd_same
 generalize upd H2 l1 (.lst (((List.range h'.toNat).map fun(j:Nat)=>z09 (z75 rows x (y+(j:Int)) w'.toNat)).map V.int))=H3 at s1 u1
 refine⟨_,rfl,_,rfl,(z2v (by omega) (by omega)).1,(z2v (by omega) (by omega)).2,?_⟩
 refine z0i (n:=h'.toNat) (fun i σ zs H4=>∃v,σ=[v,some (.ref p),some (.int y),some (.int x),some (.int w')]/\zs=((List.range i).map fun(j:Nat)=>z0J (z75 rows x (y+(j:Int)) w'.toNat)).map V.int/\H4=H3)
  ⟨none,rfl,rfl,rfl⟩ (Nat.le_of_lt (z0H (by omega))) ?_ ?_ ?_ ?_ ?_
 .rintro i σ zs H4 ⟨v,_,rfl,_⟩
  rw[List.length_map,List.length_map,List.length_range]
 .rintro σ zs H4 _
  exact Nat.le_refl _
 .intro i σ zs H4 hi _
  exact hi
 .rintro i σ zs H4 z H' Z hi ⟨v,rfl,rfl,rfl⟩ ⟨rfl,rfl⟩ hZ
  have bd:=z76 R (y+(0+(i:Int)))
  refine⟨_,rfl,p,_,3,_,rfl,rfl,SqT.of (s1 _ _ g1),rfl,?_⟩
  walk_at "rs"
  refine⟨pm,_,_,rfl,s1 _ _ g3,?_⟩
  walk_at "rs"
  refine⟨_,_,_,rfl,bd.1,bd.2,by omega,by omega,by omega,by omega,?_⟩
  refine hZ _ _ _ ⟨_,rfl,?_,rfl⟩
  rw[z4p,List.map_append,z9y,e1]
  have e0:y+(0+(i:Int))=y+(i:Int):=by omega
  rw[e0]
  rfl
 rintro σ zs H4 ⟨v,rfl,rfl,rfl⟩ l2 n2
 have n12:l1≠l2:=fun e=>by rw[<-e,u1]at n2;cases n2
 refine⟨_,rfl,_,rfl,_,rfl,l1,_,rfl,.inl ⟨SqL.of ((Same.new n2) _ _ u1),fun t1 m1=>?_⟩⟩
 refine⟨_,rfl,l2,_,rfl,.inl ⟨SqL.of ((Same.new m1) _ _ upd_same),fun t2 m2=>?_⟩⟩
 walk_at "rs"
 intro t3 m3
 refine q t3 _ ((((s1.trans (Same.new n2)).trans (Same.new m1)).trans (Same.new m2)).trans (Same.new m3)) ⟨t1,t2,?_,?_,?_⟩
 .rw[upd_same,z2M,e1,e2]
 .refine(Same.new m3) _ _ ((Same.new m2) _ _ (upd_same.trans ?_))
  unfold cutRows
  rw[List.map_map (g:=z09)]
  rfl
 .refine(Same.new m3) _ _ (upd_same.trans ?_)
  unfold cutRows
  rw[List.map_map (g:=z0J)]
  rfl
theorem z6e:FnScope ["wide","lower","upper","mask"] ["wide","lower","upper","mask"] (z03 z1P):=⟨rfl,rfl,rfl,by decide+kernel,rfl,by decide+kernel,by decide+kernel⟩
theorem z6f {f:Addr} {fd:FuncData} (D:Df K mg "laid_paint" z1P ["wide","lower","upper","mask"] f fd)
 (JT:Ow P w K mg base "paint_room" ["wide","mask"] 1 z9o) (B:Blt mg):
 Ow P w K mg base "laid_paint" ["wide","lower","upper","mask"] 2 z4F:=by
 refine D.ow (D.F.ok z6e (fun vs H Q E h=>?_) (fun cdv A outer s H vs Q E hr h=>?_))
 .obtain⟨w,lo,up,m,rfl,_⟩:=h
  rfl
 obtain⟨w,lo,up,m,rfl,w0,w1,m0,q⟩:=h
 refine⟨_,(z05 (z0I (z08 z9C (z08 z7l (pv 1) (z2x zBt (z0G JT hr rfl (z00 (pv 0) (z00 (pv 3) z02))))) (pv 2)))),?_⟩
 walk_at "rs"
 refine⟨_,_,rfl,w0,w1,m0,?_⟩
 walk_at "rs"
 exact q
theorem WQ:FnScope ["under","over","x","y","upper","paints","masks"] ["under","over","x","y"] (z03 z3O):=⟨rfl,rfl,rfl,by decide+kernel,rfl,by decide+kernel,by decide+kernel⟩
theorem zBn {f T:Addr} {fd:FuncData} (D:Df2 K mg "laid" z3O ["under","over","x","y"] f fd T (0) (0))
 (Wd:Ow P w K mg base "cut" ["pic","x","y","wide","high"] 3 zDZ)
 (W0:Ow P w K mg base "laid_paint" ["wide","lower","upper","mask"] 2 z4F) (B:Blt mg):
 FnOk P w K mg base CX0 4 f fd ["under","over","x","y"] zA4:=by
 refine D.F.ok WQ (fun vs H Q E h=>?_) (fun cdv A outer s H vs Q E hr h=>?_)
 .obtain⟨p,o,x,y,w,h,w2,h2,rows,rows2,rfl,_⟩:=h
  rfl
 obtain⟨p,o,x,y,wd,hg,wo,ho,rows,rows2,rfl,PC,R,PO,RO,q⟩:=h
 obtain⟨pp,pm,g1,g2,g3⟩:=id PC
 have hR:=R.len
 have hR2:=R.h2
 have hw1:=R.w1
 have hw2:=R.w2
 have hh1:=R.h1
 rw[hR]at g1
 refine⟨_,(z04 (z0B (i:=4) WQ.nd rfl (Or.inl rfl) (z0G Wd hr rfl (z00 (pv 1) (z00 (z2x z2F (pv 2)) (z00 (z2x z2F (pv 3)) (z00 (z0C ix_tup (pv 0) z01 (fun _ _=>rfl)) (z00 (z0C ix_tup (pv 0) z01 (fun _ _=>rfl)) z02)))))))
  (z04 (z3T (i:=5) (locs:=["lower","paint","mask"]) (ix:=[0]) rfl WQ.nd rfl rfl (BlkSc.look (dsc:=z03 z3O) (N:=["under","over","x","y","upper","paints","masks"]) rfl rfl (by decide+kernel)) (zCh rfl B.f_zip (z00 (z0C ix_tup (pv 0) z01 (fun _ _=>rfl)) (z00 (z0C ix_tup (pv 4) z01 (fun _ _=>rfl)) (z00 (z0C ix_tup (pv 4) z01 (fun _ _=>rfl)) z02)))) (fun _ _ _ _ _ _=>(z5D (n:=3) rfl (z0b (z0K (i:=0) (by decide+kernel:(["lower","paint","mask","under"]:List Str).Nodup) rfl (Or.inl rfl)) (z0b (z0K (i:=1) (by decide+kernel:(["lower","paint","mask","under"]:List Str).Nodup) rfl (Or.inl rfl)) (z0b (z0K (i:=2) (by decide+kernel:(["lower","paint","mask","under"]:List Str).Nodup) rfl (Or.inl rfl)) z2d))))) (fun _ _ _ _ _ _=>z0h) (fun _ _ _ _ _ _=>(z0G W0 hr rfl (z00 (z0C z1H (pv 3) z01 (fun _ _=>rfl)) (z00 (pv 0) (z00 (pv 1) (z00 (pv 2) z02)))))) rfl)
  (z04 (z3T (i:=6) (locs:=["lower","mask"]) (ix:=[]) rfl WQ.nd rfl rfl (BlkSc.look (dsc:=z03 z3O) (N:=["under","over","x","y","upper","paints","masks"]) rfl rfl (by decide+kernel)) (zBz rfl B.f_zip (z00 (z0C ix_tup (pv 0) z01 (fun _ _=>rfl)) (z00 (z0C ix_tup (pv 4) z01 (fun _ _=>rfl)) z02))) (fun _ _ _ _ _ _=>(z5D (n:=2) rfl (z0b (z0K (i:=0) (by decide+kernel:(["lower","mask"]:List Str).Nodup) rfl (Or.inl rfl)) (z0b (z0K (i:=1) (by decide+kernel:(["lower","mask"]:List Str).Nodup) rfl (Or.inl rfl)) z2d)))) (fun _ _ _ _ _ _=>z0h) (fun _ _ _ _ _ _=>(z08 z9C (pv 0) (pv 1))) rfl)
  (z05 (z0I (z0t (z00 (z0C ix_tup (pv 0) z01 (fun _ _=>rfl)) (z00 (z0C ix_tup (pv 0) z01 (fun _ _=>rfl)) (z00 (z0w z1E rfl B.f_tuple boot_tuple (z00 (pv 5) z02)) (z00 (z0w z1E rfl B.f_tuple boot_tuple (z00 (pv 6) z02)) z02)))))))))),?_⟩
 walk_at "rs"
 refine⟨p,_,0,_,rfl,rfl,SqT.of g1,rfl,_,rfl,p,_,1,_,rfl,rfl,SqT.of g1,rfl,?_⟩
 refine⟨o,-x,-y,wo,ho,rows2,(wd:Int),(hg:Int),rfl,PO,RO,by omega,by omega,by omega,by omega,fun u H1 s1 PU=>?_⟩
 have ew:((wd:Int)).toNat=wd:=by omega
 have eh:((hg:Int)).toNat=hg:=by omega
 rw[ew,eh]at PU
 have RC:=zBF RO (-x) (-y) (w':=wd) (h':=hg) hw1 hw2 hh1 hR2
 generalize cutRows rows2 (-x) (-y) wd hg=crows at PU RC q
 obtain⟨up,um,k1,k2,k3⟩:=PU
 have hC:=RC.len
 have hL:=z4H (us:=rows) (cs:=crows) (by omega)
 have get:∀j,j<hg->∃r c,rows[j]?=some r/\crows[j]?=some c/\(z0j rows crows)[j]?=some (layR r c)/\r.length=wd/\c.length=wd/\Cells r/\Cells c:=fun j hj=>by
  have a1:j<rows.length:=by omega
  have a2:j<crows.length:=by omega
  exact⟨_,_,List.getElem?_eq_getElem a1,List.getElem?_eq_getElem a2,z4G (List.getElem?_eq_getElem a1) (List.getElem?_eq_getElem a2),(R.row0 a1).1,(RC.row0 a2).1,(R.row0 a1).2,(RC.row0 a2).2⟩
 have g1':=s1 _ _ g1
 have g2':=s1 _ _ g2
 have g3':=s1 _ _ g3
 refine⟨_,rfl,p,_,2,_,rfl,rfl,SqT.of g1',rfl,_,rfl,u,_,2,_,rfl,rfl,SqT.of k1,rfl,_,rfl,u,_,3,_,rfl,rfl,SqT.of k1,rfl,pp,up,um,_,_,_,rfl,SqT.of g2',SqT.of k2,SqT.of k3,?_⟩
 refine z0i (n:=hg) (fun i σ zs H2=>∃v0 v1 v2,σ=[v0,v1,v2,some (.ref p)]/\zs=(((z0j rows crows).take i).map z09).map V.int/\Same H1 H2/\i<=hg) ⟨none,none,none,rfl,rfl,Same.refl _,Nat.zero_le _⟩ (Nat.le_of_lt (z0H (by omega))) ?_ ?_ ?_ ?_ ?_
 .rintro i σ zs H2 ⟨_,_,_,_,rfl,_,hi⟩
  rw[List.length_map,List.length_map,List.length_take]
  omega
 .rintro σ zs H2 ⟨_,_,_,_,_,s2,_⟩
  exact⟨SqT.of (s2 _ _ g2'),by rw[List.length_map,List.length_map];omega⟩
 .rintro i σ zs H2 hi ⟨_,_,_,_,_,s2,_⟩
  exact⟨SqT.of (s2 _ _ g2'),SqT.of (s2 _ _ k2),SqT.of (s2 _ _ k3),by rw[List.length_map,List.length_map];omega,by rw[List.length_map,List.length_map];omega,by rw[List.length_map,List.length_map];omega⟩
 .rintro i σ zs H2 z H' Z hi ⟨v0,v1,v2,rfl,rfl,s2,_⟩ ⟨T,za,zb,zc,nT,rfl,rfl,ha,hb,hc⟩ hZ
  obtain⟨r,c,er,ec,el,lr,lc,cr,cc⟩:=get i hi
  rw[List.getElem?_map,List.getElem?_map,er]at ha
  rw[List.getElem?_map,List.getElem?_map,ec]at hb
  rw[List.getElem?_map,List.getElem?_map,ec]at hc
  cases ha
  cases hb
  cases hc
  refine⟨T,_,rfl,SqT.of upd_same,rfl,_,_,rfl,_,_,rfl,_,_,rfl,rfl,?_⟩
  have s3:=s2.trans (Same.new (o:=.tup [.int (z09 r),.int (z09 c),.int (z0J c)]) nT)
  refine⟨_,rfl,p,_,0,_,rfl,rfl,SqT.of (s3 _ _ g1'),rfl,_,rfl,_,rfl,_,rfl,_,_,_,_,rfl,by omega,by omega,(z2g c).1,?_⟩
  have e:=z68 r c (by omega) cr cc
  rw[lr]at e
  rw[ew,e]
  refine hZ _ _ _ ⟨_,_,_,rfl,?_,s3,hi⟩
  rw[List.take_succ,el,List.map_append,List.map_append]
  rfl
 rintro σ zs H2 ⟨_,_,_,rfl,rfl,s2,_⟩ l1 n1
 have tk:(z0j rows crows).take hg=z0j rows crows:=List.take_of_length_le (by omega)
 rw[tk]
 have s3:=s2.trans (Same.new (o:=.lst (((z0j rows crows).map z09).map V.int)) n1)
 have u1:(upd H2 l1 (.lst (((z0j rows crows).map z09).map V.int))) l1=_:=upd_same
 generalize upd H2 l1 (.lst (((z0j rows crows).map z09).map V.int))=H3 at s3 u1
 refine⟨_,rfl,p,_,3,_,rfl,rfl,SqT.of (s3 _ _ g1'),rfl,_,rfl,u,_,3,_,rfl,rfl,SqT.of (s3 _ _ k1),rfl,pm,um,_,_,rfl,SqT.of (s3 _ _ g3'),SqT.of (s3 _ _ k3),?_⟩
 refine z0i (n:=hg) (fun i σ zs H4=>∃v0 v1,σ=[v0,v1]/\zs=(((z0j rows crows).take i).map z0J).map V.int/\Same H3 H4/\i<=hg) ⟨none,none,rfl,rfl,Same.refl _,Nat.zero_le _⟩ (Nat.le_of_lt (z0H (by omega))) ?_ ?_ ?_ ?_ ?_
 .rintro i σ zs H4 ⟨_,_,_,rfl,_,hi⟩
  rw[List.length_map,List.length_map,List.length_take]
  omega
 .rintro σ zs H4 ⟨_,_,_,_,s4,_⟩
  exact⟨SqT.of (s4 _ _ (s3 _ _ g3')),SqT.of (s4 _ _ (s3 _ _ k3)),.inl (by rw[List.length_map,List.length_map];omega)⟩
 .rintro i σ zs H4 hi ⟨_,_,_,_,s4,_⟩
  exact⟨SqT.of (s4 _ _ (s3 _ _ g3')),SqT.of (s4 _ _ (s3 _ _ k3)),by rw[List.length_map,List.length_map];omega,by rw[List.length_map,List.length_map];omega⟩
 .rintro i σ zs H4 z H' Z hi ⟨v0,v1,rfl,rfl,s4,_⟩ ⟨T,za,zb,nT,rfl,rfl,ha,hb⟩ hZ
  obtain⟨r,c,er,ec,el,lr,lc,cr,cc⟩:=get i hi
  rw[List.getElem?_map,List.getElem?_map,er]at ha
  rw[List.getElem?_map,List.getElem?_map,ec]at hb
  cases ha
  cases hb
  refine⟨T,_,rfl,SqT.of upd_same,rfl,_,_,rfl,_,_,rfl,rfl,?_⟩
  have s5:=s4.trans (Same.new (o:=.tup [.int (z0J r),.int (z0J c)]) nT)
  walk_at "rs"
  refine hZ _ _ _ ⟨_,_,rfl,?_,s5,hi⟩
  rw[List.take_succ,el,List.map_append,List.map_append]
  show _=_++[V.int (z0J (layR r c))]
  rw[<-z7v r c (by omega)]
 rintro σ zs H4 ⟨_,_,rfl,rfl,s4,_⟩ l2 n2
 rw[tk]
 have t4:=s3.trans s4
 have t5:=t4.trans (Same.new (o:=.lst (((z0j rows crows).map z0J).map V.int)) n2)
 have u1':=(Same.new (o:=.lst (((z0j rows crows).map z0J).map V.int)) n2) _ _ (s4 _ _ u1)
 have u2:(upd H4 l2 (.lst (((z0j rows crows).map z0J).map V.int))) l2=_:=upd_same
 generalize upd H4 l2 (.lst (((z0j rows crows).map z0J).map V.int))=H5 at t5 u1' u2
 refine⟨_,rfl,p,_,0,_,rfl,rfl,SqT.of (t5 _ _ g1'),rfl,_,rfl,p,_,1,_,rfl,rfl,SqT.of (t5 _ _ g1'),rfl,_,rfl,l1,_,rfl,.inl ⟨SqL.of u1',fun t1 m1=>?_⟩⟩
 refine⟨_,rfl,l2,_,rfl,.inl ⟨SqL.of ((Same.new m1) _ _ u2),fun t2 m2=>?_⟩⟩
 refine⟨szV (by simp),fun t3 m3=>?_⟩
 refine q t3 _ ((((s1.trans t5).trans (Same.new m1)).trans (Same.new m2)).trans (Same.new m3)) ⟨t1,t2,?_,?_,?_⟩
 .rw[upd_same,hL,hR]
 .exact(Same.new m3) _ _ ((Same.new m2) _ _ upd_same)
 .exact(Same.new m3) _ _ upd_same
theorem zAr:FnScope ["thing"] ["thing"] (z03 z2U):=⟨rfl,rfl,rfl,by decide+kernel,rfl,by decide+kernel,by decide+kernel⟩
theorem zAs {f:Addr} {fd:FuncData} (D:Df K mg "is_sign" z2U ["thing"] f fd) (B:Blt mg):
 Ow P w K mg base "is_sign" ["thing"] 1 zAZ:=by
 refine D.ow (D.F.ok zAr (fun vs H Q E h=>?_) (fun cdv A outer s H vs Q E hr h=>?_))
 .obtain⟨v,T,rfl,_⟩:=h
  rfl
 obtain⟨v,T,rfl,hT,hl,q⟩:=h
 refine⟨_,(z04 (z0R (PW.pt (z2D (z0a (z0W (z07 z0n rfl B.f_isinstance boot_isinstance (z00 (pv 0) (z00 (z1K (v:=.ty "str") rfl B.f_str boot_str rfl) z02))))) (z1c (z0N z41 (z07 z2e rfl B.f_len boot_len (z00 (pv 0) z02)) z01 (z0O _))))) (z05 (z0I z2A)) z0L)
  (z05 (z0I (z2t (z7m z55 z55 z01 (z07 z7n rfl B.f_ord boot_ord (z00 (pv 0) z02)) z01) (z2s (z1y z41 (z07 z7n rfl B.f_ord boot_ord (z00 (pv 0) z02)) z01 (z0O _))))))),?_⟩
 refine L2.hold fun _ hB'=>?_
 refine⟨_,rfl,v,"str",T,rfl,by decide,hT,?_⟩
 cases hs:z8W T "str" with
 |false=>
  have e:sgV v=false:=by
   cases v with
   |str z=>
    cases hT
    exact absurd hs (by decide)
   |_=>rfl
  rw[e]at q
  exact⟨_,rfl,z5z rfl (z3e q)⟩
 |true=>
  have hv:∃z,v=.str z:=by
   cases v with
   |str z=>exact⟨z,rfl⟩
   |non=>cases hT;exact absurd hs (by decide)
   |bl b=>cases hT;exact absurd hs (by decide)
   |int i=>cases hT;exact absurd hs (by decide)
   |ref a=>
    have hT':(match H a with|some (.lst _)=>some "list"|some (.frz _ (.lst _))=>some "list"|some (.tup _)=>some "tuple"|some (.dK _)=>some "dict"|some (.dT _)=>some "dict"|_=>none)=some T:=hT
    split at hT'<;>first|(cases hT';exact absurd hs (by decide))|cases hT'
   |_=>exact nomatch hT
  obtain⟨z,rfl⟩:=hv
  have hz:=hl z rfl
  have sz:z.length<=sizeLine:=Nat.le_of_lt (z0H hz)
  refine⟨_,rfl,z1f rfl ?_⟩
  walk_at "rs"
  refine⟨sz,?_⟩
  walk_at "rs"
  refine zBD (fun n1=>?_) (fun n1=>?_)
  .have e:sgV (.str z)=false:=by
    show sgB z=false
    unfold sgB
    rw[decide_eq_false (fun e=>n1 (by rw[e];rfl)),Bool.false_and]
   rw[e]at q
   exact q
  .have e1:z.length=1:=by
    injection n1 with n1
    omega
   have e:sgV (.str z)=((decide (32<=z.cps.getD 0 0)&&decide (z.cps.getD 0 0<=126))&&decide (z.cps.getD 0 0≠37)):=by
    show sgB z=_
    unfold sgB
    rw[decide_eq_true e1,Bool.true_and]
   rw[e]at q
   walk_at "rs"
   refine⟨e1,?_⟩
   walk_at "rs"
   refine z29 (fun a1=>?_) (fun a1=>?_)
   .rw[decide_eq_true (show 32<=z.cps.getD 0 0 by omega),Bool.true_and]at q
    walk_at "rs"
    refine z29 (fun a2=>?_) (fun a2=>?_)
    .rw[decide_eq_true (show z.cps.getD 0 0<=126 by omega),Bool.true_and]at q
     walk_at "rs"
     refine⟨e1,?_⟩
     walk_at "rs"
     have e:(!decide (V.int ((z.cps.getD 0 0:Nat):Int)=V.int 37))=decide (z.cps.getD 0 0≠37):=by
      by_cases e:z.cps.getD 0 0=37
      .rw[e]
       rfl
      .rw[decide_eq_true e,decide_eq_false fun z=>e (by injection z with z;omega)]
       rfl
     show Q (V.bl (!decide (V.int ((z.cps.getD 0 0:Nat):Int)=V.int 37))) H
     rw[e]
     exact q
    .rw[decide_eq_false (show¬z.cps.getD 0 0<=126 by omega),Bool.false_and]at q
     exact q
   .rw[decide_eq_false (show¬32<=z.cps.getD 0 0 by omega),Bool.false_and,Bool.false_and]at q
    exact⟨_,rfl,z5y q⟩
theorem zAu:FnScope ["thing"] ["thing"] (z03 z2V):=⟨rfl,rfl,rfl,by decide+kernel,rfl,by decide+kernel,by decide+kernel⟩
theorem zAv {f:Addr} {fd:FuncData} (D:Df K mg "is_pair" z2V ["thing"] f fd)
 (W1:Ow P w K mg base "is_picture" ["thing"] 5 zDn)
 (WT:Ow P w K mg base "is_sign" ["thing"] 1 zAZ) (B:Blt mg):
 Ow P w K mg base "is_pair" ["thing"] 6 zAa:=by
 refine D.ow (D.F.ok zAu (fun vs H Q E h=>?_) (fun cdv A outer s H vs Q E hr h=>?_))
 .obtain⟨v,k,rfl,_⟩:=h
  rfl
 obtain⟨v,k,rfl,hk,q⟩:=h
 refine⟨_,(z04 (z0R (PW.pt (z2D (z0a (z0W (z07 z0n rfl B.f_isinstance boot_isinstance (z00 (pv 0) (z00 (z1K (v:=.ty "tuple") rfl B.f_tuple boot_tuple rfl) z02))))) (z1c (z0N z41 (z07 z0F rfl B.f_len boot_len (z00 (pv 0) z02)) z01 (z0O _))))) (z05 (z0I z2A)) z0L)
  (z05 (z0I (z2t (z0G WT hr rfl (z00 (z0C ix_tup (pv 0) z01 (fun _ _=>rfl)) z02)) (z2s (z0G W1 hr rfl (z00 (z0C ix_tup (pv 0) z01 (fun _ _=>rfl)) z02))))))),?_⟩
 cases hk with
 |no T hT nT=>
  have e:z8W T "tuple"=false:=by
   unfold z8W
   rw[nT,Bool.false_or,show(("tuple":String)=="int")=false by decide,Bool.and_false]
  exact⟨_,rfl,v,"tuple",T,rfl,by decide,hT,by rw[e];exact⟨_,rfl,z5z rfl (z3e (q _ (Same.refl _)))⟩⟩
 |few t xs e ht nl=>
  subst e
  refine⟨_,rfl,_,"tuple","tuple",rfl,by decide,by simp only[tyS,ht],_,rfl,z1f rfl ?_⟩
  refine⟨_,rfl,t,_,rfl,.inr (SqT.of ht),rfl,_,rfl,?_⟩
  refine zBD (fun n1=>q _ (Same.refl _)) (fun n1=>absurd ?_ nl)
  injection n1 with n1
  omega
 |two t a b T k e ht hT hz hP=>
  subst e
  refine⟨_,rfl,_,"tuple","tuple",rfl,by decide,by simp only[tyS,ht],_,rfl,z1f rfl ?_⟩
  refine⟨_,rfl,t,_,rfl,.inr (SqT.of ht),rfl,_,rfl,z1f rfl ?_⟩
  refine⟨_,rfl,t,_,0,_,rfl,rfl,SqT.of ht,rfl,a,T,rfl,hT,hz,_,rfl,?_⟩
  cases es:sgV a with
  |false=>
   rw[es,Bool.false_and]at q
   exact z5y (q _ (Same.refl _))
  |true=>
   rw[es,Bool.true_and]at q
   refine z3e ⟨_,rfl,t,_,1,_,rfl,rfl,SqT.of ht,rfl,b,k,rfl,hP,fun H1 s1=>q _ s1⟩
theorem W5:FnScope ["pairs","pics"] ["pairs"] (z03 z0U):=⟨rfl,rfl,rfl,by decide+kernel,rfl,by decide+kernel,by decide+kernel⟩
theorem z4d {f:Addr} {fd:FuncData} (D:Df K mg "pics_by_signs" z0U ["pairs"] f fd)
 {J6 J7 J4 J5:Addr} (Z:Cl K mg J6 J7 J4 J5)
 (JG:Ow P w K mg base "is_within" ["thing","least","most"] 2 z3p)
 (WU:Ow P w K mg base "is_pair" ["thing"] 6 zAa)
 (E_NoFont:Oo K mg "NoFont" J7) (B:Blt mg):
 Ow2 P w K mg base "pics_by_signs" ["pairs"] 7 z8B:=by
 refine D.ow2 (D.F.ok2 W5 (fun vs H Q E h=>?_) (fun cdv A outer s H vs Q E hr h=>?_))
 .obtain⟨l,us,Ss,hg,rfl,_⟩:=h
  rfl
 obtain⟨l,us,Ss,hg,rfl,PA,FO,q⟩:=h
 refine⟨_,(z04 (z0R (PW.pt (z2D (z0a (z0W (z07 z0n rfl B.f_isinstance boot_isinstance (z00 (pv 0) (z00 (z1K (v:=.ty "list") rfl B.f_list boot_list rfl) z02))))) (z1c (z0a (z0W (z0G JG hr rfl (z00 (z07 z0F rfl B.f_len boot_len (z00 (pv 0) z02)) (z00 z01 (z00 z01 z02))))))))) (z05 (z2J z31 rfl E_NoFont rfl (z00 z2X z02))) z0L)
  (z04 (z0R (z0a (z0W (z07 (z2L rfl) rfl B.f_all boot_all (z00 (z1L (locs:=["pair"]) (ix:=[]) rfl (BlkSc.look (dsc:=z03 z0U) (N:=["pairs","pics"]) rfl rfl (by decide+kernel)) (z1q (pv 0)) (fun _ _ _ _ _ _=>(z0K (i:=0) (by decide+kernel:(["pair"]:List Str).Nodup) rfl (Or.inl rfl))) (fun _ _ _ _ _ _=>z0h) (fun _ _ _ _ _ _=>(z0G WU hr rfl (z00 (pv 0) z02)))) z02)))) (z05 (z2J z31 rfl E_NoFont rfl (z00 z2X z02))) z0L)
  (z04 (z0B (i:=1) W5.nd rfl (Or.inl rfl) (z0w (z3X rfl) rfl B.f_dict boot_dict (z00 (pv 0) z02)))
  (z04 (z0R (z0N z41 (z07 z9X rfl B.f_len boot_len (z00 (pv 1) z02)) (z07 z0F rfl B.f_len boot_len (z00 (pv 0) z02)) (z0O _)) (z05 (z2J z31 rfl E_NoFont rfl (z00 z2X z02))) z0L)
  (z04 (z0R (z0a (z0W (z07 (z2L rfl) rfl B.f_all boot_all (z00 (zCz (z1L (locs:=["pic"]) (ix:=[0]) rfl (BlkSc.look (dsc:=z03 z0U) (N:=["pairs","pics"]) rfl rfl (by decide+kernel)) (zD0 (pv 1)) (fun _ _ _ _ _ _=>(z0K (i:=0) (by decide+kernel:(["pic","pairs"]:List Str).Nodup) rfl (Or.inl rfl))) (fun _ _ _ _ _ _=>z0h) (fun _ _ _ _ _ _=>(z1y z36 (z0C z1H (pv 0) z01 (fun _ _=>rfl)) (z0C z1H (z0C z1H (z0C z5C (pv 1) z01 (fun _ _=>rfl)) z01 (fun _ _=>rfl)) z01 (fun _ _=>rfl)) (z0O _))))) z02)))) (z05 (z2J z31 rfl E_NoFont rfl (z00 z2X z02))) z0L)
  (z05 (z0I (pv 1)))))))),?_⟩
 have hul:=PA.len
 have n1:=FO.n1
 have n2:=FO.n2
 obtain⟨ps,hpl,hps⟩:=PA.pics
 have h0:0<us.length:=by omega
 refine⟨_,rfl,_,"list","list",rfl,by decide,by simp only[tyS,PA.lst],_,rfl,z1f rfl ?_⟩
 refine⟨_,rfl,l,_,rfl,.inl (SqL.of PA.lst),?_⟩
 rw[List.length_map,hul]
 refine⟨_,_,_,"int",rfl,rfl,_,rfl,?_⟩
 have ein:inB (.int (Ss.length:Nat)) 1 60=true:=by
  show(decide ((1:Int)<=(Ss.length:Nat))&&decide (((Ss.length:Nat):Int)<=60))=true
  rw[decide_eq_true (by omega),decide_eq_true (by omega)]
  rfl
 rw[ein]
 refine z1f rfl ?_
 walk_at "rs"
 refine⟨⟨_,SqL.of PA.lst⟩,?_⟩
 refine z0i (n:=Ss.length) (fun i σ zs H2=>∃v,σ=[v]/\zs=(List.replicate i true).map V.bl/\Same H H2) ⟨none,rfl,rfl,Same.refl _⟩ (Nat.le_of_lt (z0H (by omega))) ?_ ?_ ?_ ?_ ?_
 .rintro i σ zs H2 ⟨v,_,rfl,_⟩
  rw[List.length_map,List.length_replicate]
 .rintro σ zs H2 ⟨v,_,_,s2⟩
  exact⟨_,SqL.of (s2 _ _ PA.lst),by rw[List.length_map,hul];exact Nat.le_refl _⟩
 .rintro i σ zs H2 hi ⟨v,_,_,s2⟩
  exact⟨_,.ref (us[i]'(by omega)),SqL.of (s2 _ _ PA.lst),by rw[List.getElem?_map,List.getElem?_eq_getElem (by omega)];rfl⟩
 .rintro i σ zs H2 x H' Z hi ⟨v,rfl,rfl,s2⟩ ⟨rfl,hx⟩ hZ
  have e:=hx _ (SqL.of (s2 _ _ PA.lst))
  rw[List.getElem?_map,List.getElem?_eq_getElem (by omega)]at e
  cases e
  have PR:=PA.at' i (us[i]'(by omega)) (Ss[i]'hi) (List.getElem?_eq_getElem _) (List.getElem?_eq_getElem hi)
  refine⟨_,rfl,_,true,rfl,(PR.mono s2).isPair (FO.sg _ (List.getElem_mem hi)),fun H3 s3=>?_⟩
  refine hZ _ _ _ ⟨_,rfl,?_,s2.trans s3⟩
  rw[List.replicate_succ',List.map_append]
  rfl
 rintro σ zs H2 ⟨v,rfl,rfl,s2⟩ lb nlb
 refine⟨lb,List.replicate Ss.length true,rfl,SqL.of upd_same,_,rfl,z1f (by simp) ?_⟩
 have s3:Same H (upd H2 lb (.lst ((List.replicate Ss.length true).map V.bl))):=s2.trans (Same.new nlb)
 generalize upd H2 lb (.lst ((List.replicate Ss.length true).map V.bl))=H3 at s3⊢
 have PA3:=PA.mono s3
 have kl:=z4K (Ss:=Ss) hpl
 have kp:=z7H FO hpl
 refine⟨_,rfl,l,us,kvF Ss ps,rfl,SqL.of PA3.lst,by rw[kl,hul],?_,fun i t k v e1 e2=>?_,fun d nd=>?_⟩
 .rw[kp,kl]
  exact Nat.le_of_lt (z0H (by omega))
 .have hi:i<Ss.length:=by
   rw[<-hul]
   exact(List.getElem?_eq_some_iff.mp e1).1
  rw[z6N hpl hi]at e2
  cases e2
  exact s3 _ _ (hps i t _ _ e1 (List.getElem?_eq_getElem hi) (List.getElem?_eq_getElem (by omega))).1
 rw[kp]
 have s4:Same H3 (upd H3 d (.dK (kvF Ss ps))):=Same.new nd
 have g4:(upd H3 d (.dK (kvF Ss ps))) d=some (.dK (kvF Ss ps)):=upd_same
 generalize upd H3 d (.dK (kvF Ss ps))=H4 at s4 g4
 have PA4:=PA3.mono s4
 refine⟨_,rfl,d,_,rfl,g4,_,rfl,l,_,rfl,.inl (SqL.of PA4.lst),?_⟩
 rw[List.length_map,hul,kl]
 walk_at "rs"
 refine zBD (fun n=>absurd rfl n) (fun _=>?_)
 have t4:=s3.trans s4
 have nd0:H d=none:=s3.free nd
 obtain⟨t0,e0,PR0,a0⟩:=PA4.get (i:=0) (by omega)
 obtain⟨p0,f0,PC0,R0⟩:=PR0
 obtain⟨pp0,pm0,k01,_,_⟩:=id PC0
 have R0l:=R0.len
 walk_at "rs"
 refine⟨d,kvF Ss ps,g4,_,rfl,d,_,rfl,g4,fun ob=>?_⟩
 have o5:∀b o,b≠d->H4 b=some o->(upd H4 d (.frz ob (.dK (kvF Ss ps)))) b=some o:=fun b o nb e=>(z06 nb).trans e
 have tp5:∀{b:Addr} {xs:List V},H4 b=some (.tup xs)->(upd H4 d (.frz ob (.dK (kvF Ss ps)))) b=some (.tup xs):=fun{b xs} e=>o5 b _ (z2C e g4 fun z=>nomatch z) e
 have ls5:(upd H4 d (.frz ob (.dK (kvF Ss ps)))) l=some (.lst (us.map V.ref)):=o5 l _ (z2C PA4.lst g4 fun z=>nomatch z) PA4.lst
 have fz5:(upd H4 d (.frz ob (.dK (kvF Ss ps)))) d=some (.frz ob (.dK (kvF Ss ps))):=upd_same
 have sm5:Same H (upd H4 d (.frz ob (.dK (kvF Ss ps)))):=t4.put nd0
 generalize upd H4 d (.frz ob (.dK (kvF Ss ps)))=H5 at o5 tp5 ls5 fz5 sm5
 refine z0i (n:=Ss.length) (fun i σ zs H6=>∃v,σ=[v,some (.ref l)]/\zs=(List.replicate i true).map V.bl/\H6=H5) ⟨none,rfl,rfl,rfl⟩ (Nat.le_of_lt (z0H (by omega))) ?_ ?_ ?_ ?_ ?_
 .rintro i σ zs H6 ⟨v,_,rfl,_⟩
  rw[List.length_map,List.length_replicate]
 .rintro σ zs H6 ⟨v,_,_,rfl⟩
  exact⟨fz5,by rw[kl];exact Nat.le_refl _⟩
 .rintro i σ zs H6 hi ⟨v,_,_,rfl⟩
  exact⟨fz5,by rw[kl];exact hi⟩
 .rintro i σ zs H6 x H' Z hi ⟨v,rfl,rfl,rfl⟩ ⟨rfl,k,hx⟩ hZ
  rw[z6N hpl hi]at hx
  cases hx
  obtain⟨_,PCi,Ri⟩:=hps i (us[i]'(by omega)) (Ss[i]'hi) (ps[i]'(by omega)) (List.getElem?_eq_getElem _) (List.getElem?_eq_getElem hi) (List.getElem?_eq_getElem _)
  obtain⟨ppi,pmi,ki,_,_⟩:=PCi
  have Ril:=Ri.len
  refine⟨_,rfl,ps[i]'(by omega),_,1,_,rfl,rfl,SqT.of (tp5 (t4 _ _ ki)),rfl,?_⟩
  refine⟨_,rfl,l,_,0,_,rfl,rfl,SqL.of ls5,a0,t0,_,1,_,rfl,rfl,SqT.of (tp5 f0),rfl,p0,_,1,_,rfl,rfl,SqT.of (tp5 k01),rfl,?_⟩
  walk_at "rs"
  refine hZ _ _ _ ⟨_,rfl,?_,rfl⟩
  rw[List.replicate_succ',List.map_append,Ril,R0l,decide_eq_true rfl]
  rfl
 .rintro σ zs H6 ⟨v,rfl,rfl,rfl⟩ lc nlc
  have ncd:lc≠d:=fun e=>by rw[e,fz5]at nlc;cases nlc
  refine⟨ob,(z06 (Ne.symm ncd)).trans fz5,?_⟩
  refine⟨lc,List.replicate Ss.length true,rfl,SqL.of ((z06 ncd).trans upd_same),_,rfl,z1f (by simp) ?_⟩
  have nlc0:H lc=none:=sm5.free nlc
  refine⟨_,rfl,?_⟩
  have s7:Same H (upd (upd H6 lc (.lst ((List.replicate Ss.length true).map V.bl))) d (.dK (kvF Ss ps))):=(sm5.put nlc0).put nd0
  refine q d _ s7 nd0 ⟨ps,hpl,upd_same,fun i S p e1 e2=>?_⟩
  have hi:i<us.length:=by
   rw[hul]
   exact(List.getElem?_eq_some_iff.mp e1).1
  exact(hps i _ S p (List.getElem?_eq_getElem hi) e1 e2).2.1.mono s7
theorem z7a:FnScope ["self","pairs","gap"] ["self","pairs","gap"] (z03 z1w):=⟨rfl,rfl,rfl,by decide+kernel,rfl,by decide+kernel,by decide+kernel⟩
theorem z7b {f:Addr} {fd:FuncData} {T:Addr}
 {J0 J3:Addr} (Zo:Co K mg J0 J3)
 {J6 J7 J4 J5:Addr} (Z:Cl K mg J6 J7 J4 J5)
 (JG:Ow P w K mg base "is_within" ["thing","least","most"] 2 z3p)
 (Jn:Ow2 P w K mg base "pics_by_signs" ["pairs"] 7 z8B)
 (E_NoFont:Oo K mg "NoFont" J7) (D:FunD K "__init__" "Font.__init__" z1w f fd T) (B:Blt mg):
 FnOk P w K mg base (CX2 P w) 8 f fd ["self","pairs","gap"] (z7F J3):=by
 refine D.ok2 z7a (fun vs H Q E h=>?_) (fun cdv A outer s H vs Q E hr h=>?_)
 .obtain⟨x,dx,l,us,Ss,hg,gap,rfl,_⟩:=h
  rfl
 obtain⟨x,dx,l,us,Ss,hg,gap,rfl,hx,PA,FO,g0,g1,q⟩:=h
 refine⟨_,(z04 (z0R (z0a (z0W (z0G JG hr rfl (z00 (pv 2) (z00 z01 (z00 z01 z02)))))) (z05 (z2J z31 rfl E_NoFont rfl (z00 z2X z02))) z0L)
  (z04 (z2Y (pv 0) (z5O Jn hr z5N rfl (z00 (pv 1) z02)) rfl)
  (z04 (z2Y (pv 0) (z0C ix_tup (z0C ix_tup (z0C ix_list (pv 1) z01 (fun _ _=>rfl)) z01 (fun _ _=>rfl)) z01 (fun _ _=>rfl)) rfl)
  (z05 (z2Y (pv 0) (pv 2) rfl))))),?_⟩
 have ein:inB (.int gap) 0 8=true:=by
  show(decide ((0:Int)<=gap)&&decide (gap<=8))=true
  rw[decide_eq_true g0,decide_eq_true g1]
  rfl
 refine⟨_,rfl,_,_,_,"int",rfl,rfl,_,rfl,?_⟩
 rw[ein]
 refine z1f rfl ?_
 obtain⟨p0,f0,PC0,R0⟩:=PA.at' 0 _ _ (List.getElem?_eq_getElem (show 0<us.length by have:=PA.len;have:=FO.n1;omega)) (List.getElem?_eq_getElem (show 0<Ss.length by have:=FO.n1;omega))
 obtain⟨t0,e0,_,a0⟩:=PA.get (i:=0) (by have:=FO.n1;omega)
 rw[List.getElem?_eq_getElem (show 0<us.length by have:=PA.len;have:=FO.n1;omega)]at e0
 cases e0
 obtain⟨pp0,pm0,k01,_,_⟩:=id PC0
 have R0l:=R0.len
 refine⟨_,rfl,l,us,Ss,hg,rfl,PA,FO,fun d H1 s1 nd PK=>?_⟩
 refine⟨_,rfl,x,J3,dx,[],rfl,s1 _ _ hx,Zo.k_Font,Zo.n_Font_pics,by decide,?_⟩
 have o2:∀b o,b≠x->H1 b=some o->(upd H1 x (.ins J3 dx (z43 "pics" (.ref d) []))) b=some o:=fun b o nb e=>(z06 nb).trans e
 have x2:(upd H1 x (.ins J3 dx (z43 "pics" (.ref d) []))) x=some (.ins J3 dx [("pics",.ref d)]):=upd_same
 generalize upd H1 x (.ins J3 dx (z43 "pics" (.ref d) []))=H2 at o2 x2
 have nt:∀{b:Addr} {xs:List V},H b=some (.tup xs)->H2 b=some (.tup xs):=fun{b xs} e=>o2 b _ (z2C e hx fun z=>nomatch z) (s1 _ _ e)
 have nl:H2 l=some (.lst (us.map V.ref)):=o2 l _ (z2C PA.lst hx fun z=>nomatch z) (s1 _ _ PA.lst)
 refine⟨_,rfl,l,_,0,_,rfl,rfl,SqL.of nl,a0,_,_,1,_,rfl,rfl,SqT.of (nt f0),rfl,p0,_,1,_,rfl,rfl,SqT.of (nt k01),rfl,?_⟩
 refine⟨_,rfl,x,J3,dx,_,rfl,x2,Zo.k_Font,Zo.n_Font_high,(by show 1<1000;decide),?_⟩
 refine⟨_,rfl,_,rfl,x,J3,dx,_,rfl,upd_same,Zo.k_Font,Zo.n_Font_gap,(by show 2<1000;decide),?_⟩
 rw[z2K,R0l]
 refine q _ (fun b o nb e=>(z06 nb).trans (o2 b o nb (s1 _ _ e))) ⟨dx,d,upd_same,?_⟩
 obtain⟨ps,a,b,c⟩:=PK
 have ot:∀{b':Addr} {o:HO},H1 b'=some o->b'≠x->(upd H2 x (.ins J3 dx (z43 "gap" (.int gap) (z43 "high" (.int hg) [("pics",.ref d)])))) b'=some o:=fun{b' o} e nb=>(z06 nb).trans (o2 b' o nb e)
 have nx:=s1 _ _ hx
 refine⟨ps,a,ot b (z2C b nx fun z=>nomatch z),fun i S p g1 g2=>?_⟩
 obtain⟨pp,pm,k1,k2,k3⟩:=c i S p g1 g2
 exact⟨pp,pm,ot k1 (z2C k1 nx fun z=>nomatch z),ot k2 (z2C k2 nx fun z=>nomatch z),ot k3 (z2C k3 nx fun z=>nomatch z)⟩
theorem Jo:FnScope ["self","text","at","sign"] ["self","text"] (z03 z1A):=⟨rfl,rfl,rfl,by decide+kernel,rfl,by decide+kernel,by decide+kernel⟩
theorem z5W {f:Addr} {fd:FuncData}
 {J0 J3:Addr} (Zo:Co K mg J0 J3)
 {J6 J7 J4 J5:Addr} (Z:Cl K mg J6 J7 J4 J5)
 (E_NoSign:Oe P w K mg base "NoSign" J4 ["self","sign","at"] 1 (zE6 J4 "sign" "at")) (D:Fun K "pics_of" "Font.pics_of" z1A f fd) (B:Blt mg):
 FnOk P w K mg base (CX2 P w) 3 f fd ["self","text"] (z3I J3 J4):=by
 refine D.ok2 Jo (fun vs H Q E h=>?_) (fun cdv A outer s H vs Q E hr h=>?_)
 .obtain⟨x,z,Ss,hg,gap,rfl,_⟩:=h
  rfl
 obtain⟨x,z,Ss,hg,gap,rfl,FAt,FO,hz,hI,q1,q2⟩:=h
 refine⟨_,(z04 (z1S PassesOwn.leaving rfl (zBX rfl B.f_enumerate (z00 (pv 1) z02)) (z5n (n:=2) rfl (z0b (z0K (i:=2) Jo.nd rfl (Or.inl rfl)) (z0b (z0K (i:=3) Jo.nd rfl (Or.inl rfl)) z2d))) (z05 (z0R (zDG (z9U (z8V hr) (pv 3) (z0d (pv 0) rfl))) (z05 (zAO z31 rfl E_NoSign hr rfl (z00 (pv 3) (z00 (pv 2) z02)))) z0L)))
  (z05 (z0I (z1L (locs:=["sign"]) (ix:=[0]) rfl (BlkSc.look (dsc:=z03 z1A) (N:=["self","text","at","sign"]) rfl rfl (by decide+kernel)) (zDp (pv 1)) (fun _ _ _ _ _ _=>(z0K (i:=0) (by decide+kernel:(["sign","self"]:List Str).Nodup) rfl (Or.inl rfl))) (fun _ _ _ _ _ _=>z0h) (fun _ _ _ _ _ _=>(zBZ (z8V hr) (zD1 (pv 1) rfl) (pv 0) (fun _ _=>rfl))))))),?_⟩
 obtain⟨dx,d,fx,ps,hpl,hd,hps⟩:=id FAt
 have hd:H d=some (.dK (kvF Ss ps)):=hd
 have hzs:z.cps.size=z.cps.toList.length:=by simp
 have hzl:z.cps.size<=1000:=hz
 have lp:([("pics",V.ref d),("high",V.int hg),("gap",V.int gap)]:List (Str × V)).lookup ("pics":Str)=some (V.ref d):=rfl
 have raise0:∀H2,Same H H2->∀(c i:Nat),c∈sgnL->i<=1000->firstBad Ss z.cps.toList 0=some (c,i)->∀y,H2 y=none->zE6 J4 "sign" "at" [.ref y,.str (one c),.int (i:Nat)] (upd H2 y (.ext (ErrO y J4 none))) (fun v H3=>v=.non/\∃d,H3 y=some (.ext (ErrO y J4 d))/\E (.ref J4) d (del H3 y)) E0:=fun H2 s2 c i hc hi hb y ny=>
  ⟨y,one c,.int (i:Nat),rfl,upd_same,zD2 c hc,(by
   show(i:Int).natAbs.log2<1920
   rw[Int.natAbs_natCast]
   have:=Nat.log2_le_self i
   omega),fun d nd hd=>by
   obtain⟨g1,g2,g3⟩:=z8f (fs:=[("at",.int (i:Nat)),("sign",.str (one c))]) ny nd hd
   exact⟨rfl,some d,g1,q2 c i d _ hb (s2.trans g2) g3⟩⟩
 refine⟨_,rfl,z,rfl,?_⟩
 refine zAT (z:=z) (fun i σ H2=>∃v w,σ=[some (.ref x),some (.str z),v,w]/\Same H H2/\∀c∈z.cps.toList.take i,known Ss c=true) ⟨none,none,rfl,Same.refl _,fun c hc=>nomatch hc⟩ ?_ ?_
 .rintro i c σ H2 T hc ⟨v,w,rfl,s2,hk⟩ nT
  have hc':z.cps.toList[i]?=some c:=by rw[Array.getElem?_toList];exact hc
  have hil:i<z.cps.size:=(Array.getElem?_eq_some_iff.mp hc).1
  have s3:=s2.trans (Same.new (o:=.tup [.int i,.str ⟨#[c]⟩]) nT)
  refine⟨T,_,rfl,SqT.of upd_same,rfl,_,_,rfl,_,_,rfl,rfl,?_⟩
  refine⟨_,rfl,_,rfl,x,J3,dx,_,_,rfl,s3 _ _ fx,Zo.k_Font,Zo.n_Font_pics,lp,d,_,rfl,DGet.k (k:=Sum.inr (one c)) (s3 _ _ hd),?_⟩
  rw[z7I c hpl]
  cases ek:known Ss c with
  |false=>
   refine⟨_,rfl,z3e ?_⟩
   have hb:=z2P (i:=0) hk hc' ek
   rw[Nat.zero_add]at hb
   exact⟨_,rfl,_,rfl,(by show 2<=1000;decide),raise0 _ s3 c i (hI c (List.mem_of_getElem? hc')) (by omega) hb⟩
  |true=>
   refine⟨_,rfl,z5y ⟨_,_,rfl,s3,fun d' hd'=>?_⟩⟩
   rw[List.take_succ,hc']at hd'
   rcases List.mem_append.mp hd' with y|y
   .exact hk d' y
   .rw[show d'=c by simpa using y]
    exact ek
 .rintro σ H2 ⟨v,w,rfl,s2,hk⟩
  rw[hzs,List.take_length]at hk
  have hb:firstBad Ss z.cps.toList 0=none:=z1F hk
  have fx2:=s2 _ _ fx
  have hd2:=s2 _ _ hd
  refine⟨_,rfl,z,rfl,?_⟩
  refine z0i (n:=z.cps.size) (fun i σ zs H3=>∃v,σ=[v,some (.ref x)]/\H3=H2/\∃qs:List Addr,qs.length=i/\zs=qs.map V.ref/\∀(j:Nat) p c,qs[j]?=some p->z.cps.toList[j]?=some c->∃S∈Ss,S.c=c/\PicAt H p S.w S.rows) ⟨none,rfl,rfl,[],rfl,rfl,fun j p c e=>by simp at e⟩ (Nat.le_of_lt (z0H hzl)) ?_ ?_ ?_ ?_ ?_
  .rintro i σ zs H3 ⟨_,_,_,qs,e,rfl,_⟩
   rw[List.length_map,e]
  .intro σ zs H3 _
   exact Nat.le_refl _
  .intro i σ zs H3 hi _
   exact hi
  .rintro i σ zs H3 y H' Z hi ⟨v,rfl,rfl,qs,hq,rfl,hqs⟩ ⟨rfl,c,hc,rfl⟩ hZ
   have hc':z.cps.toList[i]?=some c:=by rw[Array.getElem?_toList];exact hc
   obtain⟨j,S,p,e1,e2,e3,e4⟩:=zAW hpl (hk c (List.mem_of_getElem? hc'))
   refine⟨_,rfl,x,J3,dx,_,_,rfl,fx2,Zo.k_Font,Zo.n_Font_pics,lp,_,rfl,d,.ref p,rfl,?_,?_⟩
   .have g:=DGet.k (k:=Sum.inr (one c)) hd2
    rw[e4]at g
    exact g
   .refine hZ _ _ _ ⟨_,rfl,rfl,qs++[p],by rw[List.length_append,hq];rfl,by rw[List.map_append];rfl,fun m p' c' g1 g2=>?_⟩
    by_cases hm:m<qs.length
    .rw[List.getElem?_append_left hm]at g1
     exact hqs m p' c' g1 g2
    .rw[List.getElem?_append_right (by omega)]at g1
     cases hk':m-qs.length with
     |zero=>
      rw[hk']at g1
      cases g1
      have em:m=i:=by omega
      rw[em,hc']at g2
      cases g2
      exact⟨S,List.mem_of_getElem? e1,e3,hps j S p e1 e2⟩
     |succ n=>
      rw[hk']at g1
      cases g1
  .rintro σ zs H3 ⟨v,rfl,rfl,qs,hq,rfl,hqs⟩ l nl
   refine q1 hb l _ (s2.trans (Same.new nl)) (s2.free nl) ⟨qs,by rw[hq,hzs],upd_same,fun j p c e1 e2=>?_⟩
   obtain⟨S,a,b,e⟩:=hqs j p c e1 e2
   exact⟨S,a,b,e.mono (s2.trans (Same.new nl))⟩
theorem JU:FnScope ["self","text","x","wide","told","at","pic"] ["self","text","x","wide"] (z03 z1x):=⟨rfl,rfl,rfl,by decide+kernel,rfl,by decide+kernel,by decide+kernel⟩
theorem z7c {f:Addr} {fd:FuncData}
 {J0 J3:Addr} (Zo:Co K mg J0 J3)
 {J6 J7 J4 J5:Addr} (Z:Cl K mg J6 J7 J4 J5)
 (JH:Owd P w K mg base "filled" ["wide","high","cell"] [.non] 2 z39)
 (WV:Owd P w K mg base "laid" ["under","over","x","y"] [.int 0] 4 zA4)
 (JC:Om P w K mg base (CX2 P w) J3 "pics_of" ["self","text"] [] 3 (z3I J3 J4)) (D:Fun K "band" "Font.band" z1x f fd) (B:Blt mg):
 FnOk P w K mg base (CX2 P w) 5 f fd ["self","text","x","wide"] (zAf J3 J4):=by
 refine D.ok2 JU (fun vs H Q E h=>?_) (fun cdv A outer s H vs Q E hr h=>?_)
 .obtain⟨f,z,x,w,Ss,hg,gap,rfl,_⟩:=h
  rfl
 obtain⟨fo,z,x,wd,Ss,hg,gap,rfl,FAt,FO,h1,h2,hz,hI,w1,w2,q1,q2⟩:=h
 refine⟨_,(z04 (z0B (i:=4) JU.nd rfl (Or.inl rfl) (z5G JH hr rfl (z00 (pv 3) (z00 (z0d (pv 0) rfl) z02))))
  (z04 (z0B (i:=5) JU.nd rfl (Or.inl rfl) (z2x z2F (pv 2)))
  (z04 (z1S PassesOwn.leaving rfl (z1q (z4a JC hr z5N (pv 0) (z00 (pv 1) z02))) (z0K (i:=6) JU.nd rfl (Or.inl rfl)) (z04 (z0R (z2l z37 z37 (z2x z2F (z0C ix_tup (pv 6) z01 (fun _ _=>rfl))) (pv 5) (pv 3)) (z05 (z0B (i:=4) JU.nd rfl (Or.inl rfl) (z5G WV hr rfl (z00 (pv 4) (z00 (pv 6) (z00 (pv 5) z02)))))) z0L)
  (z05 (z0B (i:=5) JU.nd rfl (Or.inl rfl) (z08 z0P (z08 z0P (pv 5) (z0C ix_tup (pv 6) z01 (fun _ _=>rfl))) (z0d (pv 0) rfl))))))
  (z05 (z0I (pv 4)))))),?_⟩
 refine L2.hold fun _ hB'=>?_
 obtain⟨dx,d,fx,_⟩:=id FAt
 obtain⟨_,fs',fx',l1,l2,l3,l4⟩:=FAt.ins
 rw[fx]at fx'
 cases fx'
 have lh:([("pics",V.ref d),("high",V.int hg),("gap",V.int gap)]:List (Str × V)).lookup ("high":Str)=some (V.int hg):=rfl
 have lg:([("pics",V.ref d),("high",V.int hg),("gap",V.int gap)]:List (Str × V)).lookup ("gap":Str)=some (V.int gap):=rfl
 have ezl:z.length=z.cps.toList.length:=(Array.length_toList).symm
 walk_at "rs"
 refine⟨fo,J3,dx,_,_,rfl,fx,Zo.k_Font,Zo.n_Font_high,lh,?_⟩
 refine⟨wd,(hg:Int),none,rfl,w1,w2,by omega,by omega,(fun _ e=>nomatch e),fun p0 H1 s1 PC1=>?_⟩
 rw[Int.toNat_natCast,<-zAc Ss hg gap z.cps.toList x wd.toNat]at PC1
 walk_at "rs"
 refine⟨fo,dx,_,rfl,s1 _ _ fx,l4,_,rfl,fo,z,Ss,hg,gap,rfl,FAt.mono s1,FO,hz,hI,fun hb l H2 s2 nl PO=>?_,fun c i d' H2 hb s2 hd=>q2 c i d' H2 hb (s1.trans s2) hd⟩
 obtain⟨qs,hql,gl,hqs⟩:=PO
 have hk:∀c∈z.cps.toList,known Ss c=true:=fun c hc=>by
  cases e:known Ss c with
  |true=>rfl
  |false=>
   obtain⟨c',j,e'⟩:=z2O (i:=0) ⟨c,hc,e⟩
   rw[hb]at e'
   cases e'
 refine⟨l,rfl,⟨_,SqL.of gl⟩,?_⟩
 refine z3m (K:=K) (a:=l) (xs:=qs.map V.ref) (fun i σ H3=>Same H2 H3/\i<=qs.length/\∃p v6,σ=[some (.ref fo),some (.str z),some (.int x),some (.int wd),some (.ref p),some (.int (z3w Ss gap z.cps.toList i-x)),v6]/\PicAt H3 p wd.toNat (z32 Ss hg gap z.cps.toList x wd.toNat i)) ⟨Same.refl _,Nat.zero_le _,p0,none,by rw[z6O,Int.zero_sub];rfl,PC1.mono s2⟩ (fun i σ H3 _ ⟨s3,_⟩=>SqL.of (s3 _ _ gl)) ?_ ?_
 .rintro i v σ H3 hi ⟨s3,_,p,v6,rfl,PC3⟩
  have hil:i<qs.length:=by
   have:=(List.getElem?_eq_some_iff.mp hi).1
   rwa [List.length_map]at this
  rw[List.getElem?_map,List.getElem?_eq_getElem hil]at hi
  cases hi
  have hc:z.cps.toList[i]?=some (z.cps.toList[i]'(by omega)):=List.getElem?_eq_getElem (by omega)
  generalize z.cps.toList[i]'(by omega)=c at hc
  obtain⟨S,hS,ec,PS⟩:=hqs i (qs[i]'hil) c (List.getElem?_eq_getElem hil) hc
  have eS:=zAb FO hS
  rw[ec]at eS
  have R:=FO.rect S hS
  have PS3:=PS.mono s3
  obtain⟨pp,pm,k1,_,_⟩:=id PS3
  have es:=z6P (Ss:=Ss) (gap:=gap) hc
  rw[eS]at es
  have fx3:=s3 _ _ (s2 _ _ (s1 _ _ fx))
  have eo:z3w Ss gap z.cps.toList i-x+(S.w:Int)+gap=z3w Ss gap z.cps.toList (i+1)-x:=by rw[es];omega
  have skip:(z3w Ss gap z.cps.toList i-x<= -(S.w:Int)\/wd<=z3w Ss gap z.cps.toList i-x)->z32 Ss hg gap z.cps.toList x wd.toNat (i+1)=z32 Ss hg gap z.cps.toList x wd.toNat i:=fun h=>zAd hc (by rw[eS];omega)
  have ew:((wd.toNat:Nat):Int)=wd:=by omega
  walk_at "rs"
  refine⟨qs[i]'hil,_,0,_,rfl,rfl,SqT.of k1,rfl,?_⟩
  walk_at "rs"
  refine z29 (fun c1=>?_) (fun c1=>?_)
  .walk_at "rs"
   refine z29 (fun c2=>?_) (fun c2=>?_)
   .walk_at "rs"
    refine⟨p,qs[i]'hil,_,0,_,_,_,_,_,_,rfl,PC3,z3L FO h1 h2 gap hk x (by omega) (by omega) i,PS3,R,fun p' H4 s4 PC4=>?_⟩
    have eb:=zBf FO h1 h2 gap hk x (w:=wd.toNat) (by omega) (by omega) hc
    rw[eS]at eb
    rw[eb]at PC4
    walk_at "rs"
    refine⟨qs[i]'hil,_,0,_,rfl,rfl,SqT.of (s4 _ _ k1),rfl,?_⟩
    walk_at "rs"
    refine⟨fo,J3,dx,_,_,rfl,s4 _ _ fx3,Zo.k_Font,Zo.n_Font_gap,lg,?_⟩
    walk_at "rs"
    refine⟨s3.trans s4,hil,p',some (.ref (qs[i]'hil)),?_,PC4⟩
    rw[<-eo]
    rfl
   .walk_at "rs"
    refine⟨qs[i]'hil,_,0,_,rfl,rfl,SqT.of k1,rfl,?_⟩
    walk_at "rs"
    refine⟨fo,J3,dx,_,_,rfl,fx3,Zo.k_Font,Zo.n_Font_gap,lg,?_⟩
    walk_at "rs"
    refine⟨s3,hil,p,some (.ref (qs[i]'hil)),?_,by rw[skip (by omega)];exact PC3⟩
    rw[<-eo]
    rfl
  .refine⟨_,rfl,z5y ?_⟩
   walk_at "rs"
   refine⟨qs[i]'hil,_,0,_,rfl,rfl,SqT.of k1,rfl,?_⟩
   walk_at "rs"
   refine⟨fo,J3,dx,_,_,rfl,fx3,Zo.k_Font,Zo.n_Font_gap,lg,?_⟩
   walk_at "rs"
   refine⟨s3,hil,p,some (.ref (qs[i]'hil)),?_,by rw[skip (by omega)];exact PC3⟩
   rw[<-eo]
   rfl
 .rintro σ H3 ⟨s3,_,p,v6,rfl,PC3⟩
  rw[List.length_map,hql,<-ezl]at PC3
  walk_at "rs"
  exact q1 hb p H3 ((s1.trans s2).trans s3) PC3
theorem z5X:FnScope ["self"] ["self"] (z03 z1X):=⟨rfl,rfl,rfl,by decide+kernel,rfl,by decide+kernel,by decide+kernel⟩
theorem z5Y {f:Addr} {fd:FuncData}
 {J0 J3:Addr} (Zo:Co K mg J0 J3) (D:Fun K "height" "Font.height" z1X f fd) (B:Blt mg):
 FnOk P w K mg base CX0 1 f fd ["self"] (z3J J3):=by
 refine D.ok z5X (fun vs H Q E h=>?_) (fun cdv A outer s H vs Q E hr h=>?_)
 .obtain⟨x,Ss,hg,gap,rfl,_⟩:=h
  rfl
 obtain⟨fo,Ss,hg,gap,rfl,FAt,q⟩:=h
 refine⟨_,(z05 (z0I (z0d (pv 0) rfl))),?_⟩
 obtain⟨dx,d,fx,_⟩:=id FAt
 have lh:([("pics",V.ref d),("high",V.int hg),("gap",V.int gap)]:List (Str × V)).lookup ("high":Str)=some (V.int hg):=rfl
 walk_at "rs"
 exact⟨fo,J3,dx,_,_,rfl,fx,Zo.k_Font,Zo.n_Font_high,lh,q⟩
theorem WJ:FnScope ["font","lines","line"] ["font","lines"] (z03 z0z):=⟨rfl,rfl,rfl,by decide+kernel,rfl,by decide+kernel,by decide+kernel⟩
theorem z5Z {f:Addr} {fd:FuncData} (D:Df K mg "check_lines" z0z ["font","lines"] f fd)
 {J0 J3:Addr} (Zo:Co K mg J0 J3)
 {J6 J7 J4 J5:Addr} (Z:Cl K mg J6 J7 J4 J5)
 (JC:Om P w K mg base (CX2 P w) J3 "pics_of" ["self","text"] [] 3 (z3I J3 J4)) (B:Blt mg):
 Ow2 P w K mg base "check_lines" ["font","lines"] 4 (z7L J3 J4):=by
 refine D.ow2 (D.F.ok2 WJ (fun vs H Q E h=>?_) (fun cdv A outer s H vs Q E hr h=>?_))
 .obtain⟨f,l,zs,Ss,hg,gap,rfl,_⟩:=h
  rfl
 obtain⟨fo,l,zs,Ss,hg,gap,rfl,FAt,FO,hl,hz,q1,q2⟩:=h
 refine⟨_,(z05 (z1S PassesOwn.leaving rfl (z1q (pv 1)) (z0K (i:=2) WJ.nd rfl (Or.inl rfl)) (z05 (z0e (z4a JC hr z5N (pv 0) (z00 (pv 2) z02)))))),?_⟩
 obtain⟨dx,fs',fx,k1,k2,k3,k4⟩:=FAt.ins
 walk_at "rs"
 refine⟨⟨_,SqL.of hl⟩,?_⟩
 refine z3m (K:=K) (a:=l) (xs:=zs.map V.str) (fun i σ H2=>Same H H2/\(∀y∈zs.take i,firstBad Ss y.cps.toList 0=none)/\∃v2,σ=[some (.ref fo),some (.ref l),v2]) ⟨Same.refl _,(fun _ h=>by simp at h),none,rfl⟩ (fun i σ H2 _ h=>SqL.of (h.1 _ _ hl)) ?_ ?_
 .rintro i v σ H2 hi ⟨s2,hb,v2,rfl⟩
  have hil:i<zs.length:=by
   have:=(List.getElem?_eq_some_iff.mp hi).1
   rwa [List.length_map]at this
  rw[List.getElem?_map,List.getElem?_eq_getElem hil]at hi
  cases hi
  have hzi:=hz _ (List.getElem_mem hil)
  walk_at "rs"
  refine⟨fo,dx,_,rfl,s2 _ _ fx,k4,_,rfl,fo,zs[i],Ss,hg,gap,rfl,FAt.mono s2,FO,hzi.1,hzi.2,fun hn l' H3 s3 nl PO=>?_,fun c j d H3 hn s3 hd=>?_⟩
  .refine⟨s2.trans s3,fun y hy=>?_,_,rfl⟩
   rw[List.take_succ,List.getElem?_eq_getElem hil]at hy
   rcases List.mem_append.mp hy with hy|hy
   .exact hb y hy
   .have e:y=zs[i]:=by simpa using hy
    rw[e]
    exact hn
  .exact q2 c j d H3 (z3h hb (List.getElem?_eq_getElem hil) hn) (s2.trans s3) hd
 .rintro σ H2 ⟨s2,hb,v2,rfl⟩
  rw[List.length_map,List.take_length]at hb
  exact q1 (List.findSome?_eq_none_iff.mpr hb) H2 s2
theorem zBo:FnScope ["font","lead","at"] ["font","lead","at"] (z03 z34):=⟨rfl,rfl,rfl,by decide+kernel,rfl,by decide+kernel,by decide+kernel⟩
theorem zBp {f:Addr} {fd:FuncData} (D:Df K mg "top_of" z34 ["font","lead","at"] f fd)
 {J0 J3:Addr} (Zo:Co K mg J0 J3)
 (JD:Om P w K mg base CX0 J3 "height" ["self"] [] 1 (z3J J3)) (B:Blt mg):
 Ow P w K mg base "top_of" ["font","lead","at"] 2 (z7M J3):=by
 refine D.ow (D.F.ok zBo (fun vs H Q E h=>?_) (fun cdv A outer s H vs Q E hr h=>?_))
 .obtain⟨f,lead,at',Ss,hg,gap,rfl,_⟩:=h
  rfl
 obtain⟨fo,lead,at',Ss,hg,gap,rfl,FAt,h2,l0,l1,a0,a1,q⟩:=h
 refine⟨_,(z05 (z0I (z08 z0s (pv 2) (z08 z0P (z6J JD hr z5x (pv 0)) (pv 1))))),?_⟩
 obtain⟨dx,fs',fx,k1,k2,k3,k4⟩:=FAt.ins
 walk_at "rs"
 refine⟨fo,dx,_,rfl,fx,k2,fo,Ss,hg,gap,rfl,FAt,?_⟩
 walk_at "rs"
 exact q
theorem Jt:FnScope ["font","lines","lead","x","y","wide","high","told","at","line","top"] ["font","lines","lead","x","y","wide","high"] (z03 z4P):=⟨rfl,rfl,rfl,by decide+kernel,rfl,by decide+kernel,by decide+kernel⟩
theorem zD8 {f:Addr} {fd:FuncData} (D:Df K mg "view" z4P ["font","lines","lead","x","y","wide","high"] f fd)
 {J0 J3:Addr} (Zo:Co K mg J0 J3)
 {J6 J7 J4 J5:Addr} (Z:Cl K mg J6 J7 J4 J5)
 (JH:Owd P w K mg base "filled" ["wide","high","cell"] [.non] 2 z39)
 (Wb:Ow P w K mg base "laid" ["under","over","x","y"] 4 zA4)
 (JN:Ow2 P w K mg base "check_lines" ["font","lines"] 4 (z7L J3 J4))
 (Ju:Ow P w K mg base "top_of" ["font","lead","at"] 2 (z7M J3))
 (JD:Om P w K mg base CX0 J3 "height" ["self"] [] 1 (z3J J3))
 (WB:Om P w K mg base (CX2 P w) J3 "band" ["self","text","x","wide"] [] 5 (zAf J3 J4)) (B:Blt mg):
 Ow2 P w K mg base "view" ["font","lines","lead","x","y","wide","high"] 6 (zCG J3 J4):=by
 refine D.ow2 (D.F.ok2 Jt (fun vs H Q E h=>?_) (fun cdv A outer s H vs Q E hr h=>?_))
 .obtain⟨f,l,zs,Ss,hg,gap,lead,x,y,w,h,rfl,_⟩:=h
  rfl
 obtain⟨fo,l,zs,Ss,hg,gap,lead,x,y,wd,hh,rfl,FAt,FO,g1,g2,hl,hn,hz,l0,l1,w1,w2,h1,h2,q1,q2⟩:=h
 refine⟨_,(z04 (z0e (z5O JN hr z5N rfl (z00 (pv 0) (z00 (pv 1) z02))))
  (z04 (z0B (i:=7) Jt.nd rfl (Or.inl rfl) (z5G JH hr rfl (z00 (pv 5) (z00 (pv 6) z02))))
  (z04 (z1S PassesOwn.leaving rfl (z6t rfl B.f_enumerate (z00 (pv 1) z02)) (z5n (n:=2) rfl (z0b (z0K (i:=8) Jt.nd rfl (Or.inl rfl)) (z0b (z0K (i:=9) Jt.nd rfl (Or.inl rfl)) z2d))) (z04 (z0B (i:=10) Jt.nd rfl (Or.inl rfl) (z08 z1g (z0G Ju hr rfl (z00 (pv 0) (z00 (pv 2) (z00 (pv 8) z02)))) (pv 4)))
  (z05 (z0R (z2l z37 z37 (z2x z2F (z6J JD hr z5x (pv 0))) (pv 10) (pv 6)) (z05 (z0B (i:=7) Jt.nd rfl (Or.inl rfl) (z0G Wb hr rfl (z00 (pv 7) (z00 (z4a WB hr z5N (pv 0) (z00 (pv 9) (z00 (pv 3) (z00 (pv 5) z02)))) (z00 z01 (z00 (pv 10) z02))))))) z0L))))
  (z05 (z0I (pv 7)))))),?_⟩
 refine L2.hold fun _ hB'=>?_
 obtain⟨dx,fs',fx,k1,k2,k3,k4⟩:=FAt.ins
 walk_at "rs"
 refine⟨fo,l,zs,Ss,hg,gap,rfl,FAt,FO,hl,hz,fun hb H1 s1=>?_,q2⟩
 have hk:=fun z hz'=>z5R (z2w hb z hz')
 walk_at "rs"
 refine⟨wd,hh,none,rfl,w1,w2,h1,h2,(fun _ e=>nomatch e),fun p0 H2 s2 PC=>?_⟩
 rw[<-zAh Ss hg gap lead zs x y wd.toNat hh.toNat]at PC
 have t2:=s1.trans s2
 walk_at "rs"
 refine⟨⟨_,SqL.of (t2 _ _ hl)⟩,?_⟩
 refine z5B (K:=K) (a:=l) (xs:=zs.map V.str) (fun i σ H3=>Same H H3/\i<=zs.length/\∃p v8 v9 v10,σ=[some (.ref fo),some (.ref l),some (.int lead),some (.int x),some (.int y),some (.int wd),some (.int hh),some (.ref p),v8,v9,v10]/\PicAt H3 p wd.toNat (z3N Ss hg gap lead zs x y wd.toNat hh.toNat i)) ⟨t2,Nat.zero_le _,p0,none,none,none,rfl,PC⟩ (fun i σ H3 _ h=>SqL.of (h.1 _ _ hl)) ?_ ?_
 .rintro i v σ H3 T hi ⟨s3,_,p,v8,v9,v10,rfl,PC3⟩ nT
  have hil:i<zs.length:=by
   have:=(List.getElem?_eq_some_iff.mp hi).1
   rwa [List.length_map]at this
  rw[List.getElem?_map,List.getElem?_eq_getElem hil]at hi
  cases hi
  have hzi:zs[i]?=some zs[i]:=List.getElem?_eq_getElem hil
  have hz1:=hz _ (List.getElem_mem hil)
  have sT:Same H3 (upd H3 T (.tup [.int i,.str zs[i]])):=Same.new nT
  have gT:(upd H3 T (.tup [.int i,.str zs[i]])) T=some (.tup [.int i,.str zs[i]]):=upd_same
  generalize upd H3 T (.tup [.int i,.str zs[i]])=H4 at sT gT
  have t4:=s3.trans sT
  have PC4:=PC3.mono sT
  have ew:((wd.toNat:Nat):Int)=wd:=by omega
  have eh:((hh.toNat:Nat):Int)=hh:=by omega
  refine⟨T,_,rfl,SqT.of gT,rfl,_,_,rfl,_,_,rfl,rfl,?_⟩
  walk_at "rs"
  refine⟨fo,lead,(i:Int),Ss,hg,gap,rfl,FAt.mono t4,g2,l0,l1,by omega,by omega,?_⟩
  walk_at "rs"
  refine⟨fo,dx,_,rfl,t4 _ _ fx,k2,fo,Ss,hg,gap,rfl,FAt.mono t4,?_⟩
  walk_at "rs"
  refine z29 (fun c1=>?_) (fun c1=>?_)
  .walk_at "rs"
   refine z29 (fun c2=>?_) (fun c2=>?_)
   .walk_at "rs"
    refine⟨fo,dx,_,rfl,t4 _ _ fx,k3,?_⟩
    walk_at "rs"
    refine⟨fo,zs[i],x,wd,Ss,hg,gap,rfl,FAt.mono t4,FO,g1,g2,hz1.1,hz1.2,w1,w2,fun hn pb H5 s5 PB=>?_,fun c j d H5 hn=>?_⟩
    .walk_at "rs"
     refine⟨p,pb,0,_,_,_,_,_,_,_,rfl,PC4.mono s5,z6S FO gap lead hk x y (by omega) (by omega) (by omega) (by omega) i,PB,z3L FO g1 g2 gap (hk _ (List.getElem_mem hil)) x (by omega) (by omega) _,fun p' H6 s6 PC6=>?_⟩
     refine⟨(t4.trans s5).trans s6,hil,p',_,_,_,rfl,?_⟩
     have e:=zBh FO g1 g2 gap lead hk x y (w:=wd.toNat) (h:=hh.toNat) (by omega) (by omega) (by omega) (by omega) hzi
     rw[<-e]
     exact PC6
    .rw[z2w hb _ (List.getElem_mem hil)]at hn
     cases hn
   .refine⟨t4,hil,p,_,_,_,rfl,?_⟩
    rw[z6T hzi (by omega)]
    exact PC4
  .refine⟨_,rfl,z5y ?_⟩
   refine⟨t4,hil,p,_,_,_,rfl,?_⟩
   rw[z6T hzi (by omega)]
   exact PC4
 .rintro σ H3 ⟨s3,_,p,v8,v9,v10,rfl,PC3⟩
  rw[List.length_map]at PC3
  walk_at "rs"
  exact q1 hb p H3 s3 PC3
theorem WC:FnScope ["wide","high","dx","dy","across","down","boxes"] ["wide","high","dx","dy"] (z03 s_fresh):=⟨rfl,rfl,rfl,by decide+kernel,rfl,by decide+kernel,by decide+kernel⟩
theorem zBq {f:Addr} {fd:FuncData} (D:Df K mg "fresh" s_fresh ["wide","high","dx","dy"] f fd) (B:Blt mg):
 Ow P w K mg base "fresh" ["wide","high","dx","dy"] 1 z6U:=by
 refine D.ow (D.F.ok WC (fun vs H Q E h=>?_) (fun cdv A outer s H vs Q E hr h=>?_))
 .obtain⟨w,h,dx,dy,rfl,_⟩:=h
  rfl
 obtain⟨wd,hg,dx,dy,rfl,w1,w2,h1,h2,q⟩:=h
 refine⟨_,(z04 (z0B (i:=4) WC.nd rfl (Or.inl rfl) (z07 z3n rfl B.f_abs boot_abs (z00 (pv 2) z02)))
  (z04 (z0B (i:=5) WC.nd rfl (Or.inl rfl) (z07 z3n rfl B.f_abs boot_abs (z00 (pv 3) z02)))
  (z04 (z0R (PW.pt (z2D (z0N z8O (pv 4) (pv 0) (z0O _)) (z1c (z0N z8O (pv 5) (pv 1) (z0O _))))) (z05 (z0I (z1o (z00 (z0t (z00 z01 (z00 z01 (z00 (pv 0) (z00 (pv 1) z02))))) z02)))) z0L)
  (z04 (z0B (i:=6) WC.nd rfl (Or.inl rfl) (z1o z02))
  (z2B (z0R (z0N z6n (pv 4) z01 (z0O _)) (z05 (z0e (z3i PySem.F.plainAttrs_list PySem.F.slot_list_append PySem.F.type_list_append z0p (pv 6) (z00 (z0t (z00 (z35 (z0N z6n (pv 2) z01 (z0O _)) (z08 z1g (pv 0) (pv 2)) z01) (z00 z01 (z00 (pv 4) (z00 (pv 1) z02))))) z02)))) z0L)
  (z2B (z0R (z0N z6n (pv 5) z01 (z0O _)) (z05 (z0e (z3i PySem.F.plainAttrs_list PySem.F.slot_list_append PySem.F.type_list_append z0p (pv 6) (z00 (z0t (z00 (z35 (z0N z6n (pv 2) z01 (z0O _)) z01 (pv 4)) (z00 (z35 (z0N z6n (pv 3) z01 (z0O _)) (z08 z1g (pv 1) (pv 3)) z01) (z00 (z08 z1g (pv 0) (pv 4)) (z00 (pv 5) z02))))) z02)))) z0L)
  (z05 (z0I (pv 6))))))))),?_⟩
 have all:((wd:Int)<=z1h dx\/(hg:Int)<=z1h dy)->∀t m,H t=none->(upd H t (.tup [.int 0,.int 0,.int wd,.int hg])) m=none->Q (.ref m) (upd (upd H t (.tup [.int 0,.int 0,.int wd,.int hg])) m (.lst [.ref t])):=fun c t m nt nm=>by
  refine q m [t] [(0,0,(wd:Int),(hg:Int))] _ ((Same.new nt).trans (Same.new nm)) ((Same.new nt).free nm) ⟨upd_same,rfl,fun i t' b e1 e2=>?_⟩ (zA7 w1 h1 c) (zBk c)
  cases i with
  |zero=>
   cases e1
   cases e2
   exact(Same.new nm) _ _ upd_same
  |succ i=>cases e1
 walk_at "rs"
 refine z29 (fun c=>z3e ?_) (fun c1=>?_)
 .walk_at "rs"
  intro t nt
  walk_at "rs"
  intro m nm
  exact all (.inl c) t m nt nm
 walk_at "rs"
 refine z29 (fun c=>?_) (fun c2=>?_)
 .walk_at "rs"
  intro t nt
  walk_at "rs"
  intro m nm
  exact all (.inr c) t m nt nm
 have ax:=z2N dx
 have ay:=z2N dy
 have c1:¬(wd:Int)<=z1h dx:=c1
 have c2:¬(hg:Int)<=z1h dy:=c2
 walk_at "rs"
 intro l nl
 refine⟨fun σ' H'=>Same H H'/\∃ts,σ'=[some (.int wd),some (.int hg),some (.int dx),some (.int dy),some (.int (z1h dx)),some (.int (z1h dy)),some (.ref l)]/\BxsAt H' l ts (bxA wd hg dx),?_,?_⟩
 .walk_at "rs"
  refine z29 (fun c=>?_) (fun c=>?_)
  .have c:0<z1h dx:=c
   have fin:∀z:Int,(if 0<dx then(wd:Int)-dx else 0)=z->∀t,(upd H l (.lst [])) t=none->Same H (upd (upd (upd H l (.lst [])) t (.tup [.int z,.int 0,.int (z1h dx),.int hg])) l (.lst ([]++[.ref t])))/\BxsAt (upd (upd (upd H l (.lst [])) t (.tup [.int z,.int 0,.int (z1h dx),.int hg])) l (.lst ([]++[.ref t]))) l [t] (bxA wd hg dx):=fun z ez t nt=>by
    have ntl:t≠l:=fun e=>by rw[e,upd_same]at nt;cases nt
    refine⟨((Same.new nl).trans (Same.new nt)).put nl,?_⟩
    unfold bxA
    rw[if_pos c,ez]
    refine⟨upd_same,rfl,fun i t' b e1 e2=>?_⟩
    cases i with
    |zero=>
     cases e1
     cases e2
     rw[z06 ntl,upd_same]
     rfl
    |succ i=>cases e1
   walk_at "rs"
   refine⟨.inl ⟨rfl,_,SqL.of upd_same⟩,?_⟩
   walk_at "rs"
   refine z29 (fun p=>?_) (fun p=>?_)
   .walk_at "rs"
    intro t nt
    have ntl:t≠l:=fun e=>by rw[e,upd_same]at nt;cases nt
    obtain⟨a,b⟩:=fin ((wd:Int)-dx) (if_pos p) t nt
    refine⟨l,_,_,rfl,rfl,(Same.new nt) _ _ upd_same,by decide,?_⟩
    exact⟨a,_,rfl,b⟩
   .walk_at "rs"
    intro t nt
    obtain⟨a,b⟩:=fin 0 (if_neg p) t nt
    refine⟨l,_,_,rfl,rfl,(Same.new nt) _ _ upd_same,by decide,?_⟩
    exact⟨a,_,rfl,b⟩
  .have c:¬0<z1h dx:=c
   refine⟨Same.new nl,[],rfl,?_⟩
   unfold bxA
   rw[if_neg c]
   exact⟨upd_same,rfl,fun i t' b e1=>nomatch e1⟩
 rintro σ1 H1 ⟨s1,ts,rfl,BA⟩
 refine⟨fun σ' H'=>Same H H'/\∃ts,σ'=[some (.int wd),some (.int hg),some (.int dx),some (.int dy),some (.int (z1h dx)),some (.int (z1h dy)),some (.ref l)]/\BxsAt H' l ts (bxA wd hg dx++bxB wd hg dx dy),?_,?_⟩
 .walk_at "rs"
  refine z29 (fun c=>?_) (fun c=>?_)
  .have c:0<z1h dy:=c
   have hsz:(ts.map V.ref).length<sizeLine:=by
    have hl:=BA.len
    have:(bxA wd hg dx).length<=1:=by
     unfold bxA
     split
     .exact Nat.le_refl _
     .exact Nat.zero_le _
    rw[List.length_map]
    exact z0H (by omega)
   have fin:∀z1 z2:Int,(if 0<dx then 0 else z1h dx)=z1->(if 0<dy then(hg:Int)-dy else 0)=z2->∀t,H1 t=none->Same H (upd (upd H1 t (.tup [.int z1,.int z2,.int ((wd:Int)-z1h dx),.int (z1h dy)])) l (.lst (ts.map V.ref++[.ref t])))/\BxsAt (upd (upd H1 t (.tup [.int z1,.int z2,.int ((wd:Int)-z1h dx),.int (z1h dy)])) l (.lst (ts.map V.ref++[.ref t]))) l (ts++[t]) (bxA wd hg dx++bxB wd hg dx dy):=fun z1 z2 e1 e2 t nt=>by
    have ntl:t≠l:=fun e=>by rw[e,BA.lst]at nt;cases nt
    refine⟨(s1.trans (Same.new nt)).put nl,?_⟩
    unfold bxB
    rw[if_pos c,e1,e2]
    refine⟨by rw[upd_same,List.map_append];rfl,by rw[List.length_append,List.length_append,BA.len];rfl,fun i t' b g1 g2=>?_⟩
    by_cases hi:i<ts.length
    .rw[List.getElem?_append_left hi]at g1
     rw[List.getElem?_append_left (by rw[<-BA.len];exact hi)]at g2
     have g:=BA.at' i t' b g1 g2
     rw[z06 (z2C g BA.lst fun z=>nomatch z),z06 (z0A g nt)]
     exact g
    .rw[List.getElem?_append_right (by omega)]at g1
     rw[List.getElem?_append_right (by rw[<-BA.len];omega),<-BA.len]at g2
     cases hk:i-ts.length with
     |zero=>
      rw[hk]at g1 g2
      cases g1
      cases g2
      rw[z06 ntl,upd_same]
      rfl
     |succ n=>
      rw[hk]at g1
      cases g1
   walk_at "rs"
   refine⟨.inl ⟨rfl,_,SqL.of BA.lst⟩,?_⟩
   walk_at "rs"
   refine z29 (fun p=>?_) (fun p=>?_)
   .walk_at "rs"
    refine z29 (fun p2=>?_) (fun p2=>?_)
    .walk_at "rs"
     intro t nt
     obtain⟨a,b⟩:=fin 0 ((hg:Int)-dy) (if_pos p) (if_pos p2) t nt
     refine⟨l,_,_,rfl,rfl,(Same.new nt) _ _ BA.lst,hsz,?_⟩
     exact⟨a,_,rfl,b⟩
    .walk_at "rs"
     intro t nt
     obtain⟨a,b⟩:=fin 0 0 (if_pos p) (if_neg p2) t nt
     refine⟨l,_,_,rfl,rfl,(Same.new nt) _ _ BA.lst,hsz,?_⟩
     exact⟨a,_,rfl,b⟩
   .walk_at "rs"
    refine z29 (fun p2=>?_) (fun p2=>?_)
    .walk_at "rs"
     intro t nt
     obtain⟨a,b⟩:=fin (z1h dx) ((hg:Int)-dy) (if_neg p) (if_pos p2) t nt
     refine⟨l,_,_,rfl,rfl,(Same.new nt) _ _ BA.lst,hsz,?_⟩
     exact⟨a,_,rfl,b⟩
    .walk_at "rs"
     intro t nt
     obtain⟨a,b⟩:=fin (z1h dx) 0 (if_neg p) (if_neg p2) t nt
     refine⟨l,_,_,rfl,rfl,(Same.new nt) _ _ BA.lst,hsz,?_⟩
     exact⟨a,_,rfl,b⟩
  .have c:¬0<z1h dy:=c
   refine⟨s1,ts,rfl,?_⟩
   unfold bxB
   rw[if_neg c,List.append_nil]
   exact BA
 rintro σ2 H2 ⟨s2,ts2,rfl,BA2⟩
 walk_at "rs"
 exact q l ts2 _ H2 s2 nl BA2 (zA8 w1 h1 c1 c2) (zBl c1 c2)
theorem JK:FnScope ["_law_text_here","_law_table","_law_high","_law_gap","_law_columns_here","_law_n","_law_k","_law_rows_here","_law_x"] ["_law_text_here","_law_table","_law_high","_law_gap"] (z03 z0k):=⟨rfl,rfl,rfl,by decide+kernel,rfl,by decide+kernel,by decide+kernel⟩
theorem z5a {f:Addr} {fd:FuncData} (D:Df K mg "_law_columns" z0k ["_law_text_here","_law_table","_law_high","_law_gap"] f fd) (B:Blt mg):
 Ow P w K mg base "_law_columns" ["_law_text_here","_law_table","_law_high","_law_gap"] 1 z33:=by
 refine D.ow (D.F.ok JK (fun vs H Q E h=>?_) (fun cdv A outer s H vs Q E hr h=>?_))
 .obtain⟨z,d,hg,gap,Ss,rfl,_⟩:=h
  rfl
 obtain⟨z,d,hg,gap,Ss,rfl,TA,FO,h1,h2,g0,g1,hz,hT,q⟩:=h
 refine⟨_,(z04 (z0B (i:=4) JK.nd rfl (Or.inl rfl) (z1o z02))
  (z04 (z1S PassesOwn.never rfl (z0S rfl B.f_range (z00 (z07 z2e rfl B.f_len boot_len (z00 (pv 0) z02)) z02)) (z0K (i:=5) JK.nd rfl (Or.inl rfl)) (z2B (z0R (z0N z6n (pv 5) z01 (z0O _)) (z05 (z1S PassesOwn.never rfl (z0S rfl B.f_range (z00 (pv 3) z02)) (z0K (i:=6) JK.nd rfl (Or.inl rfl)) (z05 (z0e (z3i PySem.F.plainAttrs_list PySem.F.slot_list_append PySem.F.type_list_append z0p (pv 4) (z00 (z08 zBw (z1o (z00 z3c z02)) (pv 2)) z02)))))) z0L)
  (z04 (z0B (i:=7) JK.nd rfl (Or.inl rfl) (z9T (z8V hr) (pv 1) (z0C z9N (pv 0) (pv 5) (fun _ _=>rfl)) (fun _ _=>rfl)))
  (z05 (z1S PassesOwn.never rfl (z0S rfl B.f_range (z00 (z07 z0F rfl B.f_len boot_len (z00 (z0C ix_list (pv 7) z01 (fun _ _=>rfl)) z02)) z02)) (z0K (i:=8) JK.nd rfl (Or.inr rfl)) (z05 (z0e (z3i PySem.F.plainAttrs_list PySem.F.slot_list_append PySem.F.type_list_append z0p (pv 4) (z00 (z1L (locs:=["_law_row"]) (ix:=[8]) rfl (BlkSc.look (dsc:=z03 z0k) (N:=["_law_text_here","_law_table","_law_high","_law_gap","_law_columns_here","_law_n","_law_k","_law_rows_here","_law_x"]) rfl rfl (by decide+kernel)) (z1q (pv 7)) (fun _ _ _ _ _ _=>(z0K (i:=0) (by decide+kernel:(["_law_row","_law_x"]:List Str).Nodup) rfl (Or.inl rfl))) (fun _ _ _ _ _ _=>z0h) (fun _ _ _ _ _ _=>(z0C z5C (pv 0) (pv 1) (fun _ _=>rfl)))) z02)))))))))
  (z05 (z0I (pv 4))))),?_⟩
 have ezl:z.length=z.cps.toList.length:=(Array.length_toList).symm
 have sz:z.length<=sizeLine:=Nat.le_of_lt (z0H (by omega))
 walk_at "rs"
 intro l nl
 refine⟨_,rfl,z,rfl,sz,?_⟩
 refine⟨_,rfl,(z2v (by omega) (by omega)).1,(z2v (by omega) (by omega)).2,?_⟩
 have en:((z.length:Int)).toNat=z.length:=by omega
 have hk:∀c∈z.cps.toList,known Ss c=true:=hT
 have CO:=fun k hk'=>z5Q FO g0 g1 hk k hk'
 have sl:∀n:Nat,n<=90000->n<sizeLine:=fun n h=>Nat.lt_of_le_of_lt h (by decide)
 refine z0v (n:=((z.length:Int)).toNat) (fun n σ H2=>∃ps v5 v6 v7 v8,σ=[some (.str z),some (.ref d),some (.int (hg:Nat)),some (.int gap),some (.ref l),v5,v6,v7,v8]/\RowsB H H2 l ps (z1d Ss hg gap z.cps.toList n)) ⟨[],none,none,none,none,rfl,z6v (Same.refl _) nl⟩ ?_ ?_
 .rintro n σ H2 hn ⟨ps,v5,v6,v7,v8,rfl,RB⟩
  rw[en]at hn
  have hnl:n<z.cps.toList.length:=by omega
  have hc:z.cps.toList[n]?=some (z.cps.toList[n]'hnl):=List.getElem?_eq_getElem hnl
  generalize z.cps.toList[n]'hnl=c at hc
  have hkc:=hk c (List.mem_of_getElem? hc)
  obtain⟨c1,c2⟩:=CO n (by omega)
  have e0:(0:Int)+(n:Int)=((n:Nat):Int):=by omega
  have at1:atI z.cps.toList (0+(n:Int))=some c:=by rw[e0];exact z0x hc
  refine⟨fun σ' H'=>∃ps v6 v7 v8,σ'=[some (.str z),some (.ref d),some (.int (hg:Nat)),some (.int gap),some (.ref l),some (.int (0+(n:Int))),v6,v7,v8]/\RowsB H H' l ps (z1d Ss hg gap z.cps.toList n++if 0<n then z6k hg gap else []),?_,?_⟩
  .walk_at "rs"
   refine z29 (fun c3=>?_) (fun c3=>?_)
   .rw[if_pos (show 0<n by omega)]
    refine⟨_,rfl,_,rfl,(z2v (by omega) (by omega)).1,(z2v (by omega) (by omega)).2,?_⟩
    refine z0v (n:=gap.toNat) (fun k σ H3=>∃ps v6 v7 v8,σ=[some (.str z),some (.ref d),some (.int (hg:Nat)),some (.int gap),some (.ref l),some (.int (0+(n:Int))),v6,v7,v8]/\RowsB H H3 l ps (z1d Ss hg gap z.cps.toList n++List.replicate k (List.replicate hg none))) ⟨ps,v6,v7,v8,rfl,by rw[List.replicate_zero,List.append_nil];exact RB⟩ ?_ ?_
    .rintro k σ H3 hk3 ⟨ps,v6,v7,v8,rfl,RB3⟩
     have szp:(ps.map V.ref).length<sizeLine:=by
      have:=RB3.rat.len
      rw[List.length_append,List.length_replicate]at this
      rw[List.length_map]
      exact sl _ (by omega)
     refine⟨_,rfl,.inl ⟨rfl,_,SqL.of RB3.rat.lst⟩,szV (by simp),fun a1 n1=>?_⟩
     obtain⟨f1,f2,f3⟩:=RB3.fresh n1
     have RB4:=RB3.put (o:=.lst [.non]) f1 f2 f3
     have g4:(upd H3 a1 (.lst [.non])) a1=some (.lst [.non]):=upd_same
     generalize upd H3 a1 (.lst [.non])=H4 at RB4 g4
     refine⟨_,rfl,a1,_,_,rfl,rfl,g4,by omega,by omega,?_,fun p np=>?_⟩
     .show 1*_<=sizeLine
      exact Nat.le_of_lt (z0H (by omega))
     rw[z5H,Int.toNat_natCast]
     obtain⟨f1,f2,f3⟩:=RB4.fresh np
     have RB5:=RB4.put (o:=.lst (List.replicate hg .non)) f1 f2 f3
     have g5:(upd H4 p (.lst (List.replicate hg .non))) p=some (.lst ((List.replicate hg none).map z0X)):=by
      rw[upd_same,List.map_replicate]
      rfl
     generalize upd H4 p (.lst (List.replicate hg .non))=H5 at RB5 g5
     refine⟨l,_,_,rfl,rfl,RB5.rat.lst,szp,?_⟩
     refine⟨ps++[p],_,_,_,rfl,?_⟩
     have:=RB5.push f1 f2 g5
     rw[List.append_assoc]at this
     rw[List.replicate_succ']
     exact this
    .rintro σ H3 ⟨ps,v6,v7,v8,rfl,RB3⟩
     exact⟨ps,v6,v7,v8,rfl,RB3⟩
   .rw[if_neg (show¬0<n by omega),List.append_nil]
    exact⟨ps,_,_,_,rfl,RB⟩
  rintro σ3 H3 ⟨ps,v6,v7,v8,rfl,RB3⟩
  rw[z3Z hc]
  have hA:(z1d Ss hg gap z.cps.toList n++if 0<n then z6k hg gap else []).length<=72*n+8:=by
   rw[List.length_append]
   have l1:(if 0<n then z6k hg gap else []).length<=8:=by
    split
    .unfold z6k
     rw[List.length_replicate]
     omega
    .exact Nat.zero_le _
   omega
  generalize (z1d Ss hg gap z.cps.toList n++if 0<n then z6k hg gap else [])=A at RB3 hA
  obtain⟨pr,prs,gd,RA,R⟩:=TA.get FO hkc
  have hR:=R.len
  have hRw:=R.w2
  have hpl:=RA.len
  obtain⟨p0,e0',gp0⟩:=RA.at R.ne
  have at0:atI (prs.map V.ref) 0=some (.ref p0):=z0x (j:=0) (by rw[List.getElem?_map,e0'];rfl)
  have hw0:=(R.row0 R.ne).1
  have RA3:=RA.mono RB3.same
  refine⟨_,rfl,_,rfl,_,rfl,z,_,c,rfl,rfl,sz,at1,d,.ref pr,rfl,gd _ RB3.same,?_⟩
  refine⟨_,rfl,pr,_,0,_,rfl,rfl,SqL.of RA3.lst,at0,p0,_,rfl,.inl (SqL.of (RB3.same _ _ gp0)),?_⟩
  rw[List.length_map,hw0]
  refine⟨_,rfl,(z2v (by omega) (by omega)).1,(z2v (by omega) (by omega)).2,?_⟩
  refine z0v (n:=(((sgF Ss c).w:Nat):Int).toNat) (fun x σ H4=>∃ps v8,σ=[some (.str z),some (.ref d),some (.int (hg:Nat)),some (.int gap),some (.ref l),some (.int (0+(n:Int))),v6,some (.ref pr),v8]/\RowsB H H4 l ps (A++(List.range x).map fun(x:Nat)=>(sgF Ss c).rows.map fun r=>(r[x]?).join)) ⟨ps,v8,rfl,by rw[List.range_zero,List.map_nil,List.append_nil];exact RB3⟩ ?_ ?_
  .rintro x σ H4 hx ⟨ps,v8,rfl,RB4⟩
   rw[Int.toNat_natCast]at hx
   have RA4:=RA.mono RB4.same
   have szp:(ps.map V.ref).length<sizeLine:=by
    have:=RB4.rat.len
    rw[List.length_append,List.length_map,List.length_range]at this
    rw[List.length_map]
    exact sl _ (by omega)
   have ex:(0:Int)+(x:Int)=((x:Nat):Int):=by omega
   refine⟨_,rfl,.inl ⟨rfl,_,SqL.of RB4.rat.lst⟩,_,rfl,pr,rfl,⟨_,SqL.of RA4.lst⟩,?_⟩
   refine z0i (n:=(sgF Ss c).rows.length) (fun i σ zs H5=>∃v,σ=[v,some (.int (0+(x:Int)))]/\zs=(((sgF Ss c).rows.take i).map fun r=>(r[x]?).join).map z0X/\H5=H4/\i<=(sgF Ss c).rows.length) ⟨none,rfl,rfl,rfl,Nat.zero_le _⟩ (Nat.le_of_lt (z0H (by omega))) ?_ ?_ ?_ ?_ ?_
   .rintro i σ zs H5 ⟨v,_,rfl,_,hi⟩
    rw[List.length_map,List.length_map,List.length_take]
    omega
   .rintro σ zs H5 ⟨v,_,_,rfl,_⟩
    exact⟨_,SqL.of RA4.lst,by rw[List.length_map,hpl];exact Nat.le_refl _⟩
   .rintro i σ zs H5 hi ⟨v,_,_,rfl,_⟩
    exact⟨_,.ref (prs[i]'(by omega)),SqL.of RA4.lst,by rw[List.getElem?_map,List.getElem?_eq_getElem (by omega)];rfl⟩
   .rintro i σ zs H5 y H' Z hi ⟨v,rfl,rfl,rfl,_⟩ ⟨rfl,hy⟩ hZ
    have e:=hy _ (SqL.of RA4.lst)
    rw[List.getElem?_map,List.getElem?_eq_getElem (by omega)]at e
    cases e
    have gr:=RA4.row i (prs[i]'(by omega)) ((sgF Ss c).rows[i]'hi) (List.getElem?_eq_getElem _) (List.getElem?_eq_getElem hi)
    have hrl:=(R.row0 hi).1
    have hxl:x<((sgF Ss c).rows[i]'hi).length:=by omega
    have ac:atI (((sgF Ss c).rows[i]'hi).map z0X) (0+(x:Int))=some (z0X (((sgF Ss c).rows[i]'hi)[x]'hxl)):=by rw[ex];exact z0x (by rw[List.getElem?_map,List.getElem?_eq_getElem hxl];rfl)
    refine⟨_,rfl,_,rfl,_,_,_,_,rfl,rfl,SqL.of gr,ac,?_⟩
    refine hZ _ _ _ ⟨_,rfl,?_,rfl,hi⟩
    rw[List.take_succ,List.getElem?_eq_getElem hi,List.map_append,List.map_append]
    show _=_++[z0X ((((sgF Ss c).rows[i]'hi)[x]?).join)]
    rw[List.getElem?_eq_getElem hxl]
    rfl
   rintro σ zs H5 ⟨v,rfl,rfl,rfl,_⟩ p np
   rw[List.take_length]
   obtain⟨f1,f2,f3⟩:=RB4.fresh np
   have RB5:=RB4.put (o:=.lst (((sgF Ss c).rows.map fun r=>(r[x]?).join).map z0X)) f1 f2 f3
   have g5:(upd H5 p (.lst (((sgF Ss c).rows.map fun r=>(r[x]?).join).map z0X))) p=_:=upd_same
   generalize upd H5 p (.lst (((sgF Ss c).rows.map fun r=>(r[x]?).join).map z0X))=H6 at RB5 g5
   refine⟨l,_,_,rfl,rfl,RB5.rat.lst,szp,?_⟩
   refine⟨ps++[p],_,rfl,?_⟩
   have:=RB5.push f1 f2 g5
   rw[List.append_assoc]at this
   rw[List.range_succ,List.map_append]
   exact this
  .rintro σ H4 ⟨ps,v8,rfl,RB4⟩
   rw[Int.toNat_natCast]at RB4
   exact⟨ps,_,_,_,_,rfl,RB4⟩
 .rintro σ H2 ⟨ps,v5,v6,v7,v8,rfl,RB⟩
  rw[en]at RB
  walk_at "rs"
  exact q l ps H2 RB
theorem z5b:FnScope ["start","many","other","others"] ["start","many","other","others"] (z03 z19):=⟨rfl,rfl,rfl,by decide+kernel,rfl,by decide+kernel,by decide+kernel⟩
theorem z5c {f:Addr} {fd:FuncData} (D:Df K mg "many_shared" z19 ["start","many","other","others"] f fd) (B:Blt mg):
 Ow P w K mg base "many_shared" ["start","many","other","others"] 1 z8E:=by
 refine D.ow (D.F.ok z5b (fun vs H Q E h=>?_) (fun cdv A outer s H vs Q E hr h=>?_))
 .obtain⟨a,b,c,d,rfl,_⟩:=h
  rfl
 obtain⟨a,b,c,d,rfl,q⟩:=h
 refine⟨_,(z05 (z0I (z07 (z2H rfl) rfl B.f_max boot_max (z00 z01 (z00 (z08 z1g (z07 (z42 rfl) rfl B.f_min boot_min (z00 (z08 z0P (pv 0) (pv 1)) (z00 (z08 z0P (pv 2) (pv 3)) z02))) (z07 (z2H rfl) rfl B.f_max boot_max (z00 (pv 0) (z00 (pv 2) z02)))) z02))))),?_⟩
 walk_at "rs"
 refine⟨_,_,rfl,?_⟩
 walk_at "rs"
 refine⟨_,_,rfl,?_⟩
 walk_at "rs"
 refine⟨_,_,rfl,?_⟩
 exact q
theorem z5d:FnScope ["self","font","lines","lead","wide","high"] ["self","font","lines","lead","wide","high"] (z03 z1T):=⟨rfl,rfl,rfl,by decide+kernel,rfl,by decide+kernel,by decide+kernel⟩
theorem z5e {f:Addr} {fd:FuncData}
 {J0 J3:Addr} (Zo:Co K mg J0 J3)
 {J6 J7 J4 J5:Addr} (Z:Cl K mg J6 J7 J4 J5)
 (JN:Ow2 P w K mg base "check_lines" ["font","lines"] 4 (z7L J3 J4)) (D:Fun K "__init__" "Window.__init__" z1T f fd) (B:Blt mg):
 FnOk P w K mg base (CX2 P w) 5 f fd ["self","font","lines","lead","wide","high"] (z5S J0 J3 J4):=by
 refine D.ok2 z5d (fun vs H Q E h=>?_) (fun cdv A outer s H vs Q E hr h=>?_)
 .obtain⟨x,dx,f,l,lead,wd,hh,zs,Ss,hg,gap,rfl,_⟩:=h
  rfl
 obtain⟨x,dx,f,l,lead,wd,hh,zs,Ss,hg,gap,rfl,hx,FAt,FO,hl,hz,q1,q2⟩:=h
 refine⟨_,(z04 (z0e (z5O JN hr z5N rfl (z00 (pv 1) (z00 (pv 2) z02))))
  (z04 (z2Y (pv 0) (pv 1) rfl)
  (z04 (z2Y (pv 0) (z0w z3d rfl B.f_list boot_list (z00 (pv 2) z02)) rfl)
  (z04 (z2Y (pv 0) (pv 3) rfl)
  (z04 (z2Y (pv 0) (pv 4) rfl)
  (z04 (z2Y (pv 0) (pv 5) rfl)
  (z04 (z2Y (pv 0) z01 rfl)
  (z05 (z2Y (pv 0) z01 rfl))))))))),?_⟩
 refine L2.hold fun _ hB'=>?_
 walk_at "rs"
 refine⟨f,l,zs,Ss,hg,gap,rfl,FAt,FO,hl,hz,fun hb H1 s1=>?_,q2⟩
 have hx1:=s1 _ _ hx
 have hl1:=s1 _ _ hl
 have nlx:l≠x:=z2C hl1 hx1 fun z=>nomatch z
 walk_at "rs"
 refine⟨x,J0,dx,[],rfl,hx1,Zo.k_Window,Zo.n_Window_font,by decide,?_⟩
 walk_at "rs"
 refine⟨l,_,rfl,.inl (SqL.of ((z06 nlx).trans hl1)),fun ll nll=>?_⟩
 have nx:ll≠x:=fun e=>by rw[e,upd_same]at nll;cases nll
 have nll1:H1 ll=none:=by rw[z06 nx]at nll;exact nll
 walk_at "rs"
 refine⟨x,J0,dx,_,rfl,(z06 (Ne.symm nx)).trans upd_same,Zo.k_Window,Zo.n_Window_lines,(by show 1<1000;decide),?_⟩
 walk_at "rs"
 refine⟨x,J0,dx,_,rfl,upd_same,Zo.k_Window,Zo.n_Window_lead,(by show 2<1000;decide),?_⟩
 walk_at "rs"
 refine⟨x,J0,dx,_,rfl,upd_same,Zo.k_Window,Zo.n_Window_wide,(by show 3<1000;decide),?_⟩
 walk_at "rs"
 refine⟨x,J0,dx,_,rfl,upd_same,Zo.k_Window,Zo.n_Window_high,(by show 4<1000;decide),?_⟩
 walk_at "rs"
 refine⟨x,J0,dx,_,rfl,upd_same,Zo.k_Window,Zo.n_Window_x,(by show 5<1000;decide),?_⟩
 walk_at "rs"
 refine⟨x,J0,dx,_,rfl,upd_same,Zo.k_Window,Zo.n_Window_y,(by show 6<1000;decide),?_⟩
 rw[z2K,z2K,z2K,z2K,z2K]
 refine q1 hb ll _ (fun b o nb e=>?_) (s1.free nll1) ⟨⟨dx,upd_same⟩,(z06 nx).trans upd_same⟩
 have nb':b≠x:=fun z=>nb (by rw[z];exact List.mem_cons_self)
 have e1:=s1 _ _ e
 rw[z06 nb',z06 (z0A e1 nll1),z06 nb']
 exact e1
theorem z4Q:FnScope ["self","dx","dy"] ["self","dx","dy"] (z03 z0c):=⟨rfl,rfl,rfl,by decide+kernel,rfl,by decide+kernel,by decide+kernel⟩
theorem z4R {f:Addr} {fd:FuncData}
 {J0 J3:Addr} (Zo:Co K mg J0 J3)
 (WY:Ow P w K mg base "fresh" ["wide","high","dx","dy"] 1 z6U) (D:Fun K "scroll" "Window.scroll" z0c f fd) (B:Blt mg):
 FnOk P w K mg base CX0 2 f fd ["self","dx","dy"] (z5T J0):=by
 refine D.ok z4Q (fun vs H Q E h=>?_) (fun cdv A outer s H vs Q E hr h=>?_)
 .obtain⟨W,x,y,dx,dy,zs,rfl,_⟩:=h
  rfl
 obtain⟨W,x,y,dx,dy,zs,rfl,WA,w1,w2,h1,h2,q⟩:=h
 obtain⟨⟨dw,fx⟩,hl⟩:=id WA
 refine⟨_,(z04 (z2Y (pv 0) (z08 z0P (z0d (pv 0) rfl) (pv 1)) rfl)
  (z04 (z2Y (pv 0) (z08 z0P (z0d (pv 0) rfl) (pv 2)) rfl)
  (z05 (z0I (z07 (z9e rfl) rfl B.f_sum boot_sum (z00 (z1L (locs:=["box"]) (ix:=[]) rfl (BlkSc.look (dsc:=z03 z0c) (N:=["self","dx","dy"]) rfl rfl (by decide+kernel)) (z1q (z0G WY hr rfl (z00 (z0d (pv 0) rfl) (z00 (z0d (pv 0) rfl) (z00 (pv 1) (z00 (pv 2) z02)))))) (fun _ _ _ _ _ _=>(z0K (i:=0) (by decide+kernel:(["box"]:List Str).Nodup) rfl (Or.inl rfl))) (fun _ _ _ _ _ _=>z0h) (fun _ _ _ _ _ _=>(z08 z0s (z0C z1H (pv 0) z01 (fun _ _=>rfl)) (z0C z1H (pv 0) z01 (fun _ _=>rfl))))) z02)))))),?_⟩
 refine L2.hold fun _ hB'=>?_
 walk_at "rs"
 refine⟨_,J0,dw,_,_,rfl,fx,Zo.k_Window,Zo.n_Window_x,rfl,?_⟩
 walk_at "rs"
 refine⟨_,J0,dw,_,rfl,fx,Zo.k_Window,Zo.n_Window_x,(by show 7<1000;decide),?_⟩
 rw[zDu]
 walk_at "rs"
 refine⟨_,J0,dw,_,_,rfl,upd_same,Zo.k_Window,Zo.n_Window_y,rfl,?_⟩
 walk_at "rs"
 refine⟨_,J0,dw,_,rfl,upd_same,Zo.k_Window,Zo.n_Window_y,(by show 7<1000;decide),?_⟩
 rw[zDv,z2K]
 have fx1:(upd H W.w (.ins J0 dw (wnF W.f W.ll W.lead W.wd W.hh (x+dx) (y+dy)))) W.w=some (.ins J0 dw (wnF W.f W.ll W.lead W.wd W.hh (x+dx) (y+dy))):=upd_same
 have hl1:(upd H W.w (.ins J0 dw (wnF W.f W.ll W.lead W.wd W.hh (x+dx) (y+dy)))) W.ll=some (.lst (zs.map V.str)):=(z06 (z2C hl fx fun z=>nomatch z)).trans hl
 have e1:SameX [W.w] H (upd H W.w (.ins J0 dw (wnF W.f W.ll W.lead W.wd W.hh (x+dx) (y+dy)))):=(SameX.of (Same.refl _)).put List.mem_cons_self
 generalize upd H W.w (.ins J0 dw (wnF W.f W.ll W.lead W.wd W.hh (x+dx) (y+dy)))=H1 at fx1 hl1 e1
 walk_at "rs"
 refine⟨_,J0,dw,_,_,rfl,fx1,Zo.k_Window,Zo.n_Window_wide,rfl,?_⟩
 walk_at "rs"
 refine⟨_,J0,dw,_,_,rfl,fx1,Zo.k_Window,Zo.n_Window_high,rfl,?_⟩
 have ew:W.wd=((W.wd.toNat:Nat):Int):=by omega
 have eh:W.hh=((W.hh.toNat:Nat):Int):=by omega
 walk_at "rs"
 refine⟨W.wd.toNat,W.hh.toNat,dx,dy,by rw[<-ew,<-eh];rfl,by omega,by omega,by omega,by omega,fun l ts bs H2 s2 nl BA FK ar=>?_⟩
 rw[<-ew,<-eh]at ar
 refine⟨l,rfl,⟨_,SqL.of BA.lst⟩,?_⟩
 have hl2:=BA.len
 refine z0i (n:=ts.length) (fun i σ us H3=>∃v,σ=[v]/\us=((bs.take i).map fun b=>b.2.2.1*b.2.2.2).map V.int/\H3=H2/\i<=bs.length) ⟨none,rfl,rfl,rfl,Nat.zero_le _⟩ (Nat.le_of_lt (z0H (by have:=FK.len;omega))) ?_ ?_ ?_ ?_ ?_
 .rintro i σ us H3 ⟨v,_,rfl,_,hi⟩
  rw[List.length_map,List.length_map,List.length_take]
  omega
 .rintro σ us H3 ⟨v,_,_,rfl,_⟩
  exact⟨_,SqL.of BA.lst,by rw[List.length_map];exact Nat.le_refl _⟩
 .rintro i σ us H3 hi ⟨v,_,_,rfl,_⟩
  exact⟨_,.ref ts[i],SqL.of BA.lst,by rw[List.getElem?_map,List.getElem?_eq_getElem hi];rfl⟩
 .rintro i σ us H3 z H' Z hi ⟨v,rfl,rfl,rfl,_⟩ ⟨rfl,hx⟩ hZ
  have e:=hx _ (SqL.of BA.lst)
  rw[List.getElem?_map,List.getElem?_eq_getElem hi]at e
  cases e
  have g:=BA.at' i ts[i] (bs[i]'(by omega)) (List.getElem?_eq_getElem hi) (List.getElem?_eq_getElem (by omega))
  walk_at "rs"
  refine⟨_,_,2,_,rfl,rfl,SqT.of g,rfl,?_⟩
  walk_at "rs"
  refine⟨_,_,3,_,rfl,rfl,SqT.of g,rfl,?_⟩
  obtain⟨b1,b2,b3,b4,b5,b6⟩:=FK.box (bs[i]'(by omega)) (List.getElem_mem _)
  refine⟨_,_,rfl,rfl,mulL (by omega) (by omega),?_⟩
  refine hZ _ _ _ ⟨_,rfl,?_,rfl,by omega⟩
  rw[List.take_succ,List.getElem?_eq_getElem (by omega),List.map_append,List.map_append]
  rfl
 rintro σ us H3 ⟨v,rfl,rfl,rfl,_⟩ l' hl'
 rw[hl2,List.take_length]
 refine⟨l',_,rfl,SqL.of upd_same,by rw[List.length_map];have:=FK.len;omega,fun z hz=>?_,?_⟩
 .obtain⟨b,hb,rfl⟩:=List.mem_map.mp hz
  exact zAj (by omega) (by omega) (FK.box b hb)
 have s3:=s2.trans (Same.new (o:=.lst ((bs.map fun b=>b.2.2.1*b.2.2.2).map V.int)) hl')
 have ar:(bs.map fun b=>b.2.2.1*b.2.2.2).sum=z4N W.wd W.hh dx dy:=ar
 rw[ar]
 exact q _ (e1.trans (SameX.of s3)) ⟨⟨dw,s3 _ _ fx1⟩,s3 _ _ hl1⟩
theorem z3P:FnScope ["self","at"] ["self","at"] (z03 z0Y):=⟨rfl,rfl,rfl,by decide+kernel,rfl,by decide+kernel,by decide+kernel⟩
theorem z3Q {f:Addr} {fd:FuncData}
 {J0 J3:Addr} (Zo:Co K mg J0 J3)
 {J6 J7 J4 J5:Addr} (Z:Cl K mg J6 J7 J4 J5)
 (E_NoLine:Oo K mg "NoLine" J5) (D:Fun K "check_line" "Window.check_line" z0Y f fd) (B:Blt mg):
 FnOk P w K mg base (CX2 P w) 1 f fd ["self","at"] (z3y J0 J5):=by
 refine D.ok2 z3P (fun vs H Q E h=>?_) (fun cdv A outer s H vs Q E hr h=>?_)
 .obtain⟨W,x,y,k,zs,rfl,_⟩:=h
  rfl
 obtain⟨W,x,y,k,zs,rfl,WA,q1,q2⟩:=h
 obtain⟨⟨dx,fx⟩,hl⟩:=id WA
 refine⟨_,(z05 (z0R (PW.pt (z2D (z0N z37 (pv 1) z01 (z0O _)) (z1c (z0N z8O (pv 1) (z07 z0F rfl B.f_len boot_len (z00 (z0d (pv 0) rfl) z02)) (z0O _))))) (z05 (z2J z31 rfl E_NoLine rfl (z00 z2X z02))) z0L)),?_⟩
 walk_at "rs"
 refine z29 (fun c=>z3e ?_) (fun c=>?_)
 .walk_at "rs"
  exact⟨(by show 1<=1000;decide),q2 (.inl c)⟩
 walk_at "rs"
 refine⟨_,J0,dx,_,_,rfl,fx,Zo.k_Window,Zo.n_Window_lines,rfl,?_⟩
 refine⟨_,_,rfl,.inl (SqL.of hl),?_⟩
 rw[List.length_map]
 walk_at "rs"
 refine z29 (fun c'=>?_) (fun c'=>?_)
 .walk_at "rs"
  exact⟨(by show 1<=1000;decide),q2 (.inr c')⟩
 .exact q1 (by omega) (by omega)
theorem WK:FnScope ["self","at","text","top"] ["self","at","text"] (z03 z1U):=⟨rfl,rfl,rfl,by decide+kernel,rfl,by decide+kernel,by decide+kernel⟩
theorem z5f {f:Addr} {fd:FuncData}
 {J0 J3:Addr} (Zo:Co K mg J0 J3)
 {J6 J7 J4 J5:Addr} (Z:Cl K mg J6 J7 J4 J5)
 (Ju:Ow P w K mg base "top_of" ["font","lead","at"] 2 (z7M J3))
 (Jv:Ow P w K mg base "many_shared" ["start","many","other","others"] 1 z8E)
 (JE:Om P w K mg base (CX2 P w) J0 "check_line" ["self","at"] [] 1 (z3y J0 J5))
 (JD:Om P w K mg base CX0 J3 "height" ["self"] [] 1 (z3J J3))
 (JC:Om P w K mg base (CX2 P w) J3 "pics_of" ["self","text"] [] 3 (z3I J3 J4)) (D:Fun K "edit" "Window.edit" z1U f fd) (B:Blt mg):
 FnOk P w K mg base (CX2 P w) 4 f fd ["self","at","text"] (z8F J0 J3 J4 J5):=by
 refine D.ok2 WK (fun vs H Q E h=>?_) (fun cdv A outer s H vs Q E hr h=>?_)
 .obtain⟨W,x,y,k,zs,z,F,Ss,hg,gap,rfl,_⟩:=h
  rfl
 obtain⟨W,x,y,k,zs,z,F,Ss,hg,gap,rfl,WA,hF,FAt,FO,hg2,l0,l1,zn,zl,hz,w0,w2,q1,q2,q3⟩:=h
 obtain⟨⟨dx,fx⟩,hl⟩:=id WA
 refine⟨_,(z04 (z0e (z4a JE hr z5N (pv 0) (z00 (pv 1) z02)))
  (z04 (z0e (z4a JC hr z5N (z0d (pv 0) rfl) (z00 (pv 2) z02)))
  (z04 (z7i (pv 2) (z7h (z0d (pv 0) rfl) (pv 1) set_list))
  (z04 (z0B (i:=3) WK.nd rfl (Or.inl rfl) (z0G Ju hr rfl (z00 (z0d (pv 0) rfl) (z00 (z0d (pv 0) rfl) (z00 (pv 1) z02)))))
  (z05 (z0I (z08 z0s (z0d (pv 0) rfl) (z0G Jv hr rfl (z00 (pv 3) (z00 (z6J JD hr z5x (z0d (pv 0) rfl)) (z00 (z0d (pv 0) rfl) (z00 (z0d (pv 0) rfl) z02)))))))))))),?_⟩
 refine L2.hold fun _ hB'=>?_
 walk_at "rs"
 refine⟨_,dx,_,rfl,fx,rfl,_,rfl,W,x,y,k,zs,rfl,WA,fun k0 k1=>?_,q1⟩
 have F1:=FAt.mono z1n
 obtain⟨df,fs',ff,k1',k2',k3',k4'⟩:=F1.ins
 walk_at "rs"
 refine⟨_,J0,dx,_,_,rfl,fx,Zo.k_Window,Zo.n_Window_font,rfl,?_⟩
 refine⟨_,df,_,rfl,ff,k4',?_⟩
 walk_at "rs"
 refine⟨W.f,z,Ss,hg,gap,rfl,F1,FO,zl,hz,fun hn l H1 s1 nl PO=>?_,fun c i d H1 hn s1 hd=>q2 c i d H1 k0 k1 hn s1 hd⟩
 have fx1:=s1 _ _ fx
 have hl1:=s1 _ _ hl
 have F1:FA J3 (off F H1) W.f hg Ss gap:=FAt.mono (z0u (SameX.of s1))
 walk_at "rs"
 refine⟨_,J0,dx,_,_,rfl,fx1,Zo.k_Window,Zo.n_Window_lines,rfl,?_⟩
 walk_at "rs"
 refine⟨_,_,k,k.toNat,rfl,rfl,hl1,by rw[List.length_map];exact zAi k0 k1,?_⟩
 have F2:=(F1.mono (z7N (o:=.lst ((zs.map V.str).set k.toNat (.str z))) hF)).mono z1n
 have fx2:(upd H1 W.ll (.lst ((zs.map V.str).set k.toNat (.str z)))) W.w=_:=(z06 (z2C fx1 hl1 fun z=>nomatch z)).trans fx1
 have gl2:(upd H1 W.ll (.lst ((zs.map V.str).set k.toNat (.str z)))) W.ll=some (.lst ((zs.set k.toNat z).map V.str)):=by rw[upd_same,List.map_set]
 have e2:SameX [W.ll] H (upd H1 W.ll (.lst ((zs.map V.str).set k.toNat (.str z)))):=(SameX.of s1).put List.mem_cons_self
 generalize upd H1 W.ll (.lst ((zs.map V.str).set k.toNat (.str z)))=H2 at F2 fx2 gl2 e2
 obtain⟨df,fs',ff,k1',k2',k3',k4'⟩:=F2.ins
 walk_at "rs"
 refine⟨_,J0,dx,_,_,rfl,fx2,Zo.k_Window,Zo.n_Window_font,rfl,?_⟩
 walk_at "rs"
 refine⟨_,J0,dx,_,_,rfl,fx2,Zo.k_Window,Zo.n_Window_lead,rfl,?_⟩
 walk_at "rs"
 refine⟨W.f,W.lead,k,Ss,hg,gap,rfl,F2,hg2,l0,l1,k0,by omega,?_⟩
 walk_at "rs"
 refine⟨_,J0,dx,_,_,rfl,fx2,Zo.k_Window,Zo.n_Window_wide,rfl,?_⟩
 walk_at "rs"
 refine⟨_,J0,dx,_,_,rfl,fx2,Zo.k_Window,Zo.n_Window_font,rfl,?_⟩
 refine⟨_,df,_,rfl,ff,k2',_,Ss,hg,gap,rfl,F2,?_⟩
 walk_at "rs"
 refine⟨_,J0,dx,_,_,rfl,fx2,Zo.k_Window,Zo.n_Window_y,rfl,?_⟩
 walk_at "rs"
 refine⟨_,J0,dx,_,_,rfl,fx2,Zo.k_Window,Zo.n_Window_high,rfl,?_⟩
 refine⟨_,_,_,_,rfl,?_⟩
 refine⟨_,_,rfl,rfl,mulL (by omega) (by omega),?_⟩
 exact q3 k0 k1 hn H2 e2 ⟨⟨dx,fx2⟩,gl2⟩
theorem z5g:FnScope ["self","at"] ["self","at"] (z03 z1V):=⟨rfl,rfl,rfl,by decide+kernel,rfl,by decide+kernel,by decide+kernel⟩
theorem z5h {f:Addr} {fd:FuncData}
 {J0 J3:Addr} (Zo:Co K mg J0 J3)
 {J6 J7 J4 J5:Addr} (Z:Cl K mg J6 J7 J4 J5)
 (JE:Om P w K mg base (CX2 P w) J0 "check_line" ["self","at"] [] 1 (z3y J0 J5)) (D:Fun K "line" "Window.line" z1V f fd) (B:Blt mg):
 FnOk P w K mg base (CX2 P w) 2 f fd ["self","at"] (z3z J0 J5):=by
 refine D.ok2 z5g (fun vs H Q E h=>?_) (fun cdv A outer s H vs Q E hr h=>?_)
 .obtain⟨W,x,y,k,zs,rfl,_⟩:=h
  rfl
 obtain⟨W,x,y,k,zs,rfl,WA,q1,q2⟩:=h
 obtain⟨⟨dx,fx⟩,hl⟩:=id WA
 refine⟨_,(z04 (z0e (z4a JE hr z5N (pv 0) (z00 (pv 1) z02)))
  (z05 (z0I (z0C ix_list (z0d (pv 0) rfl) (pv 1) (fun _ _=>rfl))))),?_⟩
 refine L2.hold fun _ hB'=>?_
 walk_at "rs"
 refine⟨_,dx,_,rfl,fx,rfl,_,rfl,W,x,y,k,zs,rfl,WA,fun k0 k1=>?_,q2⟩
 have hk:k.toNat<zs.length:=by omega
 walk_at "rs"
 refine⟨_,J0,dx,_,_,rfl,fx,Zo.k_Window,Zo.n_Window_lines,rfl,?_⟩
 have ek:k=((k.toNat:Nat):Int):=by omega
 have e:=z0x (xs:=zs.map V.str) (j:=k.toNat) (v:=.str zs[k.toNat]) (by rw[List.getElem?_map,List.getElem?_eq_getElem hk];rfl)
 rw[<-ek]at e
 walk_at "rs"
 refine⟨_,_,_,_,rfl,rfl,SqL.of hl,e,?_⟩
 exact q1 _ k0 (List.getElem?_eq_getElem hk)
theorem z4e:FnScope ["self"] ["self"] (z03 z1G):=⟨rfl,rfl,rfl,by decide+kernel,rfl,by decide+kernel,by decide+kernel⟩
theorem z4f {f:Addr} {fd:FuncData}
 {J0 J3:Addr} (Zo:Co K mg J0 J3)
 {J6 J7 J4 J5:Addr} (Z:Cl K mg J6 J7 J4 J5)
 (Wc:Ow2 P w K mg base "view" ["font","lines","lead","x","y","wide","high"] 6 (zCG J3 J4)) (D:Fun K "shown" "Window.shown" z1G f fd) (B:Blt mg):
 FnOk P w K mg base CX0 7 f fd ["self"] (z7O J0 J3):=by
 refine D.ok z4e (fun vs H Q E h=>?_) (fun cdv A outer s H vs Q E hr h=>?_)
 .obtain⟨W,x,y,zs,Ss,hg,gap,rfl,_⟩:=h
  rfl
 obtain⟨W,x,y,zs,Ss,hg,gap,rfl,WA,FAt,FO,g1,g2,zn,hz,l0,l1,w1,w2,h1,h2,q⟩:=h
 obtain⟨⟨dx,fx⟩,hl⟩:=id WA
 refine⟨_,(z05 (z0I (zBU Wc hr rfl (z00 (z0d (pv 0) rfl) (z00 (z0d (pv 0) rfl) (z00 (z0d (pv 0) rfl) (z00 (z0d (pv 0) rfl) (z00 (z0d (pv 0) rfl) (z00 (z0d (pv 0) rfl) (z00 (z0d (pv 0) rfl) z02)))))))))),?_⟩
 walk_at "rs"
 refine⟨_,J0,dx,_,_,rfl,fx,Zo.k_Window,Zo.n_Window_font,rfl,?_⟩
 walk_at "rs"
 refine⟨_,J0,dx,_,_,rfl,fx,Zo.k_Window,Zo.n_Window_lines,rfl,?_⟩
 walk_at "rs"
 refine⟨_,J0,dx,_,_,rfl,fx,Zo.k_Window,Zo.n_Window_lead,rfl,?_⟩
 walk_at "rs"
 refine⟨_,J0,dx,_,_,rfl,fx,Zo.k_Window,Zo.n_Window_x,rfl,?_⟩
 walk_at "rs"
 refine⟨_,J0,dx,_,_,rfl,fx,Zo.k_Window,Zo.n_Window_y,rfl,?_⟩
 walk_at "rs"
 refine⟨_,J0,dx,_,_,rfl,fx,Zo.k_Window,Zo.n_Window_wide,rfl,?_⟩
 walk_at "rs"
 refine⟨_,J0,dx,_,_,rfl,fx,Zo.k_Window,Zo.n_Window_high,rfl,?_⟩
 have hb:z0q Ss zs=none:=List.findSome?_eq_none_iff.mpr fun z h=>z1F (hz z h).2
 refine⟨W.f,W.ll,zs,Ss,hg,gap,W.lead,x,y,W.wd,W.hh,rfl,FAt,FO,g1,g2,hl,zn,fun z h=>⟨(hz z h).1,(hz z h).2.inSg FO⟩,l0,l1,w1,w2,h1,h2,fun _ p H' s' PV=>q p H' s' PV,fun c i d H' hn=>?_⟩
 rw[hb]at hn
 cases hn
theorem z5i:FnScope ["self"] ["self"] (z03 z1W):=⟨rfl,rfl,rfl,by decide+kernel,rfl,by decide+kernel,by decide+kernel⟩
theorem z5j {f:Addr} {fd:FuncData}
 {J0 J3:Addr} (Zo:Co K mg J0 J3) (D:Fun K "spot" "Window.spot" z1W f fd) (B:Blt mg):
 FnOk P w K mg base CX0 1 f fd ["self"] (z5U J0):=by
 refine D.ok z5i (fun vs H Q E h=>?_) (fun cdv A outer s H vs Q E hr h=>?_)
 .obtain⟨W,x,y,zs,rfl,_⟩:=h
  rfl
 obtain⟨W,x,y,zs,rfl,WA,q⟩:=h
 obtain⟨⟨dx,fx⟩,hl⟩:=id WA
 refine⟨_,(z05 (z0I (z0t (z00 (z0d (pv 0) rfl) (z00 (z0d (pv 0) rfl) z02))))),?_⟩
 walk_at "rs"
 refine⟨_,J0,dx,_,_,rfl,fx,Zo.k_Window,Zo.n_Window_x,rfl,?_⟩
 walk_at "rs"
 refine⟨_,J0,dx,_,_,rfl,fx,Zo.k_Window,Zo.n_Window_y,rfl,?_⟩
 walk_at "rs"
 intro t nt
 exact q t _ (Same.new nt) upd_same
theorem Je:FnScope ["_law_cell","_law_signs_here","_law_size","_law_text_here","_law_n","_law_number"] ["_law_cell","_law_signs_here","_law_size"] (z03 z27):=⟨rfl,rfl,rfl,by decide+kernel,rfl,by decide+kernel,by decide+kernel⟩
theorem z91 {f:Addr} {fd:FuncData} (D:Df K mg "_law_text" z27 ["_law_cell","_law_signs_here","_law_size"] f fd) (B:Blt mg):
 Ow P w K mg base "_law_text" ["_law_cell","_law_signs_here","_law_size"] 1 z40:=by
 refine D.ow (D.F.ok Je (fun vs H Q E h=>?_) (fun cdv A outer s H vs Q E hr h=>?_))
 .obtain⟨c,l,n,ts,Ss,hg,rfl,_⟩:=h
  rfl
 obtain⟨c,l,n,ts,Ss,hg,rfl,SA,s1,n0,n1,q⟩:=h
 refine⟨_,(z04 (z0B (i:=3) Je.nd rfl (Or.inl rfl) z2X)
  (z04 (z1S PassesOwn.never rfl (z0S rfl B.f_range (z00 (pv 2) z02)) (z0K (i:=4) Je.nd rfl (Or.inl rfl)) (z04 (z0B (i:=5) Je.nd rfl (Or.inl rfl) (z08 z0g (z08 z0s (z08 z0s (z08 z0P (z08 z0g (pv 0) (z08 z2E z01 z01)) z01) (z08 z0P (z08 z0s (pv 4) (pv 4)) z01)) z01) z01))
  (z05 (z0B (i:=3) Je.nd rfl (Or.inl rfl) (z08 z2G (pv 3) (z0C ix_tup (z0C ix_list (pv 1) (z08 z0g (pv 5) (z07 z0F rfl B.f_len boot_len (z00 (pv 1) z02))) (fun _ _=>rfl)) z01 (fun _ _=>rfl)))))))
  (z05 (z0I (pv 3))))),?_⟩
 have hlen:=SA.len
 walk_at "rs"
 refine⟨(z2v (by omega) (by omega)).1,(z2v (by omega) (by omega)).2,?_⟩
 have e0:Str.ofString ""=Str.empty:=by decide+kernel
 refine z0v (n:=n.toNat) (fun i σ H2=>H2=H/\∃z v4 v5,σ=[some (.int c),some (.ref l),some (.int n),some (.str z),v4,v5]/\z.length=i/\TextOf Ss z) ⟨rfl,Str.empty,none,none,by rw[e0];rfl,rfl,(fun c h=>nomatch h)⟩ ?_ ?_
 .rintro i σ H2 hi ⟨rfl,z,v4,v5,rfl,hz,hT⟩
  have p0:0<=(0+(i:Int))*(0+(i:Int)):=Int.mul_nonneg (by omega) (by omega)
  have p1:(0+(i:Int))*(0+(i:Int))<=20*20:=Int.mul_le_mul (by omega) (by omega) (by omega) (by omega)
  walk_at "rs"
  refine⟨l,_,rfl,.inl (SqL.of SA.lst),?_⟩
  rw[List.length_map,hlen]
  obtain⟨N,eN⟩:∃N,N=((c%10^Int.toNat 30+1)*((0+(i:Int))*(0+(i:Int))+3)*48271)%99991:=⟨_,rfl⟩
  have r0:=Int.emod_nonneg N (show(Ss.length:Int)≠0 by omega)
  have r1:=Int.emod_lt_of_pos N (show(0:Int)<(Ss.length:Int) by omega)
  refine⟨_,_,rfl,rfl,(by show(0:Int)<_;omega),?_⟩
  have er:N%(Ss.length:Int)=(((N%(Ss.length:Int)).toNat:Nat):Int):=by omega
  generalize (N%(Ss.length:Int)).toNat=rn at er
  obtain⟨t,e1,⟨rl,ps,t1,_,_⟩,e3⟩:=SA.get (i:=rn) (by omega)
  rw[<-er]at e3
  subst eN
  refine⟨l,_,_,_,rfl,rfl,SqL.of SA.lst,e3,?_⟩
  walk_at "rs"
  refine⟨t,_,0,_,rfl,rfl,SqT.of t1,rfl,?_⟩
  have hrn:rn<Ss.length:=by omega
  have d3:(z++one (Ss[rn]'hrn).c).length=z.length+1:=by
   show(z.cps++#[(Ss[rn]'hrn).c]).size=z.cps.size+1
   rw[Array.size_append]
   rfl
  refine⟨_,_,rfl,rfl,Nat.le_of_lt (z0H (by rw[show(one (Ss[rn]'hrn).c).length=1 from rfl];omega)),?_⟩
  refine⟨rfl,_,_,_,rfl,by rw[d3,hz],fun d hd=>?_⟩
  have hd:d∈(z.cps++#[(Ss[rn]'hrn).c]).toList:=hd
  rw[Array.toList_append]at hd
  rcases List.mem_append.mp hd with h|h
  .exact hT d h
  .rw[List.mem_singleton.mp h]
   exact z6G (List.getElem_mem _)
 .rintro σ H2 ⟨rfl,z,v4,v5,rfl,hz,hT⟩
  walk_at "rs"
  exact q z hz hT
theorem Jk:FnScope ["_law_script","_law_k","_law_signs_here","_law_many","_law_lines_here","_law_n","_law_cell"] ["_law_script","_law_k","_law_signs_here","_law_many"] (z03 z1m):=⟨rfl,rfl,rfl,by decide+kernel,rfl,by decide+kernel,by decide+kernel⟩
theorem z7d {f:Addr} {fd:FuncData} (D:Df K mg "_law_lines" z1m ["_law_script","_law_k","_law_signs_here","_law_many"] f fd)
 (J8:Ow P w K mg base "_law_draw" ["_law_script","_law_k","_law_prime","_law_many"] 1 (z2z K))
 (JL:Ow P w K mg base "_law_text" ["_law_cell","_law_signs_here","_law_size"] 1 z40) (B:Blt mg):
 Ow P w K mg base "_law_lines" ["_law_script","_law_k","_law_signs_here","_law_many"] 2 (z6V K):=by
 refine D.ow (D.F.ok Jk (fun vs H Q E h=>?_) (fun cdv A outer s H vs Q E hr h=>?_))
 .obtain⟨a,ns,k,l,m,ts,Ss,hg,rfl,_⟩:=h
  rfl
 obtain⟨a,ns,k,l,m,ts,Ss,hg,rfl,hS,SA,s1,k0,k1,m0,m1,q⟩:=h
 refine⟨_,(z04 (z0B (i:=4) Jk.nd rfl (Or.inl rfl) (z1o z02))
  (z04 (z1S PassesOwn.never rfl (z0S rfl B.f_range (z00 (pv 3) z02)) (z0K (i:=5) Jk.nd rfl (Or.inl rfl)) (z04 (z0B (i:=6) Jk.nd rfl (Or.inl rfl) (z0G J8 hr rfl (z00 (pv 0) (z00 (z08 z0P (pv 1) (pv 5)) (z00 z01 (z00 z01 z02))))))
  (z05 (z0e (z3i PySem.F.plainAttrs_list PySem.F.slot_list_append PySem.F.type_list_append z0p (pv 4) (z00 (z0G JL hr rfl (z00 (pv 6) (z00 (pv 2) (z00 (z0G J8 hr rfl (z00 (pv 0) (z00 (z08 z0P (pv 1) (pv 5)) (z00 z01 (z00 z01 z02))))) z02)))) z02))))))
  (z05 (z0I (pv 4))))),?_⟩
 refine L2.hold fun _ hB'=>?_
 walk_at "rs"
 intro p np
 walk_at "rs"
 refine⟨(z2v (by omega) (by omega)).1,(z2v (by omega) (by omega)).2,?_⟩
 refine z0v (n:=m.toNat) (fun i σ H2=>Same H H2/\∃zs v5 v6,σ=[some (.ref a),some (.int k),some (.ref l),some (.int m),some (.ref p),v5,v6]/\z2Q H2 p zs/\zs.length=i/\∀z∈zs,z.length<=20/\TextOf Ss z) ⟨Same.new np,[],none,none,rfl,upd_same,rfl,(fun z h=>nomatch h)⟩ ?_ ?_
 .rintro i σ H2 hi ⟨s2,zs,v5,v6,rfl,gl,hz,hT⟩
  walk_at "rs"
  refine⟨a,ns,_,_,_,rfl,s2.seq hS,by omega,by omega,by decide,by decide,?_⟩
  walk_at "rs"
  refine⟨.inl ⟨rfl,_,SqL.of gl⟩,?_⟩
  walk_at "rs"
  refine⟨a,ns,_,_,_,rfl,s2.seq hS,by omega,by omega,by decide,by decide,?_⟩
  have b:=z1J (ns:=ns) (k:=k+(0+(i:Int))) (p:=10069) (m:=7) (by decide)
  refine⟨_,l,_,ts,Ss,hg,rfl,SA.mono s2,s1,b.1,by omega,fun z zl zT=>?_⟩
  refine⟨p,_,_,rfl,rfl,gl,by rw[List.length_map];exact z0H (by omega),?_⟩
  refine⟨s2.put np,zs++[z],_,_,rfl,by show _=_;rw[upd_same,List.map_append];rfl,by rw[List.length_append,hz];rfl,fun y hy=>?_⟩
  rcases List.mem_append.mp hy with h|h
  .exact hT y h
  .rw[List.mem_singleton.mp h]
   exact⟨by omega,zT⟩
 .rintro σ H2 ⟨s2,zs,v5,v6,rfl,gl,hz,hT⟩
  walk_at "rs"
  exact q p zs H2 s2 np gl hz hT
theorem JF:FnScope ["_law_state","_law_make","_law_rows_here","_law_step","_law_j","_law_at","_law_y","_law_columns_here","_law_row","_law_x","_law_cell"] ["_law_state","_law_make"] (z03 z2W):=⟨rfl,rfl,rfl,by decide+kernel,rfl,by decide+kernel,by decide+kernel⟩
theorem zAw {f:Addr} {fd:FuncData} (D:Df K mg "_law_due" z2W ["_law_state","_law_make"] f fd)
 {J0 J3:Addr} (Zo:Co K mg J0 J3)
 (Jb:Ow P w K mg base "_law_bits" ["_law_rows_here"] 1 z5F) (B:Blt mg):
 Ow P w K mg base "_law_due" ["_law_state","_law_make"] 2 (zAk J0 J3):=by
 refine D.ow (D.F.ok JF (fun vs H Q E h=>?_) (fun cdv A outer s H vs Q E hr h=>?_))
 .obtain⟨F,mk,M,b,wd,hh,x,y,zs,rfl,_⟩:=h
  rfl
 obtain⟨F,mk,M,b,wd,hh,x,y,zs,rfl,SW,MA,q⟩:=h
 refine⟨_,(z04 (z0B (i:=2) JF.nd rfl (Or.inl rfl) (z1o z02))
  (z04 (z0B (i:=3) JF.nd rfl (Or.inl rfl) (z08 z0P (z0C ix_tup (pv 1) z01 (fun _ _=>rfl)) (z0C ix_tup (pv 1) z01 (fun _ _=>rfl))))
  (z04 (z1S PassesOwn.never rfl (z0S rfl B.f_range (z00 (z0C ix_list (pv 0) z01 (fun _ _=>rfl)) z02)) (z0K (i:=4) JF.nd rfl (Or.inl rfl)) (z04 (z0B (i:=5) JF.nd rfl (Or.inl rfl) (z08 z0f (z08 z0P (z0C ix_tup (z0C ix_list (pv 0) z01 (fun _ _=>rfl)) z01 (fun _ _=>rfl)) (pv 4)) (pv 3)))
  (z04 (z0B (i:=6) JF.nd rfl (Or.inl rfl) (z08 z0g (z08 z0P (z0C ix_tup (z0C ix_list (pv 0) z01 (fun _ _=>rfl)) z01 (fun _ _=>rfl)) (pv 4)) (pv 3)))
  (z04 (z0B (i:=7) JF.nd rfl (Or.inl rfl) (z1o z02))
  (z2B (z0R (PW.pt (z7g (z2l z55 z37 z01 (pv 5) (z07 z0F rfl B.f_len boot_len (z00 (z0C ix_list (pv 0) z01 (fun _ _=>rfl)) z02))) (z54 (z0N z37 (pv 6) (z0C ix_tup (pv 1) z01 (fun _ _=>rfl)) (z0O _))))) (z05 (z0B (i:=7) JF.nd rfl (Or.inl rfl) (z0C ix_list (z0C ix_list (pv 0) z01 (fun _ _=>rfl)) (pv 5) (fun _ _=>rfl)))) z0L)
  (z04 (z0B (i:=8) JF.nd rfl (Or.inl rfl) (z1o z02))
  (z04 (z1S PassesOwn.never rfl (z99 rfl B.f_range (z00 (z0C ix_tup (z0C ix_list (pv 0) z01 (fun _ _=>rfl)) z01 (fun _ _=>rfl)) (z00 (z08 z0P (z0C ix_tup (z0C ix_list (pv 0) z01 (fun _ _=>rfl)) z01 (fun _ _=>rfl)) (z0C ix_list (pv 0) z01 (fun _ _=>rfl))) z02))) (z0K (i:=9) JF.nd rfl (Or.inl rfl)) (z04 (z0B (i:=10) JF.nd rfl (Or.inl rfl) z3c)
  (z2B (z0R (z2l z55 z37 z01 (pv 9) (z07 z0F rfl B.f_len boot_len (z00 (pv 7) z02))) (z05 (z0B (i:=10) JF.nd rfl (Or.inl rfl) (z0C ix_list (z0C ix_list (pv 7) (pv 9) (fun _ _=>rfl)) (pv 6) (fun _ _=>rfl)))) z0L)
  (z05 (z0e (z3i PySem.F.plainAttrs_list PySem.F.slot_list_append PySem.F.type_list_append z0p (pv 8) (z00 (pv 10) z02)))))))
  (z05 (z0e (z3i PySem.F.plainAttrs_list PySem.F.slot_list_append PySem.F.type_list_append z0p (pv 2) (z00 (pv 8) z02)))))))))))
  (z05 (z0I (z0G Jb hr rfl (z00 (pv 2) z02))))))),?_⟩
 refine L2.hold fun _ hB'=>?_
 obtain⟨sp,st,gp⟩:=SW.st
 have gp:=(z2Z gp).2
 obtain⟨qs,hql,gl,hqs⟩:=SW.cl
 have gm:=(z2Z MA.tup).2
 have h1:=MA.h1
 have l0:=MA.l0
 have zl:=SW.zl
 have w1:=SW.w1
 have w2:=SW.w2
 have h1':=SW.h1
 have h2':=SW.h2
 have x1:=SW.x1
 have x2:=SW.x2
 have y1:=SW.y1
 have y2:=SW.y2
 have hg2:=MA.h2
 have l1:=MA.l1
 have n20:=SW.n
 have b62:(100000000000:Int)<2^62:=by decide
 have CO:∀c∈zs.map (fun z=>z1d M.Ss M.hg M.gap z.cps.toList z.length),z3M M.hg c/\c.length<=20000:=fun c hc=>by
  obtain⟨z,hz',rfl⟩:=List.mem_map.mp hc
  obtain⟨o1,o2⟩:=z5Q MA.ok MA.g0 MA.g1 (SW.tx z hz').2 z.length (by rw[Array.length_toList];exact Nat.le_refl _)
  exact⟨o1,by have:=(SW.tx z hz').1;omega⟩
 obtain⟨cl,ecl⟩:∃cl,cl=zs.map (fun z=>z1d M.Ss M.hg M.gap z.cps.toList z.length):=⟨_,rfl⟩
 have ecn:cl.length=zs.length:=by rw[ecl,List.length_map]
 have hqs:∀(i:Nat) q c,qs[i]?=some q->cl[i]?=some c->∃ps,RowsAt H q ps c:=fun i q c e1 e2=>by
  rw[ecl,List.getElem?_map]at e2
  obtain⟨z,ez,rfl⟩:=Option.map_eq_some_iff.mp e2
  obtain⟨ps,R⟩:=hqs i q z e1 ez
  exact⟨ps,R.mono z1n⟩
 rw[<-ecl]at CO q
 walk_at "rs"
 intro l' nl
 have sl:=Same.new (o:=.lst []) nl
 walk_at "rs"
 refine⟨_,_,1,_,rfl,rfl,SqT.of (sl _ _ gm),rfl,?_⟩
 walk_at "rs"
 refine⟨_,_,3,_,rfl,rfl,SqT.of (sl _ _ gm),rfl,?_⟩
 walk_at "rs"
 refine⟨_,_,3,_,rfl,rfl,SqL.of (sl _ _ st),rfl,?_⟩
 walk_at "rs"
 refine⟨(z2v (by omega) (by omega)).1,(z2v (by omega) (by omega)).2,?_⟩
 refine z0v (n:=hh.toNat) (fun j σ H2=>∃ps v4 v5 v6 v7 v8 v9 v10,σ=[some (.ref b.st),some (.ref mk),some (.ref l'),some (.int ((M.hg:Int)+M.lead)),v4,v5,v6,v7,v8,v9,v10]/\RowsB H H2 l' ps (z1r wd.toNat j fun i j=>z3a M.hg M.lead cl (x+(i:Int)) (y+(j:Int)))) ⟨[],none,none,none,none,none,none,none,rfl,z6v (Same.refl _) nl⟩ ?_ ?_
 .rintro j σ H2 hj ⟨ps,v4,v5,v6,v7,v8,v9,v10,rfl,RB⟩
  walk_at "rs"
  refine⟨_,_,1,_,rfl,rfl,SqL.of (RB.same _ _ st),rfl,?_⟩
  walk_at "rs"
  refine⟨_,_,1,_,rfl,rfl,SqT.of (RB.same _ _ gp),rfl,?_⟩
  walk_at "rs"
  refine⟨_,_,1,_,rfl,rfl,SqL.of (RB.same _ _ st),rfl,?_⟩
  walk_at "rs"
  refine⟨_,_,1,_,rfl,rfl,SqT.of (RB.same _ _ gp),rfl,?_⟩
  walk_at "rs"
  intro p0 np0
  have e0:y+(0+(j:Int))=y+(j:Int):=by omega
  simp only[e0]
  have hp:(0:Int)<M.hg+M.lead:=by omega
  have m0:=Int.emod_nonneg (y+(j:Int)) (show(M.hg:Int)+M.lead≠0 by omega)
  have edc:∀xx,z3a M.hg M.lead cl xx (y+(j:Int))=if 0<=(y+(j:Int))/(M.hg+M.lead)/\(y+(j:Int))/(M.hg+M.lead)<cl.length/\(y+(j:Int))%(M.hg+M.lead)<M.hg then z1s (cl.getD ((y+(j:Int))/(M.hg+M.lead)).toNat []) xx ((y+(j:Int))%(M.hg+M.lead)).toNat else none:=fun _=>rfl
  generalize (y+(j:Int))/((M.hg:Int)+M.lead)=at' at edc⊢
  generalize (y+(j:Int))%((M.hg:Int)+M.lead)=yy at edc m0⊢
  obtain⟨n00,n0l,n0p⟩:=RB.fresh np0
  have RB3:=RB.put (o:=.lst []) n00 n0l n0p
  have g03:(upd H2 p0 (.lst [])) p0=some (.lst []):=upd_same
  generalize upd H2 p0 (.lst [])=H3 at RB3 g03
  have st3:=RB3.same _ _ st
  have gp3:=RB3.same _ _ gp
  refine⟨fun σ' H'=>H'=H3/\∃cq psq cc,σ'=[some (.ref b.st),some (.ref mk),some (.ref l'),some (.int ((M.hg:Int)+M.lead)),some (.int (0+(j:Int))),some (.int at'),some (.int yy),some (.ref cq),v8,v9,v10]/\RowsAt H3 cq psq cc/\z3M M.hg cc/\cc.length<=20000/\(∀xx,z3a M.hg M.lead cl xx (y+(j:Int))=z1s cc xx yy.toNat)/\(0<cc.length->yy<M.hg),?_,?_⟩
  .have no:¬(0<=at'/\at'<cl.length/\yy<M.hg)->∃cq psq cc,([some (.ref b.st),some (.ref mk),some (.ref l'),some (.int ((M.hg:Int)+M.lead)),some (.int (0+(j:Int))),some (.int at'),some (.int yy),some (.ref p0),v8,v9,v10]:List (Option V))=[some (.ref b.st),some (.ref mk),some (.ref l'),some (.int ((M.hg:Int)+M.lead)),some (.int (0+(j:Int))),some (.int at'),some (.int yy),some (.ref cq),v8,v9,v10]/\RowsAt H3 cq psq cc/\z3M M.hg cc/\cc.length<=20000/\(∀xx,z3a M.hg M.lead cl xx (y+(j:Int))=z1s cc xx yy.toNat)/\(0<cc.length->yy<M.hg):=fun n=>⟨p0,[],[],rfl,⟨g03,rfl,fun _ _ _ h=>nomatch h⟩,(fun _ h=>nomatch h),Nat.zero_le _,fun xx=>by rw[edc,if_neg n];unfold z1s;split<;>rfl,fun h=>absurd h (Nat.lt_irrefl 0)⟩
   walk_at "rs"
   refine z29 (fun c1=>?_) (fun c1=>?_)
   .walk_at "rs"
    refine⟨_,_,0,_,rfl,rfl,SqL.of st3,rfl,?_⟩
    refine⟨_,_,rfl,.inl (SqL.of (RB3.same _ _ zl)),?_⟩
    rw[List.length_map,<-ecn]
    walk_at "rs"
    refine z29 (fun c2=>?_) (fun c2=>?_)
    .walk_at "rs"
     refine⟨_,_,1,_,rfl,rfl,SqT.of (RB3.same _ _ gm),rfl,?_⟩
     walk_at "rs"
     refine z29 (fun c3=>?_) (fun c3=>?_)
     .have hn:at'.toNat<cl.length:=by omega
      have hnq:at'.toNat<qs.length:=by omega
      obtain⟨psq,RQ⟩:=hqs at'.toNat _ _ (List.getElem?_eq_getElem hnq) (List.getElem?_eq_getElem hn)
      obtain⟨CO',hcl2⟩:=CO _ (List.getElem_mem hn)
      have ea:at'=((at'.toNat:Nat):Int):=by omega
      have aq:=z0x (xs:=qs.map V.ref) (j:=at'.toNat) (v:=.ref qs[at'.toNat]) (by rw[List.getElem?_map,List.getElem?_eq_getElem hnq];rfl)
      rw[<-ea]at aq
      have edc2:∀xx,z3a M.hg M.lead cl xx (y+(j:Int))=z1s cl[at'.toNat] xx yy.toNat:=fun xx=>by
       rw[edc,if_pos ⟨c1,c2,c3⟩,List.getD_eq_getElem?_getD,List.getElem?_eq_getElem hn]
       rfl
      walk_at "rs"
      refine⟨_,_,5,_,rfl,rfl,SqL.of st3,rfl,?_⟩
      walk_at "rs"
      refine⟨_,_,_,_,rfl,rfl,SqL.of (RB3.same _ _ gl),aq,?_⟩
      exact⟨rfl,_,psq,_,rfl,RQ.mono RB3.same,CO',hcl2,edc2,fun _=>c3⟩
     .exact⟨rfl,no (by omega)⟩
    .exact⟨rfl,no (by omega)⟩
   .exact⟨_,rfl,z5y ⟨rfl,no (by omega)⟩⟩
  rintro σ3 H3' ⟨rfl,cq,psq,cc,rfl,RQ,CO',hcl,hdc,hyy⟩
  have hpl:=RQ.len
  walk_at "rs"
  intro p np
  obtain⟨np0',npl,npp⟩:=RB3.fresh np
  have RB4:=RB3.put (o:=.lst []) np0' npl npp
  have s4:=Same.new (o:=.lst []) np
  have g4:(upd H3' p (.lst [])) p=some (.lst []):=upd_same
  have npq:p≠cq/\∀r∈psq,r≠p:=by
   refine⟨fun e=>?_,fun r hr e=>?_⟩
   .have:=RQ.lst
    rw[<-e,np]at this
    cases this
   .obtain⟨k,hk,e'⟩:=List.mem_iff_getElem.mp hr
    have:=RQ.row k r _ (by rw[List.getElem?_eq_getElem hk,e']) (List.getElem?_eq_getElem (by omega))
    rw[e,np]at this
    cases this
  have RQ4:=RQ.mono s4
  generalize upd H3' p (.lst [])=H4 at RB4 s4 g4 RQ4
  have st4:=s4 _ _ st3
  have gp4:=s4 _ _ gp3
  walk_at "rs"
  refine⟨_,_,1,_,rfl,rfl,SqL.of st4,rfl,?_⟩
  walk_at "rs"
  refine⟨_,_,0,_,rfl,rfl,SqT.of gp4,rfl,?_⟩
  walk_at "rs"
  refine⟨_,_,1,_,rfl,rfl,SqL.of st4,rfl,?_⟩
  walk_at "rs"
  refine⟨_,_,0,_,rfl,rfl,SqT.of gp4,rfl,?_⟩
  walk_at "rs"
  refine⟨_,_,2,_,rfl,rfl,SqL.of st4,rfl,?_⟩
  walk_at "rs"
  refine⟨x,x+wd,rfl,⟨by omega,by omega,by omega,by omega⟩,?_⟩
  have eW:(x+wd-x).toNat=wd.toNat:=by omega
  rw[eW]
  refine z0v (lo:=x) (n:=wd.toNat) (fun i σ H5=>∃v9 v10,σ=[some (.ref b.st),some (.ref mk),some (.ref l'),some (.int ((M.hg:Int)+M.lead)),some (.int (0+(j:Int))),some (.int at'),some (.int yy),some (.ref cq),some (.ref p),v9,v10]/\RowsB H H5 l' ps (z1r wd.toNat j fun i j=>z3a M.hg M.lead cl (x+(i:Int)) (y+(j:Int)))/\RowsAt H5 cq psq cc/\H5 p=some (.lst (((List.range i).map fun(i:Nat)=>z3a M.hg M.lead cl (x+(i:Int)) (y+(j:Int))).map z0X))) ⟨v9,v10,rfl,RB4,RQ4,g4⟩ ?_ ?_
  .rintro i σ H5 hi ⟨v9,v10,rfl,RB5,RQ5,g5⟩
   have sz5:(((List.range i).map fun(i:Nat)=>z3a M.hg M.lead cl (x+(i:Int)) (y+(j:Int))).map z0X).length<sizeLine:=by
    rw[List.length_map,List.length_map,List.length_range]
    exact z0H (by omega)
   walk_at "rs"
   refine⟨fun σ' H'=>H'=H5/\σ'=[some (.ref b.st),some (.ref mk),some (.ref l'),some (.int ((M.hg:Int)+M.lead)),some (.int (0+(j:Int))),some (.int at'),some (.int yy),some (.ref cq),some (.ref p),some (.int (x+(i:Int))),some (z0X (z3a M.hg M.lead cl (x+(i:Int)) (y+(j:Int))))],?_,?_⟩
   .rw[hdc]
    walk_at "rs"
    refine z29 (fun c4=>?_) (fun c4=>?_)
    .walk_at "rs"
     refine⟨_,_,rfl,.inl (SqL.of RQ5.lst),?_⟩
     rw[List.length_map,hpl]
     walk_at "rs"
     refine z29 (fun c5=>?_) (fun c5=>?_)
     .have hx:(x+(i:Int)).toNat<cc.length:=by omega
      have hy':=hyy (by omega)
      obtain⟨pr,epr,gpr⟩:=RQ5.at hx
      have hcl3:=(CO' _ (List.getElem_mem hx)).1
      have e1:x+(i:Int)=(((x+(i:Int)).toNat:Nat):Int):=by omega
      have e2:yy=((yy.toNat:Nat):Int):=by omega
      have ar:atI (psq.map V.ref) (x+(i:Int))=some (.ref pr):=by
       rw[e1]
       exact z0x (by rw[List.getElem?_map,epr];rfl)
      have hyl:yy.toNat<(cc[(x+(i:Int)).toNat]'hx).length:=by omega
      have ac:=z0x (xs:=(cc[(x+(i:Int)).toNat]'hx).map z0X) (j:=yy.toNat) (v:=z0X ((cc[(x+(i:Int)).toNat]'hx)[yy.toNat]'hyl)) (by rw[List.getElem?_map,List.getElem?_eq_getElem hyl];rfl)
      rw[<-e2]at ac
      have el:(cc[(x+(i:Int)).toNat]'hx)[yy.toNat]'hyl=z1s cc (x+(i:Int)) yy.toNat:=by
       unfold z1s
       rw[if_pos c4,List.getElem?_eq_getElem hx]
       show _=((cc[(x+(i:Int)).toNat]'hx)[yy.toNat]?).join
       rw[List.getElem?_eq_getElem hyl]
       rfl
      walk_at "rs"
      refine⟨_,_,_,_,rfl,rfl,SqL.of RQ5.lst,ar,?_⟩
      walk_at "rs"
      refine⟨pr,_,_,_,rfl,rfl,SqL.of gpr,ac,?_⟩
      rw[el]
      exact⟨rfl,rfl⟩
     .rw[z2o (by omega)]
      exact⟨rfl,rfl⟩
    .rw[z6Q (by omega)]
     exact⟨_,rfl,z5y ⟨rfl,rfl⟩⟩
   rintro σ6 H6 ⟨rfl,rfl⟩
   refine⟨_,rfl,.inl ⟨rfl,_,SqL.of g5⟩,_,rfl,p,_,_,rfl,rfl,g5,sz5,?_⟩
   refine⟨_,_,rfl,RB5.put np0' npl npp,RQ5.put (Ne.symm npq.1) npq.2,?_⟩
   rw[upd_same,List.range_succ,List.map_append,List.map_append]
   rfl
  .rintro σ H5 ⟨v9,v10,rfl,RB5,RQ5,g5⟩
   have szp:(ps.map V.ref).length<sizeLine:=by
    rw[List.length_map]
    have:=RB5.rat.len
    rw[z7w]at this
    exact z0H (by omega)
   refine⟨_,rfl,.inl ⟨rfl,_,SqL.of RB5.rat.lst⟩,_,rfl,l',_,_,rfl,rfl,RB5.rat.lst,szp,?_⟩
   refine⟨ps++[p],_,_,_,_,_,_,_,rfl,?_⟩
   rw[z9x]
   exact RB5.push np0' npl g5
 .rintro σ H2 ⟨ps,v4,v5,v6,v7,v8,v9,v10,rfl,RB⟩
  have RD:Rect wd.toNat hh.toNat (zDt M.hg M.lead cl x y wd.toNat hh.toNat):=z2i (by omega) (by omega) (by omega) (by omega) fun _ _=>z4x (fun c hc=>(CO c hc).1) _ _ _
  apply L2.unhold hB'
  refine⟨_,rfl,l',ps,_,_,_,rfl,RB.rat,RD,fun d H3 s3 PD=>?_⟩
  exact q d H3 (RB.same.trans s3) PD
theorem Jf:FnScope ["_law_state","_law_make","_law_window","_law_spot","_law_at"] ["_law_state","_law_make"] (z03 z1B):=⟨rfl,rfl,rfl,by decide+kernel,rfl,by decide+kernel,by decide+kernel⟩
theorem z6g {f:Addr} {fd:FuncData} (D:Df K mg "_law_stands" z1B ["_law_state","_law_make"] f fd)
 {J0 J3:Addr} (Zo:Co K mg J0 J3)
 {J6 J7 J4 J5:Addr} (Z:Cl K mg J6 J7 J4 J5)
 (JI:Om P w K mg base (CX2 P w) J0 "line" ["self","at"] [] 2 (z3z J0 J5))
 (Jp:Om P w K mg base CX0 J0 "shown" ["self"] [] 7 (z7O J0 J3))
 (Jw:Om P w K mg base CX0 J0 "spot" ["self"] [] 1 (z5U J0))
 (JA:Ow P w K mg base "_law_whole" ["_law_found"] 1 z2h)
 (WD:Ow P w K mg base "_law_is_pic" ["_law_found","_law_due_here"] 2 zA6)
 (WW:Ow P w K mg base "_law_due" ["_law_state","_law_make"] 2 (zAk J0 J3)) (B:Blt mg):
 Ow P w K mg base "_law_stands" ["_law_state","_law_make"] 8 (z3b J0 J3):=by
 refine D.ow (D.F.ok Jf (fun vs H Q E h=>?_) (fun cdv A outer s H vs Q E hr h=>?_))
 .obtain⟨F,mk,M,b,wd,hh,x,y,zs,rfl,_⟩:=h
  rfl
 obtain⟨F,mk,M,b,wd,hh,x,y,zs,rfl,SW,MA,q⟩:=h
 refine⟨_,(z04 (z0B (i:=2) Jf.nd rfl (Or.inl rfl) (z0C ix_list (pv 0) z01 (fun _ _=>rfl)))
  (z04 (z0B (i:=3) Jf.nd rfl (Or.inl rfl) (z6J Jw hr z5x (pv 2)))
  (z04 (z0R (PW.pt (z2D (z0a (z0W (z07 z0n rfl B.f_isinstance boot_isinstance (z00 (pv 3) (z00 (z1K (v:=.ty "tuple") rfl B.f_tuple boot_tuple rfl) z02))))) (z2D (z0N z41 (z07 z0F rfl B.f_len boot_len (z00 (pv 3) z02)) z01 (z0O _)) (z1c (z0a (z0W (z07 (z2L rfl) rfl B.f_all boot_all (z00 (z1L (locs:=["_law_number"]) (ix:=[]) rfl (BlkSc.look (dsc:=z03 z1B) (N:=["_law_state","_law_make","_law_window","_law_spot","_law_at"]) rfl rfl (by decide+kernel)) (zBs (pv 3)) (fun _ _ _ _ _ _=>(z0K (i:=0) (by decide+kernel:(["_law_number"]:List Str).Nodup) rfl (Or.inl rfl))) (fun _ _ _ _ _ _=>z0h) (fun _ _ _ _ _ _=>(z0G JA hr rfl (z00 (pv 0) z02)))) z02)))))))) (z05 (z0I z2A)) z0L)
  (z04 (z0R (PW.pt (z2D (z0N (zDc (n:=0) (zDa hr)) (pv 3) (z0C ix_list (pv 0) z01 (fun _ _=>rfl)) (z0O _)) (z1c (z0a (z0W (z0G WD hr rfl (z00 (z6J Jp hr z5x (pv 2)) (z00 (z0G WW hr rfl (z00 (pv 0) (z00 (pv 1) z02))) z02)))))))) (z05 (z0I z2A)) z0L)
  (z04 (z1S PassesOwn.never rfl (z0S rfl B.f_range (z00 (z07 z0F rfl B.f_len boot_len (z00 (z0C ix_list (pv 0) z01 (fun _ _=>rfl)) z02)) z02)) (z0K (i:=4) Jf.nd rfl (Or.inl rfl)) (z05 (z0R (PW.pt (z2D (z0a (z0W (z07 z0n rfl B.f_isinstance boot_isinstance (z00 (z4a JI hr z4s (pv 2) (z00 (pv 4) z02)) (z00 (z1K (v:=.ty "str") rfl B.f_str boot_str rfl) z02))))) (z1c (z0N z41 (z4a JI hr z4s (pv 2) (z00 (pv 4) z02)) (z0C ix_list (z0C ix_list (pv 0) z01 (fun _ _=>rfl)) (pv 4) (fun _ _=>rfl)) (z0O _))))) (z05 (z0I z2A)) z0L)))
  (z05 (z0I z2A))))))),?_⟩
 refine L2.hold fun _ hB'=>?_
 obtain⟨sp,st,gp⟩:=SW.st
 have gp:=(z2Z gp).2
 obtain⟨⟨dx,fx⟩,hl⟩:=id SW.wn
 have n20:=SW.n
 walk_at "rs"
 refine⟨_,_,4,_,rfl,rfl,SqL.of st,rfl,?_⟩
 walk_at "rs"
 refine⟨_,dx,_,rfl,fx,rfl,?_⟩
 refine⟨⟨b.w,b.ll,M.f,M.lead,wd,hh⟩,x,y,zs,rfl,SW.wn,fun t H1 s1 gt=>?_⟩
 walk_at "rs"
 refine⟨_,"tuple","tuple",rfl,by decide,by simp only[tyS,gt],_,rfl,z1f rfl ?_⟩
 refine⟨_,rfl,t,_,rfl,.inr (SqT.of gt),rfl,_,rfl,z1f rfl ?_⟩
 refine⟨_,rfl,t,rfl,⟨_,SqT.of gt⟩,?_⟩
 refine z0i (n:=2) (fun i σ zs H4=>∃v,σ=[v]/\zs=(List.replicate i true).map V.bl/\H4=H1) ⟨none,rfl,rfl,rfl⟩ (by decide) ?_ ?_ ?_ ?_ ?_
 .rintro i σ zs H4 ⟨v,_,rfl,_⟩
  rw[List.length_map,List.length_replicate]
 .rintro σ zs H4 ⟨v,_,_,rfl⟩
  exact⟨_,SqT.of gt,by show 2<=2;decide⟩
 .rintro i σ zs H4 hi ⟨v,_,_,rfl⟩
  exact⟨_,_,SqT.of gt,List.getElem?_eq_getElem (show i<([x,y].map V.int).length from hi)⟩
 .rintro i σ zs H4 z H' Z hi ⟨v,rfl,rfl,rfl⟩ ⟨rfl,hx⟩ hZ
  obtain⟨z,rfl⟩:=z7s (List.mem_of_getElem? (hx _ (SqT.of (xs:=[x,y].map V.int) gt)))
  refine⟨_,rfl,_,"int",rfl,rfl,?_⟩
  refine hZ _ _ _ ⟨_,rfl,?_,rfl⟩
  rw[List.replicate_succ',List.map_append]
  rfl
 rintro σ zs' H4 ⟨v,rfl,rfl,rfl⟩ l' hl'
 refine⟨l',List.replicate 2 true,rfl,SqL.of upd_same,_,rfl,z1f rfl ?_⟩
 have s5:=s1.trans (Same.new (o:=.lst ((List.replicate 2 true).map V.bl)) hl')
 have gt5:=(Same.new (o:=.lst ((List.replicate 2 true).map V.bl)) hl') _ _ gt
 generalize upd H4 l' (.lst ((List.replicate 2 true).map V.bl))=H5 at s5 gt5
 walk_at "rs"
 refine⟨_,_,1,_,rfl,rfl,SqL.of (s5 _ _ st),rfl,?_⟩
 have gt5:H5 t=some (.tup ([x,y].map V.int)):=gt5
 have gp5:H5 sp=some (.tup ([x,y].map V.int)):=s5 _ _ gp
 refine⟨EqT.tints gt5 gp5,_,rfl,z1f rfl ?_⟩
 walk_at "rs"
 refine⟨_,dx,_,rfl,s5 _ _ fx,rfl,?_⟩
 refine⟨⟨b.w,b.ll,M.f,M.lead,wd,hh⟩,x,y,zs,M.Ss,M.hg,M.gap,rfl,SW.wn.mono s5,(MA.fa.mono z1n).mono s5,MA.ok,MA.h1,MA.h2,by omega,fun z h=>⟨by have:=(SW.tx z h).1;omega,(SW.tx z h).2⟩,MA.l0,MA.l1,SW.w1,SW.w2,SW.h1,SW.h2,fun p H6 s6 PV=>?_⟩
 have t6:=s5.trans s6
 walk_at "rs"
 refine⟨F,mk,M,b,wd,hh,x,y,zs,rfl,SW.mono t6,MA.mono (z0u (SameX.of t6)),fun pd H7 s7 PD=>?_⟩
 rw[zBi MA.ok MA.h1 MA.g0 MA.l0 (fun z h=>(SW.tx z h).2)]at PV
 have RD:Rect wd.toNat hh.toNat (zDt M.hg M.lead (zs.map fun z=>z1d M.Ss M.hg M.gap z.cps.toList z.length) x y wd.toNat hh.toNat):=by
  have w1:=SW.w1
  have w2:=SW.w2
  have h1:=SW.h1
  have h2:=SW.h2
  refine z2i (by omega) (by omega) (by omega) (by omega) fun _ _=>z4x (fun c hc=>?_) _ _ _
  obtain⟨z,hz',rfl⟩:=List.mem_map.mp hc
  exact(z5Q MA.ok MA.g0 MA.g1 (SW.tx z hz').2 z.length (by rw[Array.length_toList];exact Nat.le_refl _)).1
 walk_at "rs"
 refine⟨p,pd,_,_,_,rfl,PV.mono s7,PD,RD,fun H8 s8=>?_⟩
 have t8:=(t6.trans s7).trans s8
 walk_at "rs"
 refine⟨_,_,0,_,rfl,rfl,SqL.of (t8 _ _ st),rfl,?_⟩
 refine⟨_,_,rfl,.inl (SqL.of (t8 _ _ SW.zl)),?_⟩
 rw[List.length_map]
 walk_at "rs"
 refine⟨(z2v (by omega) (by omega)).1,(z2v (by omega) (by omega)).2,?_⟩
 refine z0v (n:=((zs.length:Int)).toNat) (fun i σ H9=>H9=H8/\∃v4,σ=[some (.ref b.st),some (.ref mk),some (.ref b.w),some (.ref t),v4]) ⟨rfl,none,rfl⟩ ?_ ?_
 .rintro i σ H9 hi ⟨rfl,v4,rfl⟩
  have hil:i<zs.length:=by omega
  have ei:(0:Int)+(i:Int)=((i:Nat):Int):=by omega
  have ha:atI (zs.map V.str) (0+(i:Int))=some (.str (zs[i]'hil)):=by
   rw[ei]
   exact z0x (by rw[List.getElem?_map,List.getElem?_eq_getElem hil];rfl)
  have hg:zs[((0:Int)+(i:Int)).toNat]?=some (zs[i]'hil):=by
   rw[ei,Int.toNat_natCast]
   exact List.getElem?_eq_getElem hil
  walk_at "rs"
  refine⟨_,dx,_,rfl,t8 _ _ fx,rfl,?_⟩
  walk_at "rs"
  refine⟨⟨b.w,b.ll,M.f,M.lead,wd,hh⟩,x,y,_,zs,rfl,SW.wn.mono t8,fun z _ ez=>?_,fun z=>by omega⟩
  rw[hg]at ez
  cases ez
  walk_at "rs"
  refine⟨_,"str","str",rfl,by decide,rfl,_,rfl,z1f rfl ?_⟩
  walk_at "rs"
  refine⟨_,dx,_,rfl,t8 _ _ fx,rfl,?_⟩
  walk_at "rs"
  refine⟨⟨b.w,b.ll,M.f,M.lead,wd,hh⟩,x,y,_,zs,rfl,SW.wn.mono t8,fun z _ ez=>?_,fun z=>by omega⟩
  rw[hg]at ez
  cases ez
  walk_at "rs"
  refine⟨_,_,0,_,rfl,rfl,SqL.of (t8 _ _ st),rfl,?_⟩
  walk_at "rs"
  refine⟨_,_,_,_,rfl,rfl,SqL.of (t8 _ _ SW.zl),ha,?_⟩
  walk_at "rs"
  refine zBD (fun n=>absurd rfl n) (fun _=>?_)
  exact⟨rfl,_,rfl⟩
 .rintro σ H9 ⟨rfl,v4,rfl⟩
  walk_at "rs"
  exact q _ t8
theorem J9:FnScope ["_law_cell","_law_state","_law_spot","_law_way","_law_steps","_law_great","_law_same","_law_found"] ["_law_cell","_law_state"] (z03 z0V):=⟨rfl,rfl,rfl,by decide+kernel,rfl,by decide+kernel,by decide+kernel⟩
theorem z4g {f:Addr} {fd:FuncData} (D:Df K mg "_law_scrolled" z0V ["_law_cell","_law_state"] f fd)
 {J0 J3:Addr} (Zo:Co K mg J0 J3)
 (Ji:Om P w K mg base CX0 J0 "scroll" ["self","dx","dy"] [] 2 (z5T J0))
 (JA:Ow P w K mg base "_law_whole" ["_law_found"] 1 z2h) (B:Blt mg):
 Ow P w K mg base "_law_scrolled" ["_law_cell","_law_state"] 3 (z4y J0):=by
 refine D.ow (D.F.ok J9 (fun vs H Q E h=>?_) (fun cdv A outer s H vs Q E hr h=>?_))
 .obtain⟨F,M,b,wd,hh,x,y,zs,c,rfl,_⟩:=h
  rfl
 obtain⟨F,M,b,wd,hh,x,y,zs,c,rfl,SW,q⟩:=h
 refine⟨_,(z04 (z0B (i:=2) J9.nd rfl (Or.inr rfl) (z0C ix_list (pv 1) z01 (fun _ _=>rfl)))
  (z04 (z0B (i:=3) J9.nd rfl (Or.inl rfl) (z08 z0g (pv 0) z01))
  (z04 (z0B (i:=4) J9.nd rfl (Or.inr rfl) (z0t (z00 (z08 z1g (z08 z0g (z08 z0f (pv 0) z01) z01) z01) (z00 (z08 z1g (z08 z0g (z08 z0f (pv 0) z01) z01) z01) z02))))
  (z2B (z0R (z0N z36 (pv 3) z01 (z0O _)) (z04 (z0B (i:=5) J9.nd rfl (Or.inl rfl) (z08 zCe (z08 z0g (z08 z0f (pv 0) z01) (z08 z2E z01 z01)) (z08 z2E z01 z01)))
  (z05 (z0B (i:=4) J9.nd rfl (Or.inr rfl) (z0t (z00 (z08 z1g (z08 z0g (pv 5) (z08 z0P (z08 z0s z01 (z08 z2E z01 z01)) z01)) (z08 z2E z01 z01)) (z00 (z08 z1g (z08 z0g (z08 z0f (pv 5) z01) (z08 z0P (z08 z0s z01 (z08 z2E z01 z01)) z01)) (z08 z2E z01 z01)) z02)))))) z0L)
  (z2B (z0R (z0N z36 (pv 3) z01 (z0O _)) (z05 (z0B (i:=4) J9.nd rfl (Or.inr rfl) (z0t (z00 (z08 z1g (z08 z0P (z2x z2F (z0C ix_tup (pv 2) z01 (fun _ _=>rfl))) (z08 z0g (z08 z0f (pv 0) z01) z01)) z01) (z00 (z08 z1g (z08 z0P (z2x z2F (z0C ix_tup (pv 2) z01 (fun _ _=>rfl))) (z08 z0g (z08 z0f (pv 0) z01) z01)) z01) z02))))) z0L)
  (z04 (z0B (i:=4) J9.nd rfl (Or.inr rfl) (z1L (locs:=["_law_k"]) (ix:=[2,4]) rfl (BlkSc.look (dsc:=z03 z0V) (N:=["_law_cell","_law_state","_law_spot","_law_way","_law_steps","_law_great","_law_same","_law_found"]) rfl rfl (by decide+kernel)) (z0S rfl B.f_range (z00 z01 z02)) (fun _ _ _ _ _ _=>(z0K (i:=0) (by decide+kernel:(["_law_k","_law_spot","_law_steps"]:List Str).Nodup) rfl (Or.inl rfl))) (fun _ _ _ _ _ _=>z0h) (fun _ _ _ _ _ _=>(z07 (z2H rfl) rfl B.f_max boot_max (z00 (z08 z1g (z2x z2F (z08 z2E z01 z01)) (z0C z1H (pv 1) (pv 0) (fun _ _=>rfl))) (z00 (z07 (z42 rfl) rfl B.f_min boot_min (z00 (z08 z1g (z08 z2E z01 z01) (z0C z1H (pv 1) (pv 0) (fun _ _=>rfl))) (z00 (z0C zCa (pv 2) (pv 0) (fun _ _=>rfl)) z02))) z02))))))
  (z04 (z0B (i:=4) J9.nd rfl (Or.inr rfl) (z1L (locs:=["_law_step"]) (ix:=[]) rfl (BlkSc.look (dsc:=z03 z0V) (N:=["_law_cell","_law_state","_law_spot","_law_way","_law_steps","_law_great","_law_same","_law_found"]) rfl rfl (by decide+kernel)) (z1q (pv 4)) (fun _ _ _ _ _ _=>(z0K (i:=0) (by decide+kernel:(["_law_step"]:List Str).Nodup) rfl (Or.inl rfl))) (fun _ _ _ _ _ _=>z0h) (fun _ _ _ _ _ _=>(z07 (z2H rfl) rfl B.f_max boot_max (z00 (z2x z2F (z08 z2E z01 z01)) (z00 (z07 (z42 rfl) rfl B.f_min boot_min (z00 (z08 z2E z01 z01) (z00 (pv 0) z02))) z02))))))
  (z04 (z7i (z0t (z00 (z08 z0P (z0C ix_tup (pv 2) z01 (fun _ _=>rfl)) (z0C z48 (pv 4) z01 (fun _ _=>rfl))) (z00 (z08 z0P (z0C ix_tup (pv 2) z01 (fun _ _=>rfl)) (z0C z48 (pv 4) z01 (fun _ _=>rfl))) z02))) (z7h (pv 1) z01 set_list))
  (z04 (z0B (i:=6) J9.nd rfl (Or.inl rfl) (z08 z0s (z07 (z2H rfl) rfl B.f_max boot_max (z00 z01 (z00 (z08 z1g (z0C ix_list (pv 1) z01 (fun _ _=>rfl)) (z07 z3n rfl B.f_abs boot_abs (z00 (z0C z48 (pv 4) z01 (fun _ _=>rfl)) z02))) z02))) (z07 (z2H rfl) rfl B.f_max boot_max (z00 z01 (z00 (z08 z1g (z0C ix_list (pv 1) z01 (fun _ _=>rfl)) (z07 z3n rfl B.f_abs boot_abs (z00 (z0C z48 (pv 4) z01 (fun _ _=>rfl)) z02))) z02)))))
  (z04 (z0B (i:=7) J9.nd rfl (Or.inl rfl) (z4a Ji hr z5x (z0C ix_list (pv 1) z01 (fun _ _=>rfl)) (z00 (z0C z48 (pv 4) z01 (fun _ _=>rfl)) (z00 (z0C z48 (pv 4) z01 (fun _ _=>rfl)) z02))))
  (z05 (z0I (z2t (z0G JA hr rfl (z00 (pv 7) z02)) (z2s (z1y z36 (pv 7) (z08 z1g (z08 z0s (z0C ix_list (pv 1) z01 (fun _ _=>rfl)) (z0C ix_list (pv 1) z01 (fun _ _=>rfl))) (pv 6)) (z0O _)))))))))))))))),?_⟩
 refine L2.hold fun _ hB'=>?_
 obtain⟨sp,st,gp⟩:=SW.st
 obtain⟨nsp,gp⟩:=z2Z gp
 have w1:=SW.w1
 have w2:=SW.w2
 have h1:=SW.h1
 have h2:=SW.h2
 walk_at "rs"
 refine⟨_,_,1,_,rfl,rfl,SqL.of st,rfl,?_⟩
 walk_at "rs"
 intro t1 nt1
 apply L2.unhold hB'
 refine⟨fun σ' H'=>Same H H'/\∃t u v v5,H' t=some (.tup [.int u,.int v])/\σ'=[some (.int c),some (.ref b.st),some (.ref sp),some (.int (c%4)),some (.ref t),v5,none,none],?_,?_⟩
 .walk_at "rs"
  refine z29 (fun _=>?_) (fun _=>?_)
  .have a1:=Int.emod_nonneg (c/4) (show(10:Int)^Int.toNat 30≠0 by decide)
   have a2:=Int.emod_lt_of_pos (c/4) (show(0:Int)<10^Int.toNat 30 by decide)
   have a3:(10:Int)^Int.toNat 30+1000000<2^1000:=by decide
   have a4:((2^1000:Nat):Int)=2^1000:=by decide
   walk_at "rs"
   intro t2 nt2
   exact⟨(Same.new nt1).trans (Same.new nt2),t2,_,_,_,upd_same,rfl⟩
  .exact⟨Same.new nt1,t1,_,_,_,upd_same,rfl⟩
 rintro σ2 H2 ⟨s2,t,u,v,v5,gt,rfl⟩
 refine⟨fun σ' H'=>Same H H'/\∃t u v v5,H' t=some (.tup [.int u,.int v])/\σ'=[some (.int c),some (.ref b.st),some (.ref sp),some (.int (c%4)),some (.ref t),v5,none,none],?_,?_⟩
 .walk_at "rs"
  refine z29 (fun _=>?_) (fun _=>?_)
  .walk_at "rs"
   refine⟨_,_,0,_,rfl,rfl,SqT.of (s2 _ _ gp),rfl,?_⟩
   walk_at "rs"
   refine⟨_,_,1,_,rfl,rfl,SqT.of (s2 _ _ gp),rfl,?_⟩
   walk_at "rs"
   intro t3 nt3
   exact⟨s2.trans (Same.new nt3),t3,_,_,_,upd_same,rfl⟩
  .exact⟨s2,t,_,_,_,gt,rfl⟩
 rintro σ3 H3 ⟨s3,t,u,v,v5,gt,rfl⟩
 refine L2.hold fun _ hB'=>?_
 have gp3:=s3 _ _ gp
 have e9:(10:Int)^Int.toNat 9=1000000000:=by decide
 have x1:=SW.x1
 have x2:=SW.x2
 have y1:=SW.y1
 have y2:=SW.y2
 walk_at "rs"
 refine⟨(z2v (by omega) (by omega)).1,(z2v (by omega) (by omega)).2,?_⟩
 refine z0i (n:=2) (fun i σ us H4=>∃v' ps,σ=[v',some (.ref sp),some (.ref t)]/\us=(ps:List Int).map V.int/\H4=H3/\ps.length=i/\∀(k:Nat) p,ps[k]?=some p-> -1000000000-(if k=0 then x else y)<=p/\p<=1000000000-(if k=0 then x else y)) ⟨none,[],rfl,rfl,rfl,rfl,(fun k p h=>by simp at h)⟩ (by decide) ?_ ?_ ?_ ?_ ?_
 .rintro i σ us H4 ⟨v',ps,_,rfl,_,hi,_⟩
  rw[List.length_map,hi]
 .rintro σ us H4 _
  exact Nat.le_refl _
 .intro i σ us H4 hi _
  exact hi
 .rintro i σ us H4 z H' Z hi ⟨v',ps,rfl,rfl,rfl,hpi,hp⟩ ⟨rfl,rfl⟩ hZ
  have fin:∀w,(-1000000000-(if i=0 then x else y)<=w/\w<=1000000000-(if i=0 then x else y))->∀(k:Nat) p,(ps++[w])[k]?=some p-> -1000000000-(if k=0 then x else y)<=p/\p<=1000000000-(if k=0 then x else y):=fun w hw k p e=>by
   by_cases hk:k<ps.length
   .rw[List.getElem?_append_left hk]at e
    exact hp k p e
   .rw[List.getElem?_append_right (by omega)]at e
    cases hj:k-ps.length with
    |zero=>
     rw[hj]at e
     cases e
     rw[show k=i by omega]
     exact hw
    |succ n=>rw[hj]at e;cases e
  have ai:atI [V.int x,V.int y] (0+(i:Int))=some (.int (if i=0 then x else y)):=match i,hi with
   |0,_=>rfl
   |1,_=>rfl
  have at':atI [V.int u,V.int v] (0+(i:Int))=some (.int (if i=0 then u else v)):=match i,hi with
   |0,_=>rfl
   |1,_=>rfl
  walk_at "rs"
  refine⟨_,_,_,_,rfl,rfl,SqT.of gp3,ai,?_⟩
  walk_at "rs"
  refine⟨_,_,_,_,rfl,rfl,SqT.of gp3,ai,?_⟩
  walk_at "rs"
  refine .inr (.inl ⟨_,_,_,_,rfl,rfl,SqT.of gt,at',?_⟩)
  refine⟨_,_,rfl,?_⟩
  refine⟨_,_,rfl,?_⟩
  refine hZ _ _ _ ⟨_,ps++[_],rfl,by rw[List.map_append];rfl,rfl,by rw[List.length_append,hpi];rfl,fin _ ?_⟩
  rw[e9]
  exact zDx
 rintro σ us H4 ⟨v',ps,rfl,rfl,rfl,hpi,hp⟩ l1 nl1
 obtain⟨p0,p1,rfl⟩:∃p0 p1,ps=[p0,p1]:=match ps,hpi with|[a,b],_=>⟨a,b,rfl⟩
 have b0: -1000000000-x<=p0/\p0<=1000000000-x:=hp 0 p0 rfl
 have b1: -1000000000-y<=p1/\p1<=1000000000-y:=hp 1 p1 rfl
 have s5:=s3.trans (Same.new (o:=.lst ([p0,p1].map V.int)) nl1)
 have g5:(upd H4 l1 (.lst ([p0,p1].map V.int))) l1=some (.lst [.int p0,.int p1]):=upd_same
 generalize upd H4 l1 (.lst ([p0,p1].map V.int))=H5 at s5 g5
 walk_at "rs"
 refine⟨⟨_,SqL.of g5⟩,?_⟩
 refine z0i (n:=2) (fun i σ us H6=>∃v' ps,σ=[v']/\us=(ps:List Int).map V.int/\H6=H5/\ps.length=i/\∀(k:Nat) p,ps[k]?=some p-> -1000000000-(if k=0 then x else y)<=p/\p<=1000000000-(if k=0 then x else y)) ⟨none,[],rfl,rfl,rfl,rfl,(fun k p h=>by simp at h)⟩ (by decide) ?_ ?_ ?_ ?_ ?_
 .rintro i σ us H6 ⟨v',ps,_,rfl,_,hi,_⟩
  rw[List.length_map,hi]
 .rintro σ us H6 ⟨v',ps,_,_,rfl,_⟩
  exact⟨_,SqL.of g5,by show 2<=2;decide⟩
 .rintro i σ us H6 hi ⟨v',ps,_,_,rfl,_⟩
  exact⟨_,_,SqL.of g5,List.getElem?_eq_getElem (show i<([.int p0,.int p1]:List V).length from hi)⟩
 .rintro i σ us H6 z H' Z hi ⟨v',ps,rfl,rfl,rfl,hpi,hp⟩ ⟨rfl,hx⟩ hZ
  have fin:∀w,(-1000000000-(if i=0 then x else y)<=w/\w<=1000000000-(if i=0 then x else y))->∀(k:Nat) p,(ps++[w])[k]?=some p-> -1000000000-(if k=0 then x else y)<=p/\p<=1000000000-(if k=0 then x else y):=fun w hw k p e=>by
   by_cases hk:k<ps.length
   .rw[List.getElem?_append_left hk]at e
    exact hp k p e
   .rw[List.getElem?_append_right (by omega)]at e
    cases hj:k-ps.length with
    |zero=>
     rw[hj]at e
     cases e
     rw[show k=i by omega]
     exact hw
    |succ n=>rw[hj]at e;cases e
  have e:=hx _ (SqL.of g5)
  obtain⟨w,rfl,bw⟩:∃w,z=.int w/\ -1000000000-(if i=0 then x else y)<=w/\w<=1000000000-(if i=0 then x else y):=by
   match i,hi,e with
   |0,_,e=>cases e;exact⟨p0,rfl,b0⟩
   |1,_,e=>cases e;exact⟨p1,rfl,b1⟩
  have bx: -1000000000<=(if i=0 then x else y)/\(if i=0 then x else y)<=1000000000:=by
   split<;>omega
  walk_at "rs"
  refine⟨_,_,rfl,?_⟩
  refine⟨_,_,rfl,?_⟩
  refine hZ _ _ _ ⟨_,ps++[_],rfl,by rw[List.map_append];rfl,rfl,by rw[List.length_append,hpi];rfl,fin _ ?_⟩
  rw[e9]
  generalize (if i=0 then x else y)=xk at bw bx
  repeat' split
  all_goals omega
 rintro σ us H6 ⟨v',ps,rfl,rfl,rfl,hpi,hp⟩ l2 nl2
 obtain⟨q0,q1,rfl⟩:∃p0 p1,ps=[p0,p1]:=match ps,hpi with|[a,b],_=>⟨a,b,rfl⟩
 have b0: -1000000000-x<=q0/\q0<=1000000000-x:=hp 0 q0 rfl
 have b1: -1000000000-y<=q1/\q1<=1000000000-y:=hp 1 q1 rfl
 have s7:=s5.trans (Same.new (o:=.lst ([q0,q1].map V.int)) nl2)
 have g7:(upd H6 l2 (.lst ([q0,q1].map V.int))) l2=some (.lst [.int q0,.int q1]):=upd_same
 have nl2':H l2=none:=s5.free nl2
 generalize upd H6 l2 (.lst ([q0,q1].map V.int))=H7 at s7 g7
 have gp7:=s7 _ _ gp
 walk_at "rs"
 refine⟨_,_,0,_,rfl,rfl,SqT.of gp7,rfl,?_⟩
 walk_at "rs"
 refine .inl ⟨_,_,0,_,rfl,rfl,SqL.of g7,rfl,?_⟩
 walk_at "rs"
 refine⟨_,_,1,_,rfl,rfl,SqT.of gp7,rfl,?_⟩
 walk_at "rs"
 refine .inl ⟨_,_,1,_,rfl,rfl,SqL.of g7,rfl,?_⟩
 walk_at "rs"
 intro t9 nt9
 have nt9':H t9=none:=s7.free nt9
 have s8:=s7.trans (Same.new (o:=.tup [.int (x+q0),.int (y+q1)]) nt9)
 have g8:=(Same.new (o:=.tup [.int (x+q0),.int (y+q1)]) nt9) _ _ g7
 have gt8:(upd H7 t9 (.tup [.int (x+q0),.int (y+q1)])) t9=some (.tup [.int (x+q0),.int (y+q1)]):=upd_same
 obtain⟨⟨dx,fx⟩,hl⟩:=id SW.wn
 obtain⟨⟨n1,n2,n3,n4⟩,⟨n5,n6,n7⟩,⟨n8,n9⟩,n10⟩:=Bw.nd5 SW.nd
 walk_at "rs"
 refine⟨b.st,_,1,1,rfl,rfl,s8 _ _ st,rfl,?_⟩
 dsimp only[List.set]
 have st9:(upd (upd H7 t9 (.tup [.int (x+q0),.int (y+q1)])) b.st (.lst [.ref b.zl,.ref t9,.int wd,.int hh,.ref b.w,.ref b.cl])) b.st=some (.lst [.ref b.zl,.ref t9,.int wd,.int hh,.ref b.w,.ref b.cl]):=upd_same
 have g9:(upd (upd H7 t9 (.tup [.int (x+q0),.int (y+q1)])) b.st (.lst [.ref b.zl,.ref t9,.int wd,.int hh,.ref b.w,.ref b.cl])) l2=some (.lst [.int q0,.int q1]):=(z06 (fun e=>by rw[e,st]at nl2';cases nl2')).trans g8
 have gt9:(upd (upd H7 t9 (.tup [.int (x+q0),.int (y+q1)])) b.st (.lst [.ref b.zl,.ref t9,.int wd,.int hh,.ref b.w,.ref b.cl])) t9=some (.tup [.int (x+q0),.int (y+q1)]):=(z06 (fun e=>by rw[e,st]at nt9';cases nt9')).trans gt8
 have fx9:(upd (upd H7 t9 (.tup [.int (x+q0),.int (y+q1)])) b.st (.lst [.ref b.zl,.ref t9,.int wd,.int hh,.ref b.w,.ref b.cl])) b.w=_:=(z06 (Ne.symm n2)).trans (s8 _ _ fx)
 have hl9:(upd (upd H7 t9 (.tup [.int (x+q0),.int (y+q1)])) b.st (.lst [.ref b.zl,.ref t9,.int wd,.int hh,.ref b.w,.ref b.cl])) b.ll=_:=(z06 (Ne.symm n3)).trans (s8 _ _ hl)
 have e9':SameX [b.st,b.w] H (upd (upd H7 t9 (.tup [.int (x+q0),.int (y+q1)])) b.st (.lst [.ref b.zl,.ref t9,.int wd,.int hh,.ref b.w,.ref b.cl])):=(SameX.of s8).put List.mem_cons_self
 generalize upd (upd H7 t9 (.tup [.int (x+q0),.int (y+q1)])) b.st (.lst [.ref b.zl,.ref t9,.int wd,.int hh,.ref b.w,.ref b.cl])=H9 at st9 g9 gt9 fx9 hl9 e9'
 walk_at "rs"
 refine⟨_,_,2,_,rfl,rfl,SqL.of st9,rfl,?_⟩
 walk_at "rs"
 refine .inl ⟨_,_,0,_,rfl,rfl,SqL.of g9,rfl,?_⟩
 walk_at "rs"
 refine⟨_,_,rfl,?_⟩
 walk_at "rs"
 refine⟨_,_,3,_,rfl,rfl,SqL.of st9,rfl,?_⟩
 walk_at "rs"
 refine .inl ⟨_,_,1,_,rfl,rfl,SqL.of g9,rfl,?_⟩
 walk_at "rs"
 refine⟨_,_,rfl,?_⟩
 have ab0:=z2N q0
 have mb0:=zDw (wd-z1h q0)
 have mb1:=mb0.2 (by omega)
 refine⟨_,_,rfl,rfl,mulL (show-18446744073709551616<mx0 (wd-z1h q0) by omega) (show mx0 (wd-z1h q0)<18446744073709551616 by omega),?_⟩
 walk_at "rs"
 refine⟨_,_,4,_,rfl,rfl,SqL.of st9,rfl,?_⟩
 refine⟨_,dx,_,rfl,fx9,rfl,?_⟩
 walk_at "rs"
 refine .inl ⟨_,_,0,_,rfl,rfl,SqL.of g9,rfl,?_⟩
 walk_at "rs"
 refine .inl ⟨_,_,1,_,rfl,rfl,SqL.of g9,rfl,?_⟩
 refine⟨⟨b.w,b.ll,M.f,M.lead,wd,hh⟩,x,y,q0,q1,zs,rfl,⟨⟨dx,fx9⟩,hl9⟩,w1,w2,h1,h2,fun H10 e10 WA10=>?_⟩
 have st10:=e10 _ _ (fun z=>n2 (List.mem_singleton.mp z)) st9
 have gt10:=e10 _ _ (fun z=>by rw[List.mem_singleton.mp z,fx9]at gt9;cases gt9) gt9
 have eE:=e9'.trans (e10.sub (T:=[b.st,b.w]) fun p hp=>by rw[List.mem_singleton.mp hp];simp)
 walk_at "rs"
 refine⟨_,_,2,_,rfl,rfl,SqL.of st10,rfl,?_⟩
 walk_at "rs"
 refine⟨_,_,3,_,rfl,rfl,SqL.of st10,rfl,?_⟩
 walk_at "rs"
 have ed:decide (V.int (z4N wd hh q0 q1)=V.int (z4N wd hh q0 q1))=true:=decide_eq_true rfl
 show Q (V.bl (decide (V.int (z4N wd hh q0 q1)=V.int (z4N wd hh q0 q1)))) H10
 rw[ed]
 exact q (x+q0) (y+q1) H10 (eE.sub zBm) (SW.step eE st10 gt10 nt9' WA10 (by omega) (by omega) (by omega) (by omega))
theorem JJ:FnScope ["_law_cell","_law_state","_law_make","_law_at","_law_text_here","_law_top","_law_many","_law_found"] ["_law_cell","_law_state","_law_make"] (z03 z1C):=⟨rfl,rfl,rfl,by decide+kernel,rfl,by decide+kernel,by decide+kernel⟩
theorem z6h {f:Addr} {fd:FuncData} (D:Df K mg "_law_edited" z1C ["_law_cell","_law_state","_law_make"] f fd)
 {J0 J3:Addr} (Zo:Co K mg J0 J3)
 {J6 J7 J4 J5:Addr} (Z:Cl K mg J6 J7 J4 J5)
 (JO:Om P w K mg base (CX2 P w) J0 "edit" ["self","at","text"] [] 4 (z8F J0 J3 J4 J5))
 (JA:Ow P w K mg base "_law_whole" ["_law_found"] 1 z2h)
 (JP:Ow P w K mg base "_law_columns" ["_law_text_here","_law_table","_law_high","_law_gap"] 1 z33)
 (JL:Ow P w K mg base "_law_text" ["_law_cell","_law_signs_here","_law_size"] 1 z40) (B:Blt mg):
 Ow P w K mg base "_law_edited" ["_law_cell","_law_state","_law_make"] 5 (z8H J0 J3):=by
 refine D.ow (D.F.ok JJ (fun vs H Q E h=>?_) (fun cdv A outer s H vs Q E hr h=>?_))
 .obtain⟨F,mk,M,b,wd,hh,x,y,zs,c,rfl,_⟩:=h
  rfl
 obtain⟨F,mk,M,b,wd,hh,x,y,zs,c,rfl,SW,MA,zn,q⟩:=h
 refine⟨_,(z04 (z0B (i:=3) JJ.nd rfl (Or.inl rfl) (z08 z0g (pv 0) (z07 z0F rfl B.f_len boot_len (z00 (z0C ix_list (pv 1) z01 (fun _ _=>rfl)) z02))))
  (z04 (z0B (i:=4) JJ.nd rfl (Or.inl rfl) (z0G JL hr rfl (z00 (z08 z0f (pv 0) z01) (z00 (z0C ix_tup (pv 2) z01 (fun _ _=>rfl)) (z00 (z08 z0g (z08 z0f (pv 0) z01) z01) z02)))))
  (z2B (z0R (z0N z36 (z08 z0g (z08 z0f (pv 0) z01) z01) z01 (z0O _)) (z05 (z0B (i:=4) JJ.nd rfl (Or.inl rfl) (z0C ix_list (z0C ix_list (pv 1) z01 (fun _ _=>rfl)) (pv 3) (fun _ _=>rfl)))) z0L)
  (z04 (z7i (pv 4) (z7h (z0C ix_list (pv 1) z01 (fun _ _=>rfl)) (pv 3) set_list))
  (z04 (z7i (z0G JP hr rfl (z00 (pv 4) (z00 (z0w (z3X rfl) rfl B.f_dict boot_dict (z00 (z0C ix_tup (pv 2) z01 (fun _ _=>rfl)) z02)) (z00 (z0C ix_tup (pv 2) z01 (fun _ _=>rfl)) (z00 (z0C ix_tup (pv 2) z01 (fun _ _=>rfl)) z02))))) (z7h (z0C ix_list (pv 1) z01 (fun _ _=>rfl)) (pv 3) set_list))
  (z04 (z0B (i:=5) JJ.nd rfl (Or.inr rfl) (z08 z0s (pv 3) (z08 z0P (z0C ix_tup (pv 2) z01 (fun _ _=>rfl)) (z0C ix_tup (pv 2) z01 (fun _ _=>rfl)))))
  (z04 (z0B (i:=6) JJ.nd rfl (Or.inl rfl) (z07 z0F rfl B.f_len boot_len (z00 (z1L (locs:=["_law_j"]) (ix:=[5,1,2]) rfl (BlkSc.look (dsc:=z03 z1C) (N:=["_law_cell","_law_state","_law_make","_law_at","_law_text_here","_law_top","_law_many","_law_found"]) rfl rfl (by decide+kernel)) (z0S rfl B.f_range (z00 (z0C ix_list (pv 1) z01 (fun _ _=>rfl)) z02)) (fun _ _ _ _ _ _=>(z0K (i:=0) (by decide+kernel:(["_law_j","_law_top","_law_state","_law_make"]:List Str).Nodup) rfl (Or.inl rfl))) (fun _ _ _ _ _ _=>(zCY (z2l z55 z37 (pv 1) (z08 z0P (z0C z1H (z0C z5C (pv 2) z01 (fun _ _=>rfl)) z01 (fun _ _=>rfl)) (pv 0)) (z08 z0P (pv 1) (z0C z1H (pv 3) z01 (fun _ _=>rfl)))))) (fun _ _ _ _ _ _=>(pv 0))) z02)))
  (z04 (z0B (i:=7) JJ.nd rfl (Or.inl rfl) (z4a JO hr z4s (z0C ix_list (pv 1) z01 (fun _ _=>rfl)) (z00 (pv 3) (z00 (pv 4) z02))))
  (z05 (z0I (z2t (z0G JA hr rfl (z00 (pv 7) z02)) (z2s (z1y z36 (pv 7) (z08 z0s (pv 6) (z0C ix_list (pv 1) z01 (fun _ _=>rfl))) (z0O _)))))))))))))),?_⟩
 refine L2.hold fun _ hB'=>?_
 obtain⟨sp,st,gp⟩:=SW.st
 have n20:=SW.n
 have MA0:=MA.mono z1n
 walk_at "rs"
 refine⟨_,_,0,_,rfl,rfl,SqL.of st,rfl,?_⟩
 refine⟨_,_,rfl,.inl (SqL.of SW.zl),?_⟩
 rw[List.length_map]
 walk_at "rs"
 refine⟨_,_,0,_,rfl,rfl,SqT.of MA0.tup,rfl,?_⟩
 walk_at "rs"
 refine⟨_,_,_,M.ts,M.Ss,M.hg,rfl,MA0.sg,MA.ok.n1,by omega,by omega,fun z0 z0l z0T=>?_⟩
 have r0:=Int.emod_nonneg c (show(zs.length:Int)≠0 by omega)
 have r1:=Int.emod_lt_of_pos c (show(0:Int)<(zs.length:Int) by omega)
 have ek:c%(zs.length:Int)=(((c%(zs.length:Int)).toNat:Nat):Int):=by omega
 obtain⟨k,hk⟩:∃k,k=(c%(zs.length:Int)).toNat:=⟨_,rfl⟩
 rw[<-hk]at ek
 have hkl:k<zs.length:=by omega
 have ha:=z0x (xs:=zs.map V.str) (j:=k) (v:=.str zs[k]) (by rw[List.getElem?_map,List.getElem?_eq_getElem hkl];rfl)
 apply L2.unhold hB'
 refine⟨fun σ' H'=>H'=H/\∃z:Str,z.length<=20/\TextOf M.Ss z/\σ'=[some (.int c),some (.ref b.st),some (.ref mk),some (.int (k:Int)),some (.str z),none,none,none],?_,?_⟩
 .rw[<-ek]at ha
  rw[<-ek]
  walk_at "rs"
  refine z29 (fun _=>?_) (fun _=>?_)
  .walk_at "rs"
   refine⟨_,_,0,_,rfl,rfl,SqL.of st,rfl,?_⟩
   walk_at "rs"
   refine⟨_,_,_,_,rfl,rfl,SqL.of SW.zl,ha,?_⟩
   exact⟨rfl,zs[k],(SW.tx _ (List.getElem_mem hkl)).1,(SW.tx _ (List.getElem_mem hkl)).2,rfl⟩
  .exact⟨rfl,z0,by omega,z0T,rfl⟩
 rintro σ2 H2 ⟨rfl,z,zl20,zT,rfl⟩
 refine L2.hold fun _ hB'=>?_
 obtain⟨⟨dx,fx⟩,hl⟩:=id SW.wn
 obtain⟨qs,c1,c2,c3⟩:=SW.cl
 obtain⟨⟨n1,n2,n3,n4⟩,⟨n5,n6,n7⟩,⟨n8,n9⟩,n10⟩:=Bw.nd5 SW.nd
 have ixk:ixN zs.length (k:Int)=some k:=zAi (by omega) (by omega)
 walk_at "rs"
 refine⟨_,_,0,_,rfl,rfl,SqL.of st,rfl,?_⟩
 walk_at "rs"
 refine⟨b.zl,_,_,k,rfl,rfl,SW.zl,by rw[List.length_map];exact ixk,?_⟩
 rw[<-List.map_set]
 have e1:SameX [b.zl,b.ll,b.cl] H2 (upd H2 b.zl (.lst ((zs.set k z).map V.str))):=(SameX.of (Same.refl _)).put List.mem_cons_self
 have gz1:(upd H2 b.zl (.lst ((zs.set k z).map V.str))) b.zl=some (.lst ((zs.set k z).map V.str)):=upd_same
 have k1:∀{p:Addr} {o:HO},p≠b.zl->H2 p=some o->(upd H2 b.zl (.lst ((zs.set k z).map V.str))) p=some o:=fun{p o} n h=>(z06 n).trans h
 have o1:Same (off F H2) (off F (upd H2 b.zl (.lst ((zs.set k z).map V.str)))):=z7N (SW.inF _ Bw.mzl)
 generalize upd H2 b.zl (.lst ((zs.set k z).map V.str))=H3 at e1 gz1 k1 o1
 have st3:=k1 n1 st
 have MA3:=(MA.mono o1).mono z1n
 obtain⟨rls,hrl,hrs⟩:=MA3.sg.rows
 have kl:=z4K (Ss:=M.Ss) hrl
 have kp:=z7H MA.ok hrl
 have hul:=MA3.sg.len
 have n2':=MA.ok.n2
 walk_at "rs"
 refine⟨_,_,0,_,rfl,rfl,SqT.of MA3.tup,rfl,?_⟩
 refine⟨M.l,M.ts,kvF M.Ss rls,rfl,SqL.of MA3.sg.lst,by rw[kl,hul],by rw[kp,kl];exact Nat.le_of_lt (z0H (by omega)),fun j t k' v e1 e2=>?_,fun d nd=>?_⟩
 .have hj:j<M.Ss.length:=by
   rw[<-hul]
   exact(List.getElem?_eq_some_iff.mp e1).1
  rw[z6N hrl hj]at e2
  cases e2
  exact(hrs j t _ _ e1 (List.getElem?_eq_getElem hj) (List.getElem?_eq_getElem (by omega))).1
 rw[kp]
 have s4:Same H3 (upd H3 d (.dK (kvF M.Ss rls))):=Same.new nd
 have TA:TableAt M.hg (upd H3 d (.dK (kvF M.Ss rls))) d M.Ss:=⟨rls,hrl,upd_same,fun j S p e1 e2=>by
  have hj:j<M.ts.length:=by rw[hul];exact(List.getElem?_eq_some_iff.mp e1).1
  obtain⟨_,ps,r1,r2⟩:=hrs j _ S p (List.getElem?_eq_getElem hj) e1 e2
  exact⟨ps,r1.mono s4,r2⟩⟩
 generalize upd H3 d (.dK (kvF M.Ss rls))=H4 at s4 TA
 walk_at "rs"
 refine⟨_,_,1,_,rfl,rfl,SqT.of (s4 _ _ MA3.tup),rfl,?_⟩
 walk_at "rs"
 refine⟨_,_,2,_,rfl,rfl,SqT.of (s4 _ _ MA3.tup),rfl,?_⟩
 walk_at "rs"
 refine⟨z,d,M.hg,M.gap,M.Ss,rfl,TA,MA.ok,MA.h1,MA.h2,MA.g0,MA.g1,by omega,zT,fun lq pq H5 RB=>?_⟩
 have t5:=s4.trans RB.same
 walk_at "rs"
 refine⟨_,_,5,_,rfl,rfl,SqL.of (t5 _ _ st3),rfl,?_⟩
 walk_at "rs"
 refine⟨b.cl,_,_,k,rfl,rfl,t5 _ _ (k1 (Ne.symm n7) c2),by rw[List.length_map,c1];exact ixk,?_⟩
 rw[<-List.map_set]
 have alF:∀p∈F,∃o,H4 p=some o:=fun p hp=>by
  by_cases h:p=b.zl
  .rw[h]
   exact⟨_,s4 _ _ gz1⟩
  .obtain⟨o,ho⟩:=SW.al p hp
   exact⟨o,s4 _ _ (k1 h ho)⟩
 have inF2:∀p∈[b.zl,b.ll,b.cl],p∈F:=fun p hp=>SW.inF p (z8G p hp)
 have clF:b.cl∈F:=SW.inF _ Bw.mcl
 have nF:∀{p},H4 p=none->p∉F:=fun{p} h hp=>by
  obtain⟨o,ho⟩:=alF p hp
  rw[h]at ho
  cases ho
 have e6:SameX [b.zl,b.ll,b.cl] H2 (upd H5 b.cl (.lst ((qs.set k lq).map V.ref))):=(e1.trans (SameX.of t5)).put (by simp)
 have R6:RowsAt (off F (upd H5 b.cl (.lst ((qs.set k lq).map V.ref)))) lq pq (z1d M.Ss M.hg M.gap z.cps.toList z.length):=(RB.rat.off (nF RB.fl) fun p hp=>nF (RB.fp p hp).1).mono (z7N clF)
 have gc6:(upd H5 b.cl (.lst ((qs.set k lq).map V.ref))) b.cl=some (.lst ((qs.set k lq).map V.ref)):=upd_same
 have gz6:(upd H5 b.cl (.lst ((qs.set k lq).map V.ref))) b.zl=some (.lst ((zs.set k z).map V.str)):=(z06 n7).trans (t5 _ _ gz1)
 have st6:(upd H5 b.cl (.lst ((qs.set k lq).map V.ref))) b.st=_:=(z06 n4).trans (t5 _ _ st3)
 have fx6:(upd H5 b.cl (.lst ((qs.set k lq).map V.ref))) b.w=_:=(z06 n9).trans (t5 _ _ (k1 (Ne.symm n5) fx))
 have hl6:(upd H5 b.cl (.lst ((qs.set k lq).map V.ref))) b.ll=_:=(z06 n10).trans (t5 _ _ (k1 (Ne.symm n6) hl))
 generalize upd H5 b.cl (.lst ((qs.set k lq).map V.ref))=H6 at e6 R6 gc6 gz6 st6 fx6 hl6
 have o6:=z0u (e6.sub inF2)
 have CL6:ClAt F H6 M b.cl (zs.set k z):=⟨qs.set k lq,by rw[List.length_set,List.length_set,c1],gc6,fun i q' z' e1 e2=>by
  rw[List.getElem?_set]at e1 e2
  by_cases h:k=i
  .rw[if_pos h,if_pos (by omega)]at e1 e2
   cases e1
   cases e2
   exact⟨pq,R6⟩
  .rw[if_neg h]at e1 e2
   obtain⟨ps,r⟩:=c3 i q' z' e1 e2
   exact⟨ps,r.mono o6⟩⟩
 have MA6o:=MA.mono o6
 have MA6:=MA6o.mono z1n
 have gp6:=(z2Z (o6 _ _ gp)).2
 have hg2:=MA.h2
 have l0:=MA.l0
 have l1:=MA.l1
 have hh1:=SW.h1
 have hh2:=SW.h2
 walk_at "rs"
 refine⟨_,_,1,_,rfl,rfl,SqT.of MA6.tup,rfl,?_⟩
 walk_at "rs"
 refine⟨_,_,3,_,rfl,rfl,SqT.of MA6.tup,rfl,?_⟩
 walk_at "rs"
 refine⟨_,_,3,_,rfl,rfl,SqL.of st6,rfl,?_⟩
 walk_at "rs"
 refine⟨(z2v (by omega) (by omega)).1,(z2v (by omega) (by omega)).2,?_⟩
 refine zCd (n:=hh.toNat) (fun i σ us H7=>∃v,σ=[v,some (.int ((k:Int)*((M.hg:Int)+M.lead))),some (.ref b.st),some (.ref mk)]/\us=((List.range i).filter fun(j:Nat)=>decide ((k:Int)*((M.hg:Int)+M.lead)<=y+(j:Int))&&decide (y+(j:Int)<(k:Int)*((M.hg:Int)+M.lead)+M.hg)).map (fun(j:Nat)=>V.int (0+(j:Int)))/\H7=H6) ⟨none,rfl,rfl,rfl⟩ (z0H (by omega)) ?_ ?_ ?_ ?_ ?_
 .rintro i σ us H7 ⟨v,_,rfl,_⟩
  rw[List.length_map]
  exact Nat.le_trans (List.length_filter_le _ _) (by rw[List.length_range];exact Nat.le_refl _)
 .rintro σ us H7 _
  exact Nat.le_refl _
 .intro i σ us H7 hi _
  exact hi
 .rintro i σ us H7 w H' Z hi ⟨v,rfl,rfl,rfl⟩ ⟨rfl,rfl⟩ hZ
  have yes:(k:Int)*((M.hg:Int)+M.lead)<=y+(0+(i:Int))->y+(0+(i:Int))<(k:Int)*((M.hg:Int)+M.lead)+M.hg->((List.range i).filter fun(j:Nat)=>decide ((k:Int)*((M.hg:Int)+M.lead)<=y+(j:Int))&&decide (y+(j:Int)<(k:Int)*((M.hg:Int)+M.lead)+M.hg)).map (fun(j:Nat)=>V.int (0+(j:Int)))++[V.int (0+(i:Int))]=((List.range (i+1)).filter fun(j:Nat)=>decide ((k:Int)*((M.hg:Int)+M.lead)<=y+(j:Int))&&decide (y+(j:Int)<(k:Int)*((M.hg:Int)+M.lead)+M.hg)).map (fun(j:Nat)=>V.int (0+(j:Int))):=fun a1 a2=>by
   rw[Int.zero_add]at a1 a2
   rw[List.range_succ,List.filter_append,List.filter_cons_of_pos (by rw[decide_eq_true a1,decide_eq_true a2];rfl),List.map_append]
   rfl
  have no:¬((k:Int)*((M.hg:Int)+M.lead)<=y+(0+(i:Int))/\y+(0+(i:Int))<(k:Int)*((M.hg:Int)+M.lead)+M.hg)->((List.range i).filter fun(j:Nat)=>decide ((k:Int)*((M.hg:Int)+M.lead)<=y+(j:Int))&&decide (y+(j:Int)<(k:Int)*((M.hg:Int)+M.lead)+M.hg)).map (fun(j:Nat)=>V.int (0+(j:Int)))=((List.range (i+1)).filter fun(j:Nat)=>decide ((k:Int)*((M.hg:Int)+M.lead)<=y+(j:Int))&&decide (y+(j:Int)<(k:Int)*((M.hg:Int)+M.lead)+M.hg)).map (fun(j:Nat)=>V.int (0+(j:Int))):=fun a1=>by
   rw[Int.zero_add]at a1
   rw[List.range_succ,List.filter_append,List.filter_cons_of_neg (by rw[<-Bool.decide_and,decide_eq_false a1];exact Bool.false_ne_true),List.filter_nil,List.append_nil]
  walk_at "rs"
  refine⟨_,_,1,_,rfl,rfl,SqL.of st6,rfl,?_⟩
  walk_at "rs"
  refine⟨_,_,1,_,rfl,rfl,SqT.of gp6,rfl,?_⟩
  walk_at "rs"
  refine z29 (fun a1=>?_) (fun a1=>?_)
  .walk_at "rs"
   refine⟨_,_,1,_,rfl,rfl,SqT.of MA6.tup,rfl,?_⟩
   walk_at "rs"
   refine z29 (fun a2=>?_) (fun a2=>?_)
   .walk_at "rs"
    exact hZ _ _ _ ⟨_,rfl,yes a1 a2,rfl⟩
   .exact hZ _ _ _ ⟨_,rfl,no fun h=>a2 h.2,rfl⟩
  .exact⟨_,rfl,z5y (hZ _ _ _ ⟨_,rfl,no fun h=>a1 h.1,rfl⟩)⟩
 rintro σ us H7 ⟨v,rfl,rfl,rfl⟩ lj nlj
 have cnt:=z8D ((k:Int)*((M.hg:Int)+M.lead)) (M.hg:Int) y (by omega) hh.toNat
 rw[show((hh.toNat:Nat):Int)=hh by omega]at cnt
 have s8:=Same.new (o:=.lst (((List.range hh.toNat).filter fun(j:Nat)=>decide ((k:Int)*((M.hg:Int)+M.lead)<=y+(j:Int))&&decide (y+(j:Int)<(k:Int)*((M.hg:Int)+M.lead)+M.hg)).map (fun(j:Nat)=>V.int (0+(j:Int))))) nlj
 refine⟨_,_,rfl,.inl (SqL.of upd_same),?_⟩
 rw[List.length_map,cnt]
 generalize upd H7 lj (.lst (((List.range hh.toNat).filter fun(j:Nat)=>decide ((k:Int)*((M.hg:Int)+M.lead)<=y+(j:Int))&&decide (y+(j:Int)<(k:Int)*((M.hg:Int)+M.lead)+M.hg)).map (fun(j:Nat)=>V.int (0+(j:Int)))))=H8 at s8
 have fb:firstBad M.Ss z.cps.toList 0=none:=z1F zT
 have w1:=SW.w1
 have w2:=SW.w2
 walk_at "rs"
 refine⟨_,_,4,_,rfl,rfl,SqL.of (s8 _ _ st6),rfl,?_⟩
 refine⟨_,dx,_,rfl,s8 _ _ fx6,rfl,?_⟩
 walk_at "rs"
 refine⟨⟨b.w,b.ll,M.f,M.lead,wd,hh⟩,x,y,(k:Int),zs,z,F,M.Ss,M.hg,M.gap,rfl,⟨⟨dx,s8 _ _ fx6⟩,s8 _ _ hl6⟩,SW.inF _ Bw.mll,(MA6o.fa).mono (z0u (SameX.of s8)),MA.ok,MA.h2,MA.l0,MA.l1,by omega,by omega,zT.inSg MA.ok,by show 0<=wd;omega,by show wd<=64;omega,fun h=>by omega,fun c' i' d' H9 _ _ hb=>?_,fun _ _ _ H9 e9 WA9=>?_⟩
 .rw[fb]at hb
  cases hb
 rw[Int.toNat_natCast]at WA9
 have e9':SameX [b.zl,b.ll,b.cl] H7 H9:=(SameX.of s8).trans (e9.sub fun p hp=>by rw[List.mem_singleton.mp hp];simp)
 have st9:=e9 _ _ (fun h=>n3 (List.mem_singleton.mp h)) (s8 _ _ st6)
 have eE:=e6.trans e9'
 have llF:∀p∈[b.ll],p∈F:=fun p hp=>inF2 p (by rw[List.mem_singleton.mp hp];simp)
 have gz9:=e9 _ _ (fun h=>n6 (List.mem_singleton.mp h)) (s8 _ _ gz6)
 have CL9:=CL6.keep ((SameX.of s8).trans e9) llF fun h=>n10 (List.mem_singleton.mp h).symm
 dsimp only
 walk_at "rs"
 refine⟨_,_,2,_,rfl,rfl,SqL.of st9,rfl,?_⟩
 walk_at "rs"
 have ed:decide (V.int (wd*shI ((k:Int)*((M.hg:Int)+M.lead)) M.hg y hh)=V.int (shI ((k:Int)*((M.hg:Int)+M.lead)) M.hg y hh*wd))=true:=decide_eq_true (by rw[Int.mul_comm])
 show Q (V.bl (decide (V.int (wd*shI ((k:Int)*((M.hg:Int)+M.lead)) M.hg y hh)=V.int (shI ((k:Int)*((M.hg:Int)+M.lead)) M.hg y hh*wd)))) H9
 rw[ed]
 refine q (zs.set k z) H9 (eE.sub z8G) (SW.edit eE gz9 WA9.2 CL9 (by rw[List.length_set];exact n20) fun z' hz'=>?_)
 rcases List.mem_or_eq_of_mem_set hz' with h|h
 .exact SW.tx z' h
 .rw[h]
  exact⟨zl20,zT⟩
theorem JX:FnScope ["_law_window","_law_at","_law_text_here","_law_told","e"] ["_law_window","_law_at","_law_text_here"] (z03 z1Q):=⟨rfl,rfl,rfl,by decide+kernel,rfl,by decide+kernel,by decide+kernel⟩
theorem z6i {f:Addr} {fd:FuncData} (D:Df K mg "_law_caught" z1Q ["_law_window","_law_at","_law_text_here"] f fd)
 {J0 J3:Addr} (Zo:Co K mg J0 J3)
 {J6 J7 J4 J5:Addr} (Z:Cl K mg J6 J7 J4 J5)
 (JO:Om P w K mg base (CX2 P w) J0 "edit" ["self","at","text"] [] 4 (z8F J0 J3 J4 J5)) (B:Blt mg):
 Ow P w K mg base "_law_caught" ["_law_window","_law_at","_law_text_here"] 5 (z4z J0 J3):=by
 refine D.ow (D.F.ok JX (fun vs H Q E h=>?_) (fun cdv A outer s H vs Q E hr h=>?_))
 .obtain⟨W,x,y,k,zs,z,F,Ss,hg,gap,rfl,_⟩:=h
  rfl
 obtain⟨W,x,y,k,zs,z,F,Ss,hg,gap,rfl,WA,hF,FAt,FO,hg2,l0,l1,zn,zl,hz,w0,w2,q⟩:=h
 obtain⟨⟨dx,fx⟩,hl⟩:=id WA
 refine⟨_,(z04 (z0B (i:=3) JX.nd rfl (Or.inl rfl) z3c)
  (z04 (z7B (i:=4) (zC9 JO hr (pv 0) (z00 (pv 1) (z00 (pv 2) z02))) rfl rfl rfl ⟨Z.m_GlowError,Z.x_GlowError⟩ JX.nd rfl rfl (fun _=>(z04 (z0R (PW.pt (z7g (z0W (z07 z1v rfl B.f_isinstance boot_isinstance (z00 (pv 4) (z00 (z3R (v:=.ref _) rfl Z.m_NoLine rfl) z02)))) (z54 (z0a (z0W (z07 z1v rfl B.f_isinstance boot_isinstance (z00 (pv 4) (z00 (z3R (v:=.ref _) rfl Z.m_NoSign rfl) z02)))))))) (z05 (z0B (i:=3) JX.nd rfl (Or.inl rfl) z2X)) z0L)
  (z05 (z0R (PW.pt (z7g (z0W (z07 z1v rfl B.f_isinstance boot_isinstance (z00 (pv 4) (z00 (z3R (v:=.ref _) rfl Z.m_NoSign rfl) z02)))) (z54 (z0a (z0W (z07 z1v rfl B.f_isinstance boot_isinstance (z00 (pv 4) (z00 (z3R (v:=.ref _) rfl Z.m_NoLine rfl) z02)))))))) (z05 (z0B (i:=3) JX.nd rfl (Or.inl rfl) (z0t (z00 (z3v (pv 4) rfl) (z00 (z3v (pv 4) rfl) z02))))) z0L)))))
  (z05 (z0I (pv 3))))),?_⟩
 refine L2.hold fun _ hB'=>?_
 walk_at "rs"
 refine⟨fun Cv dd H2=>Same H H2/\((Cv=.ref J5/\dd=none/\(k<0\/(zs.length:Int)<=k))\/∃d' c i,Cv=.ref J4/\dd=some d'/\0<=k/\k<zs.length/\firstBad Ss z.cps.toList 0=some (c,i)/\H2 d'=some (.ext (z3f d' [("at",.int (i:Nat)),("sign",.str (one c))]))),?_,?_⟩
 .walk_at "rs"
  refine⟨_,dx,_,rfl,fx,rfl,?_⟩
  walk_at "rs"
  refine⟨W,x,y,k,zs,z,F,Ss,hg,gap,rfl,WA,hF,FAt,FO,hg2,l0,l1,zn,zl,hz,w0,w2,fun hk=>⟨Same.refl _,.inl ⟨rfl,rfl,hk⟩⟩,fun c i d H2 hk0 hk1 hb s2 hd=>⟨s2,.inr ⟨d,c,i,rfl,rfl,hk0,hk1,hb,hd⟩⟩,fun hk0 hk1 hb=>?_⟩
  rcases q with⟨hk,_⟩|⟨_,_,c,i,hb',_⟩
  .omega
  .rw[hb]at hb'
   cases hb'
 .rintro Cv dd H2 ⟨s2,⟨rfl,rfl,hk⟩|⟨d',c,i,rfl,rfl,hk0,hk1,hb,hE0⟩⟩
  .have kt:=Z.kt 2 (by decide)
   have k1:PySem.W.kitOne K (.ref J5) (.ref J4)=some false:=kt.one 1 (Nat.lt_of_sub_eq_succ rfl)
   have k2:PySem.W.kitOne K (.ref J5) (.ref J5)=some true:=kt.one 2 (Nat.lt_of_sub_eq_succ rfl)
   refine⟨J5,rfl,Z.x_NoLine,Z.ab _ (by simp),fun a na=>?_⟩
   have s3:Same H2 (upd H2 a (.ext (z4q a J5 none))):=Same.new na
   have hE:z4X (upd H2 a (.ext (z4q a J5 none))) a J5 []:=.inl ⟨rfl,.inr upd_same⟩
   generalize upd H2 a (.ext (z4q a J5 none))=H3 at s3 hE
   refine⟨_,rfl,a,_,_,_,_,_,rfl,hE,Z.x_NoLine,rfl,k2,_,rfl,z5z rfl ?_⟩
   refine⟨_,rfl,a,_,_,_,_,_,rfl,hE,Z.x_NoLine,rfl,k1,_,rfl,z5z rfl ?_⟩
   walk_at "rs"
   refine⟨a,_,_,_,_,_,rfl,hE,Z.x_NoLine,rfl,k1,_,rfl,z1f rfl ?_⟩
   walk_at "rs"
   rcases q with⟨_,q⟩|⟨_,_,_⟩
   .exact q H3 (s2.trans s3)
   .omega
  .have kt:=Z.kt 1 (by decide)
   have k1:PySem.W.kitOne K (.ref J4) (.ref J4)=some true:=kt.one 1 (Nat.lt_of_sub_eq_succ rfl)
   have k2:PySem.W.kitOne K (.ref J4) (.ref J5)=some false:=kt.one 2 (Nat.lt_of_sub_eq_succ rfl)
   refine⟨J4,rfl,Z.x_NoSign,Z.ab _ (by simp),fun a na=>?_⟩
   obtain⟨s3,hE⟩:=z4t (C:=J4) na hE0
   generalize upd H2 a (.ext (z4q a J4 (some d')))=H3 at s3 hE
   refine⟨_,rfl,a,_,_,_,_,_,rfl,hE,Z.x_NoSign,rfl,k2,_,rfl,z1f rfl ?_⟩
   refine⟨_,rfl,a,_,_,_,_,_,rfl,hE,Z.x_NoSign,rfl,k1,_,rfl,z5z rfl ?_⟩
   refine⟨_,rfl,a,_,_,_,_,_,rfl,hE,Z.x_NoSign,rfl,k2,_,rfl,z5z rfl ?_⟩
   refine⟨_,rfl,a,J4,_,_,rfl,hE,Z.x_NoSign,Z.f_NoSign_sign,rfl,_,rfl,a,J4,_,_,rfl,hE,Z.x_NoSign,Z.f_NoSign_at,rfl,szV (by simp),fun t' nt=>?_⟩
   walk_at "rs"
   rcases q with⟨_,q⟩|⟨_,_,c',i',hb',q⟩
   .omega
   .rw[hb]at hb'
    cases hb'
    exact q t' _ ((s2.trans s3).trans (Same.new nt)) upd_same
theorem Jg:FnScope ["_law_window","_law_at","_law_told","e"] ["_law_window","_law_at"] (z03 z1R):=⟨rfl,rfl,rfl,by decide+kernel,rfl,by decide+kernel,by decide+kernel⟩
theorem z6j {f:Addr} {fd:FuncData} (D:Df K mg "_law_no_line" z1R ["_law_window","_law_at"] f fd)
 {J0 J3:Addr} (Zo:Co K mg J0 J3)
 {J6 J7 J4 J5:Addr} (Z:Cl K mg J6 J7 J4 J5)
 (JI:Om P w K mg base (CX2 P w) J0 "line" ["self","at"] [] 2 (z3z J0 J5)) (B:Blt mg):
 Ow P w K mg base "_law_no_line" ["_law_window","_law_at"] 3 (z50 J0):=by
 refine D.ow (D.F.ok Jg (fun vs H Q E h=>?_) (fun cdv A outer s H vs Q E hr h=>?_))
 .obtain⟨W,x,y,k,zs,rfl,_⟩:=h
  rfl
 obtain⟨W,x,y,k,zs,rfl,WA,hk,q⟩:=h
 obtain⟨⟨dx,fx⟩,hl⟩:=id WA
 refine⟨_,(z04 (z0B (i:=2) Jg.nd rfl (Or.inl rfl) z2A)
  (z04 (z7B (i:=3) (zC9 JI hr (pv 0) (z00 (pv 1) z02)) rfl rfl rfl ⟨Z.m_GlowError,Z.x_GlowError⟩ Jg.nd rfl rfl (fun _=>(z05 (z0B (i:=2) Jg.nd rfl (Or.inl rfl) (z07 z1v rfl B.f_isinstance boot_isinstance (z00 (pv 3) (z00 (z3R (v:=.ref _) rfl Z.m_NoLine rfl) z02)))))))
  (z05 (z0I (pv 2))))),?_⟩
 have kt:=Z.kt 2 (by decide)
 have k2:PySem.W.kitOne K (.ref J5) (.ref J5)=some true:=kt.one 2 (Nat.lt_of_sub_eq_succ rfl)
 walk_at "rs"
 refine⟨fun Cv dd H2=>H2=H/\Cv=.ref J5/\dd=none,?_,?_⟩
 .walk_at "rs"
  refine⟨_,dx,_,rfl,fx,rfl,?_⟩
  walk_at "rs"
  refine⟨W,x,y,k,zs,rfl,WA,fun z' k0 e=>?_,fun _=>⟨rfl,rfl,rfl⟩⟩
  have:=(List.getElem?_eq_some_iff.mp e).1
  omega
 .rintro Cv dd H2 ⟨rfl,rfl,rfl⟩
  refine⟨J5,rfl,Z.x_NoLine,Z.ab _ (by simp),fun a na=>?_⟩
  have s3:Same H2 (upd H2 a (.ext (z4q a J5 none))):=Same.new na
  have hE:z4X (upd H2 a (.ext (z4q a J5 none))) a J5 []:=.inl ⟨rfl,.inr upd_same⟩
  generalize upd H2 a (.ext (z4q a J5 none))=H3 at s3 hE
  refine⟨_,rfl,a,_,_,_,_,_,rfl,hE,Z.x_NoLine,rfl,k2,?_⟩
  walk_at "rs"
  exact q H3 s3
theorem JR:FnScope ["_law_cell","_law_state","_law_make","_law_good","_law_place","_law_bad","_law_far"] ["_law_cell","_law_state","_law_make"] (z03 z1D):=⟨rfl,rfl,rfl,by decide+kernel,rfl,by decide+kernel,by decide+kernel⟩
theorem z5k {f:Addr} {fd:FuncData} (D:Df K mg "_law_refused" z1D ["_law_cell","_law_state","_law_make"] f fd)
 {J0 J3:Addr} (Zo:Co K mg J0 J3)
 {J6 J7 J4 J5:Addr} (Z:Cl K mg J6 J7 J4 J5)
 (JL:Ow P w K mg base "_law_text" ["_law_cell","_law_signs_here","_law_size"] 1 z40)
 (JZ:Ow P w K mg base "_law_caught" ["_law_window","_law_at","_law_text_here"] 5 (z4z J0 J3))
 (W2:Ow P w K mg base "_law_no_line" ["_law_window","_law_at"] 3 (z50 J0)) (B:Blt mg):
 Ow P w K mg base "_law_refused" ["_law_cell","_law_state","_law_make"] 6 (z4O J0 J3):=by
 refine D.ow (D.F.ok JR (fun vs H Q E h=>?_) (fun cdv A outer s H vs Q E hr h=>?_))
 .obtain⟨F,mk,M,b,wd,hh,x,y,zs,c,rfl,_⟩:=h
  rfl
 obtain⟨F,mk,M,b,wd,hh,x,y,zs,c,rfl,SW,MA,q⟩:=h
 refine⟨_,(z04 (z0B (i:=3) JR.nd rfl (Or.inl rfl) (z0G JL hr rfl (z00 (z08 z0f (pv 0) z01) (z00 (z0C ix_tup (pv 2) z01 (fun _ _=>rfl)) (z00 (z08 z0g (z08 z0f (pv 0) z01) z01) z02)))))
  (z04 (z0B (i:=4) JR.nd rfl (Or.inl rfl) (z08 z0g (z08 z0f (pv 0) z01) (z08 z0P (z07 z2e rfl B.f_len boot_len (z00 (pv 3) z02)) z01)))
  (z04 (z0B (i:=5) JR.nd rfl (Or.inl rfl) (z08 z2G (z08 z2G (z3o zC7 (pv 3) z6p (z47 (pv 4))) (z0C ix_tup (pv 2) z01 (fun _ _=>rfl))) (z3o zC7 (pv 3) (z47 (pv 4)) z6p)))
  (z04 (z0B (i:=6) JR.nd rfl (Or.inl rfl) (z0C ix_list (z1o (z00 (z2x z2F z01) (z00 (z07 z0F rfl B.f_len boot_len (z00 (z0C ix_list (pv 1) z01 (fun _ _=>rfl)) z02)) (z00 (z08 z1g (z2x z2F z01) (z08 z0g (z08 z0f (pv 0) z01) (z08 z2E z01 z01))) (z00 (z08 z0P (z07 z0F rfl B.f_len boot_len (z00 (z0C ix_list (pv 1) z01 (fun _ _=>rfl)) z02)) (z08 z0g (z08 z0f (pv 0) z01) (z08 z2E z01 z01))) z02))))) (z08 z0g (pv 0) z01) (fun _ _=>rfl)))
  (z04 (z0R (PW.pt (z2D (z0a (z0W (z0G W2 hr rfl (z00 (z0C ix_list (pv 1) z01 (fun _ _=>rfl)) (z00 (pv 6) z02))))) (z1c (z0N z41 (z0G JZ hr rfl (z00 (z0C ix_list (pv 1) z01 (fun _ _=>rfl)) (z00 (pv 6) (z00 (pv 5) z02)))) z2X (z0O _))))) (z05 (z0I z2A)) z0L)
  (z04 (z0R (z0N z41 (z0G JZ hr rfl (z00 (z0C ix_list (pv 1) z01 (fun _ _=>rfl)) (z00 (pv 6) (z00 (pv 3) z02)))) z2X (z0O _)) (z05 (z0I z2A)) z0L)
  (z04 (z0R (z0N z36 (z07 z0F rfl B.f_len boot_len (z00 (z0C ix_list (pv 1) z01 (fun _ _=>rfl)) z02)) z01 (z0O _)) (z05 (z0I z2A)) z0L)
  (z05 (z0I (z1y (zAV (z8V hr)) (z0G JZ hr rfl (z00 (z0C ix_list (pv 1) z01 (fun _ _=>rfl)) (z00 (z08 z0g (z08 z0f (pv 0) z01) (z07 z0F rfl B.f_len boot_len (z00 (z0C ix_list (pv 1) z01 (fun _ _=>rfl)) z02))) (z00 (pv 5) z02)))) (z0t (z00 (z0C ix_tup (pv 2) z01 (fun _ _=>rfl)) (z00 (pv 4) z02))) (z0O _))))))))))),?_⟩
 refine L2.hold fun _ hB'=>?_
 obtain⟨sp,st,gp⟩:=SW.st
 have n20:=SW.n
 have MA0:=MA.mono z1n
 walk_at "rs"
 refine⟨_,_,0,_,rfl,rfl,SqT.of MA0.tup,rfl,?_⟩
 walk_at "rs"
 refine⟨_,_,_,M.ts,M.Ss,M.hg,rfl,MA0.sg,MA.ok.n1,by omega,by omega,fun z0 z0l z0T=>?_⟩
 have zl20:z0.length<=20:=by omega
 have sz0:z0.length<=sizeLine:=Nat.le_of_lt (z0H (by omega))
 walk_at "rs"
 refine⟨sz0,?_⟩
 have r0:=Int.emod_nonneg (c/420) (show(z0.length:Int)+1≠0 by omega)
 have r1:=Int.emod_lt_of_pos (c/420) (show(0:Int)<(z0.length:Int)+1 by omega)
 walk_at "rs"
 refine⟨sz0,?_⟩
 walk_at "rs"
 refine⟨_,_,4,_,rfl,rfl,SqT.of MA0.tup,rfl,?_⟩
 obtain⟨pl,epl⟩:∃pl,pl=(c/420)%((z0.length:Int)+1):=⟨_,rfl⟩
 have sl:∀n:Nat,n<=5000->n<=sizeLine:=fun n h=>Nat.le_trans h (by decide)
 have d1:=z5K z0 none (some ((c/420)%((z0.length:Int)+1)))
 refine⟨_,_,rfl,rfl,sl _ (by rw[show(one M.c).length=1 from rfl];omega),?_⟩
 walk_at "rs"
 refine⟨sz0,?_⟩
 have d2:=z5K z0 (some ((c/420)%((z0.length:Int)+1))) none
 have d3:(z5l z0 none (some ((c/420)%((z0.length:Int)+1)))++one M.c).length=(z5l z0 none (some ((c/420)%((z0.length:Int)+1)))).length+1:=by
  show((z5l z0 none (some ((c/420)%((z0.length:Int)+1)))).cps++#[M.c]).size=_
  rw[Array.size_append]
  rfl
 refine⟨_,_,rfl,rfl,sl _ (by rw[d3];omega),?_⟩
 have pf:=z7K r0 (show(c/420)%((z0.length:Int)+1)<=(z0.length:Int) by omega) z0T MA.un
 have plen:=zAX r0 (show(c/420)%((z0.length:Int)+1)<=(z0.length:Int) by omega) M.c
 have pmem:zBa (putIn z0 ((c/420)%((z0.length:Int)+1)) M.c):=fun d hd=>by
  rcases(zAY r0 (show(c/420)%((z0.length:Int)+1)<=(z0.length:Int) by omega)).mp hd with h|h
  .rw[h]
   exact MA.sc
  .exact z0T.inSg MA.ok d h
 obtain⟨zb,ezb⟩:∃zb,zb=putIn z0 ((c/420)%((z0.length:Int)+1)) M.c:=⟨_,rfl⟩
 have ezb':z5l z0 none (some ((c/420)%((z0.length:Int)+1)))++one M.c++z5l z0 (some ((c/420)%((z0.length:Int)+1))) none=zb:=ezb.symm
 rw[ezb']
 rw[<-ezb]at pf plen pmem
 walk_at "rs"
 refine⟨_,_,0,_,rfl,rfl,SqL.of st,rfl,?_⟩
 refine⟨_,_,rfl,.inl (SqL.of SW.zl),?_⟩
 rw[List.length_map]
 walk_at "rs"
 refine⟨_,_,0,_,rfl,rfl,SqL.of st,rfl,?_⟩
 refine⟨_,_,rfl,.inl (SqL.of SW.zl),?_⟩
 rw[List.length_map]
 walk_at "rs"
 intro fl nfl
 obtain⟨far,efar,hfar⟩:∃far,atI [V.int (-1),V.int (zs.length:Int),V.int (-1-c/7%10^Int.toNat 40),V.int ((zs.length:Int)+c/7%10^Int.toNat 40)] (c%4)=some (.int far)/\(far<0\/(zs.length:Int)<=far):=by
  have m0:=Int.emod_nonneg (c/7) (show(10:Int)^Int.toNat 40≠0 by decide)
  generalize c/7%10^Int.toNat 40=m at m0
  have h4:c%4=0\/c%4=1\/c%4=2\/c%4=3:=by omega
  rcases h4 with h|h|h|h<;>rw[h]
  .exact⟨_,rfl,.inl (by decide)⟩
  .exact⟨_,rfl,.inr (Int.le_refl _)⟩
  .exact⟨_,rfl,.inl (by omega)⟩
  .exact⟨_,rfl,.inr (by omega)⟩
 walk_at "rs"
 refine⟨fl,_,_,_,rfl,rfl,SqL.of upd_same,efar,?_⟩
 have s1:=Same.new (o:=.lst [V.int (-1),V.int (zs.length:Int),V.int (-1-c/7%10^Int.toNat 40),V.int ((zs.length:Int)+c/7%10^Int.toNat 40)]) nfl
 dsimp only
 generalize upd H fl (.lst [V.int (-1),V.int (zs.length:Int),V.int (-1-c/7%10^Int.toNat 40),V.int ((zs.length:Int)+c/7%10^Int.toNat 40)])=H1 at s1
 walk_at "rs"
 refine⟨_,_,4,_,rfl,rfl,SqL.of (s1 _ _ st),rfl,?_⟩
 walk_at "rs"
 refine⟨⟨b.w,b.ll,M.f,M.lead,wd,hh⟩,x,y,far,zs,rfl,SW.wn.mono s1,hfar,fun H2 s2=>?_⟩
 have t2:=s1.trans s2
 walk_at "rs"
 refine⟨_,_,4,_,rfl,rfl,SqL.of (t2 _ _ st),rfl,?_⟩
 walk_at "rs"
 have fal:∀{H'},Same H H'->FA J3 (off F H') M.f M.hg M.Ss M.gap:=fun{H'} s'=>MA.fa.mono (z0u (SameX.of s'))
 have w1:=SW.w1
 have w2:=SW.w2
 refine⟨⟨b.w,b.ll,M.f,M.lead,wd,hh⟩,x,y,far,zs,zb,F,M.Ss,M.hg,M.gap,rfl,SW.wn.mono t2,SW.inF _ Bw.mll,fal t2,MA.ok,MA.h2,MA.l0,MA.l1,by omega,by omega,pmem,by show 0<=wd;omega,w2,.inl ⟨hfar,fun H3 s3=>?_⟩⟩
 have t3:=t2.trans s3
 walk_at "rs"
 refine⟨_,_,4,_,rfl,rfl,SqL.of (t3 _ _ st),rfl,?_⟩
 walk_at "rs"
 refine⟨⟨b.w,b.ll,M.f,M.lead,wd,hh⟩,x,y,far,zs,z0,F,M.Ss,M.hg,M.gap,rfl,SW.wn.mono t3,SW.inF _ Bw.mll,fal t3,MA.ok,MA.h2,MA.l0,MA.l1,by omega,by omega,z0T.inSg MA.ok,by show 0<=wd;omega,w2,.inl ⟨hfar,fun H4 s4=>?_⟩⟩
 have t4:=t3.trans s4
 walk_at "rs"
 refine⟨_,_,0,_,rfl,rfl,SqL.of (t4 _ _ st),rfl,?_⟩
 refine⟨_,_,rfl,.inl (SqL.of (t4 _ _ SW.zl)),?_⟩
 rw[List.length_map]
 walk_at "rs"
 refine z29 (fun _=>?_) (fun c0=>?_)
 .walk_at "rs"
  exact q H4 t4
 have zn:0<zs.length:=Nat.pos_of_ne_zero fun e=>c0 (by rw[e];rfl)
 walk_at "rs"
 refine⟨_,_,4,_,rfl,rfl,SqL.of (t4 _ _ st),rfl,?_⟩
 walk_at "rs"
 refine⟨_,_,0,_,rfl,rfl,SqL.of (t4 _ _ st),rfl,?_⟩
 refine⟨_,_,rfl,.inl (SqL.of (t4 _ _ SW.zl)),?_⟩
 rw[List.length_map]
 have k0:=Int.emod_nonneg (c/5) (show(zs.length:Int)≠0 by omega)
 have k1:=Int.emod_lt_of_pos (c/5) (show(0:Int)<(zs.length:Int) by omega)
 walk_at "rs"
 refine⟨⟨b.w,b.ll,M.f,M.lead,wd,hh⟩,x,y,_,zs,zb,F,M.Ss,M.hg,M.gap,rfl,SW.wn.mono t4,SW.inF _ Bw.mll,fal t4,MA.ok,MA.h2,MA.l0,MA.l1,by omega,by omega,pmem,by show 0<=wd;omega,w2,.inr ⟨k0,k1,_,_,pf,fun t H5 s5 gt=>?_⟩⟩
 have t5:=t4.trans s5
 walk_at "rs"
 refine⟨_,_,4,_,rfl,rfl,SqT.of (t5 _ _ MA0.tup),rfl,?_⟩
 walk_at "rs"
 intro t6 nt6
 have s6:=Same.new (o:=.tup [.str (one M.c),.int ((c/420)%((z0.length:Int)+1))]) nt6
 refine⟨t,t6,_,_,_,_,rfl,rfl,SqT.of (s6 _ _ gt),SqT.of upd_same,?_⟩
 have e:((one M.c==one M.c)&&(((((c/420)%((z0.length:Int)+1)).toNat:Nat):Int)==((c/420)%((z0.length:Int)+1))))=true:=by
  rw[show(((((c/420)%((z0.length:Int)+1)).toNat:Nat):Int))=(c/420)%((z0.length:Int)+1) by omega]
  simp
 show Q (V.bl ((one M.c==one M.c)&&(((((c/420)%((z0.length:Int)+1)).toNat:Nat):Int)==((c/420)%((z0.length:Int)+1))))) _
 rw[e]
 exact q _ (t5.trans s6)
theorem Jh:FnScope ["_law_cell","_law_state","_law_make","_law_way","_law_good"] ["_law_cell","_law_state","_law_make"] (z03 z28):=⟨rfl,rfl,rfl,by decide+kernel,rfl,by decide+kernel,by decide+kernel⟩
theorem z92 {f:Addr} {fd:FuncData} (D:Df K mg "_law_deed" z28 ["_law_cell","_law_state","_law_make"] f fd)
 {J0 J3:Addr} (Zo:Co K mg J0 J3)
 {J6 J7 J4 J5:Addr} (Z:Cl K mg J6 J7 J4 J5)
 (JM:Ow P w K mg base "_law_stands" ["_law_state","_law_make"] 8 (z3b J0 J3))
 (Jq:Ow P w K mg base "_law_scrolled" ["_law_cell","_law_state"] 3 (z4y J0))
 (W3:Ow P w K mg base "_law_edited" ["_law_cell","_law_state","_law_make"] 5 (z8H J0 J3))
 (Jx:Ow P w K mg base "_law_refused" ["_law_cell","_law_state","_law_make"] 6 (z4O J0 J3)) (B:Blt mg):
 Ow P w K mg base "_law_deed" ["_law_cell","_law_state","_law_make"] 9 (z8I J0 J3):=by
 refine D.ow (D.F.ok Jh (fun vs H Q E h=>?_) (fun cdv A outer s H vs Q E hr h=>?_))
 .obtain⟨F,mk,M,b,wd,hh,x,y,zs,c,rfl,_⟩:=h
  rfl
 obtain⟨F,mk,M,b,wd,hh,x,y,zs,c,rfl,SW,MA,q⟩:=h
 refine⟨_,(z04 (z0B (i:=3) Jh.nd rfl (Or.inl rfl) (z08 z0g (pv 0) z01))
  (z2B (z0R (PW.pt (z2D (z0N z37 (pv 3) z01 (z0O _)) (z1c (PW.pt (z7g (z0N z36 (z07 z0F rfl B.f_len boot_len (z00 (z0C ix_list (pv 1) z01 (fun _ _=>rfl)) z02)) z01 (z0O _)) (z54 (z0N z37 (pv 3) z01 (z0O _)))))))) (z05 (z0B (i:=4) Jh.nd rfl (Or.inl rfl) (z0G Jq hr rfl (z00 (z08 z0f (pv 0) z01) (z00 (pv 1) z02))))) (z05 (z0R (z0N z37 (pv 3) z01 (z0O _)) (z05 (z0B (i:=4) Jh.nd rfl (Or.inl rfl) (z0G W3 hr rfl (z00 (z08 z0f (pv 0) z01) (z00 (pv 1) (z00 (pv 2) z02)))))) (z05 (z0B (i:=4) Jh.nd rfl (Or.inl rfl) (z0G Jx hr rfl (z00 (z08 z0f (pv 0) z01) (z00 (pv 1) (z00 (pv 2) z02)))))))))
  (z05 (z0I (z2t (pv 4) (z2s (z0G JM hr rfl (z00 (pv 1) (z00 (pv 2) z02))))))))),?_⟩
 refine L2.hold fun _ hB'=>?_
 obtain⟨sp,st,gp⟩:=SW.st
 have zl:=SW.zl
 walk_at "rs"
 refine⟨fun σ' H'=>∃v x' y' zs',σ'=[some (.int c),some (.ref b.st),some (.ref mk),v,some (.bl true)]/\SameX b.ads H H'/\StW J0 F H' M b wd hh x' y' zs',?_,?_⟩
 .have n20:=SW.n
  walk_at "rs"
  refine z29 (fun c1=>z3e ?_) (fun c1=>?_)
  .walk_at "rs"
   exact⟨F,M,b,wd,hh,x,y,zs,_,rfl,SW,fun x' y' H1 e1 SW1=>⟨_,x',y',zs,rfl,e1,SW1⟩⟩
  walk_at "rs"
  refine⟨_,_,0,_,rfl,rfl,SqL.of st,rfl,?_⟩
  refine⟨_,_,rfl,.inl (SqL.of zl),?_⟩
  rw[List.length_map]
  walk_at "rs"
  refine z29 (fun c2=>?_) (fun c2=>?_)
  .walk_at "rs"
   refine z29 (fun c3=>?_) (fun c3=>?_)
   .walk_at "rs"
    exact⟨F,M,b,wd,hh,x,y,zs,_,rfl,SW,fun x' y' H1 e1 SW1=>⟨_,x',y',zs,rfl,e1,SW1⟩⟩
   walk_at "rs"
   refine z29 (fun c4=>absurd c4 c3) (fun _=>?_)
   walk_at "rs"
   exact⟨F,mk,M,b,wd,hh,x,y,zs,_,rfl,SW,MA,fun H1 s1=>⟨_,x,y,zs,rfl,SameX.of s1,SW.mono s1⟩⟩
  .walk_at "rs"
   refine z29 (fun c3=>?_) (fun c3=>?_)
   .walk_at "rs"
    refine⟨F,mk,M,b,wd,hh,x,y,zs,_,rfl,SW,MA,Nat.pos_of_ne_zero fun e=>c2 ?_,fun zs' H1 e1 SW1=>⟨_,x,y,zs',rfl,e1,SW1⟩⟩
    rw[e]
    rfl
   walk_at "rs"
   exact⟨F,mk,M,b,wd,hh,x,y,zs,_,rfl,SW,MA,fun H1 s1=>⟨_,x,y,zs,rfl,SameX.of s1,SW.mono s1⟩⟩
 .rintro σ2 H2 ⟨v,x',y',zs',rfl,e2,SW2⟩
  walk_at "rs"
  refine⟨F,mk,M,b,wd,hh,x',y',zs',rfl,SW2,MA.mono (z0u (e2.sub SW.inF)),fun H3 s3=>?_⟩
  exact q x' y' zs' H3 (e2.trans (SameX.of s3)) (SW2.mono s3)
theorem JV:FnScope ["_law_script","_law_k","_law_make","_law_font","_law_many","_law_lines_here","_law_sides","_law_handed","_law_window","_law_columns_here"] ["_law_script","_law_k","_law_make","_law_font","_law_many"] (z03 z1a):=⟨rfl,rfl,rfl,by decide+kernel,rfl,by decide+kernel,by decide+kernel⟩
theorem z7e {f:Addr} {fd:FuncData} (D:Df K mg "_law_begun" z1a ["_law_script","_law_k","_law_make","_law_font","_law_many"] f fd)
 {J0 J3:Addr} (Zo:Co K mg J0 J3)
 {J6 J7 J4 J5:Addr} (Z:Cl K mg J6 J7 J4 J5)
 (JQ:Oc P w K mg base (CX2 P w) "Window" J0 ["self","font","lines","lead","wide","high"] [] 5 (z5S J0 J3 J4))
 (J8:Ow P w K mg base "_law_draw" ["_law_script","_law_k","_law_prime","_law_many"] 1 (z2z K))
 (JP:Ow P w K mg base "_law_columns" ["_law_text_here","_law_table","_law_high","_law_gap"] 1 z33)
 (WE:Ow P w K mg base "_law_lines" ["_law_script","_law_k","_law_signs_here","_law_many"] 2 (z6V K)) (B:Blt mg):
 Ow P w K mg base "_law_begun" ["_law_script","_law_k","_law_make","_law_font","_law_many"] 7 (zAl K J0 J3):=by
 refine D.ow (D.F.ok JV (fun vs H Q E h=>?_) (fun cdv A outer s H vs Q E hr h=>?_))
 .obtain⟨a,ns,k,mk,M,m,F,rfl,_⟩:=h
  rfl
 obtain⟨a,ns,k,mk,M,m,F,rfl,hS,k0,k1,MA,m0,m1,hF,q⟩:=h
 refine⟨_,(z04 (z0B (i:=5) JV.nd rfl (Or.inl rfl) (z0G WE hr rfl (z00 (pv 0) (z00 (pv 1) (z00 (z0C ix_tup (pv 2) z01 (fun _ _=>rfl)) (z00 (pv 4) z02))))))
  (z04 (z0B (i:=6) JV.nd rfl (Or.inl rfl) (z0t (z00 (z08 z0P z01 (z0G J8 hr rfl (z00 (pv 0) (z00 (z08 z0P (pv 1) z01) (z00 z01 (z00 z01 z02)))))) (z00 (z08 z0P z01 (z0G J8 hr rfl (z00 (pv 0) (z00 (z08 z0P (pv 1) z01) (z00 z01 (z00 z01 z02)))))) z02))))
  (z04 (z0B (i:=7) JV.nd rfl (Or.inl rfl) (z0w z3d rfl B.f_list boot_list (z00 (pv 5) z02)))
  (z04 (z0B (i:=8) JV.nd rfl (Or.inl rfl) (zDl JQ hr z4s rfl (z00 (pv 3) (z00 (pv 7) (z00 (z0C ix_tup (pv 2) z01 (fun _ _=>rfl)) (z00 (z0C ix_tup (pv 6) z01 (fun _ _=>rfl)) (z00 (z0C ix_tup (pv 6) z01 (fun _ _=>rfl)) z02)))))))
  (z04 (z0e (zDK PySem.F.plainAttrs_list PySem.F.slot_list_clear PySem.F.type_list_clear zB6 (pv 7)))
  (z04 (z3T (i:=9) (locs:=["_law_line"]) (ix:=[2]) rfl JV.nd rfl rfl (BlkSc.look (dsc:=z03 z1a) (N:=["_law_script","_law_k","_law_make","_law_font","_law_many","_law_lines_here","_law_sides","_law_handed","_law_window","_law_columns_here"]) rfl rfl (by decide+kernel)) (z1q (pv 5)) (fun _ _ _ _ _ _=>(z0K (i:=0) (by decide+kernel:(["_law_line","_law_make"]:List Str).Nodup) rfl (Or.inl rfl))) (fun _ _ _ _ _ _=>z0h) (fun _ _ _ _ _ _=>(z0G JP hr rfl (z00 (pv 0) (z00 (z0w (z7J rfl) rfl B.f_dict boot_dict (z00 (z0C z1H (pv 1) z01 (fun _ _=>rfl)) z02)) (z00 (z0C z1H (pv 1) z01 (fun _ _=>rfl)) (z00 (z0C z1H (pv 1) z01 (fun _ _=>rfl)) z02)))))) rfl)
  (z05 (z0I (z1o (z00 (pv 5) (z00 (z0t (z00 z01 (z00 z01 z02))) (z00 (z0C ix_tup (pv 6) z01 (fun _ _=>rfl)) (z00 (z0C ix_tup (pv 6) z01 (fun _ _=>rfl)) (z00 (pv 8) (z00 (pv 9) z02))))))))))))))),?_⟩
 refine L2.hold fun _ hB'=>?_
 have FO:=MA.ok
 walk_at "rs"
 refine⟨_,_,0,_,rfl,rfl,SqT.of MA.tup,rfl,?_⟩
 walk_at "rs"
 refine⟨a,ns,k,M.l,m,M.ts,M.Ss,M.hg,rfl,hS,MA.sg,FO.n1,k0,by omega,m0,m1,fun zl zs H1 s1 nzl gz zn hz=>?_⟩
 walk_at "rs"
 refine⟨a,ns,_,_,_,rfl,s1.seq hS,by omega,by omega,by decide,by decide,?_⟩
 have b1:=z1J (ns:=ns) (k:=k+20) (p:=10091) (m:=7) (by decide)
 generalize z1t ns (k+20) 10091 7=wd at b1
 walk_at "rs"
 refine⟨a,ns,_,_,_,rfl,s1.seq hS,by omega,by omega,by decide,by decide,?_⟩
 have b2:=z1J (ns:=ns) (k:=k+21) (p:=10093) (m:=7) (by decide)
 generalize z1t ns (k+21) 10093 7=hh at b2
 walk_at "rs"
 intro sd nsd
 have s2:=Same.new (o:=.tup [.int (1+wd),.int (1+hh)]) nsd
 have g2:(upd H1 sd (.tup [.int (1+wd),.int (1+hh)])) sd=some (.tup [.int (1+wd),.int (1+hh)]):=upd_same
 show zCJ _ _ _ (upd H1 sd (.tup [.int (1+wd),.int (1+hh)])) _
 generalize upd H1 sd (.tup [.int (1+wd),.int (1+hh)])=H2 at s2 g2
 have t2:=s1.trans s2
 walk_at "rs"
 refine⟨zl,_,rfl,.inl (SqL.of (s2 _ _ gz)),fun hd nhd=>?_⟩
 have s3:=Same.new (o:=.lst (zs.map V.str)) nhd
 have g3:(upd H2 hd (.lst (zs.map V.str))) hd=some (.lst (zs.map V.str)):=upd_same
 generalize upd H2 hd (.lst (zs.map V.str))=H3 at s3 g3
 have t3:=t2.trans s3
 walk_at "rs"
 refine⟨_,_,3,_,rfl,rfl,SqT.of (t3 _ _ MA.tup),rfl,?_⟩
 walk_at "rs"
 refine⟨_,_,0,_,rfl,rfl,SqT.of (s3 _ _ g2),rfl,?_⟩
 walk_at "rs"
 refine⟨_,_,1,_,rfl,rfl,SqT.of (s3 _ _ g2),rfl,?_⟩
 walk_at "rs"
 intro w dw nw ndw nwd
 have nw':(upd H3 dw (.own w)) w=none:=(z06 (Ne.symm nwd)).trans nw
 have sF:Same H3 (upd (upd H3 dw (.own w)) w (.ins J0 dw [])):=(Same.new ndw).trans (Same.new nw')
 have u3:=t3.trans sF
 have hb:z0q M.Ss zs=none:=List.findSome?_eq_none_iff.mpr fun z h=>z1F (hz z h).2
 refine⟨w,dw,M.f,hd,_,_,_,zs,M.Ss,M.hg,M.gap,rfl,upd_same,MA.fa.mono u3,FO,sF _ _ g3,fun z h=>⟨by have:=(hz z h).1;omega,(hz z h).2.inSg FO⟩,fun _ ll H4 e4 nll WA4=>⟨rfl,?_⟩,fun c i d H4 hn=>?_⟩
 rotate_left
 .rw[hb]at hn
  cases hn
 have s4:Same H3 H4:=SameX.old sF e4 (fun p hp=>by rw[List.mem_singleton.mp hp];exact nw)
 have nll3:H3 ll=none:=sF.free nll
 have t4:=t3.trans s4
 obtain⟨⟨dx',fw4⟩,hl4⟩:=id WA4
 have hd4:=s4 _ _ g3
 have nwh:w≠hd:=z2C fw4 hd4 fun z=>nomatch z
 have nlh:ll≠hd:=fun e=>by rw[e,g3]at nll3;cases nll3
 walk_at "rs"
 refine⟨.inl ⟨rfl,_,SqL.of hd4⟩,?_⟩
 refine⟨hd,_,rfl,rfl,hd4,?_⟩
 have s5:Same H2 (upd H4 hd (.lst [])):=(s3.trans s4).put nhd
 have WA5:WnAt J0 (upd H4 hd (.lst [])) ⟨w,ll,M.f,M.lead,1+wd,1+hh⟩ 0 0 zs:=⟨⟨dx',(z06 nwh).trans fw4⟩,(z06 nlh).trans hl4⟩
 generalize upd H4 hd (.lst [])=H5 at s5 WA5
 have t5:=t2.trans s5
 have MA5:=MA.mono t5
 have gz5:=s5 _ _ (s2 _ _ gz)
 obtain⟨rls,hrl,hrs⟩:=MA5.sg.rows
 have kl:=z4K (Ss:=M.Ss) hrl
 have kp:=z7H FO hrl
 have hul:=MA5.sg.len
 have n2':=FO.n2
 walk_at "rs"
 refine⟨⟨_,SqL.of gz5⟩,?_⟩
 refine z0i (n:=zs.length) (fun i σ us H6=>∃v qs,σ=[v,some (.ref mk)]/\us=(qs:List Addr).map V.ref/\Same H5 H6/\qs.length=i/\(∀(j:Nat) q z,qs[j]?=some q->zs[j]?=some z->∃ps,RowsAt H6 q ps (z1d M.Ss M.hg M.gap z.cps.toList z.length)/\H5 q=none/\∀p∈ps,H5 p=none)/\i<=zs.length) ⟨none,[],rfl,rfl,Same.refl _,rfl,(fun j q z h=>by simp at h),Nat.zero_le _⟩ (Nat.le_of_lt (z0H (by omega))) ?_ ?_ ?_ ?_ ?_
 .rintro i σ us H6 ⟨v,qs,_,rfl,_,hi,_,_⟩
  rw[List.length_map,hi]
 .rintro σ us H6 ⟨v,qs,_,_,s6,_,_,_⟩
  exact⟨_,SqL.of (s6 _ _ gz5),by rw[List.length_map];exact Nat.le_refl _⟩
 .rintro i σ us H6 hi ⟨v,qs,_,_,s6,_,_,_⟩
  exact⟨_,.str zs[i],SqL.of (s6 _ _ gz5),by rw[List.getElem?_map,List.getElem?_eq_getElem hi];rfl⟩
 .rintro i σ us H6 y H' Z hi ⟨v,qs,rfl,rfl,s6,hqi,hqs,_⟩ ⟨rfl,hy⟩ hZ
  have e:=hy _ (SqL.of (s6 _ _ gz5))
  rw[List.getElem?_map,List.getElem?_eq_getElem hi]at e
  cases e
  walk_at "rs"
  refine⟨_,_,0,_,rfl,rfl,SqT.of (s6 _ _ MA5.tup),rfl,?_⟩
  refine⟨M.l,M.ts,kvF M.Ss rls,rfl,SqL.of (s6 _ _ MA5.sg.lst),by rw[kl,hul],by rw[kp,kl];exact Nat.le_of_lt (z0H (by omega)),fun j t k' v e1 e2=>?_,fun d nd=>?_⟩
  .have hj:j<M.Ss.length:=by
    rw[<-hul]
    exact(List.getElem?_eq_some_iff.mp e1).1
   rw[z6N hrl hj]at e2
   cases e2
   exact s6 _ _ (hrs j t _ _ e1 (List.getElem?_eq_getElem hj) (List.getElem?_eq_getElem (by omega))).1
  rw[kp]
  have s7:Same H' (upd H' d (.dK (kvF M.Ss rls))):=Same.new nd
  have TA:TableAt M.hg (upd H' d (.dK (kvF M.Ss rls))) d M.Ss:=⟨rls,hrl,upd_same,fun j S p e1 e2=>by
   have hj:j<M.ts.length:=by rw[hul];exact(List.getElem?_eq_some_iff.mp e1).1
   obtain⟨_,ps,r1,r2⟩:=hrs j _ S p (List.getElem?_eq_getElem hj) e1 e2
   exact⟨ps,r1.mono (s6.trans s7),r2⟩⟩
  generalize upd H' d (.dK (kvF M.Ss rls))=H7 at s7 TA
  have hzi:=hz _ (List.getElem_mem hi)
  have u7:=s6.trans s7
  walk_at "rs"
  refine⟨_,_,1,_,rfl,rfl,SqT.of (u7 _ _ MA5.tup),rfl,?_⟩
  walk_at "rs"
  refine⟨_,_,2,_,rfl,rfl,SqT.of (u7 _ _ MA5.tup),rfl,?_⟩
  refine⟨zs[i],d,M.hg,M.gap,M.Ss,rfl,TA,FO,MA.h1,MA.h2,MA.g0,MA.g1,by omega,hzi.2,fun lq pq H8 RB=>?_⟩
  refine hZ _ _ _ ⟨_,qs++[lq],rfl,by rw[List.map_append];rfl,u7.trans RB.same,by rw[List.length_append,hqi];rfl,fun j q z e1 e2=>?_,hi⟩
  by_cases hj:j<i
  .rw[List.getElem?_append_left (by omega)]at e1
   obtain⟨ps,R,f1,f2⟩:=hqs j q z e1 e2
   exact⟨ps,R.mono (s7.trans RB.same),f1,f2⟩
  .have hj2:j<i+1:=by
    have:=(List.getElem?_eq_some_iff.mp e1).1
    rw[List.length_append,hqi]at this
    exact this
   have ej:j=i:=by omega
   subst ej
   rw[List.getElem?_append_right (by omega),hqi,Nat.sub_self]at e1
   cases e1
   rw[List.getElem?_eq_getElem hi]at e2
   cases e2
   exact⟨pq,RB.rat,u7.free RB.fl,fun p hp=>u7.free (RB.fp p hp).1⟩
 rintro σ us H6 ⟨v,qs,rfl,rfl,s6,hql,hqs,_⟩ cl ncl
 have s7:=Same.new (o:=.lst (qs.map V.ref)) ncl
 have g7:(upd H6 cl (.lst (qs.map V.ref))) cl=some (.lst (qs.map V.ref)):=upd_same
 generalize upd H6 cl (.lst (qs.map V.ref))=H7 at s7 g7
 have u7:=s6.trans s7
 walk_at "rs"
 intro t0 nt0
 have s8:=Same.new (o:=.tup [.int 0,.int 0]) nt0
 have g8:(upd H7 t0 (.tup [.int 0,.int 0])) t0=some (.tup [.int 0,.int 0]):=upd_same
 generalize upd H7 t0 (.tup [.int 0,.int 0])=H8 at s8 g8
 have u8:=u7.trans s8
 have gs8:=u8 _ _ (s5 _ _ g2)
 walk_at "rs"
 refine⟨_,_,0,_,rfl,rfl,SqT.of gs8,rfl,?_⟩
 walk_at "rs"
 refine⟨_,_,1,_,rfl,rfl,SqT.of gs8,rfl,?_⟩
 walk_at "rs"
 intro st nst
 have s9:=Same.new (o:=.lst [.ref zl,.ref t0,.int (1+wd),.int (1+hh),.ref w,.ref cl]) nst
 have g9:(upd H8 st (.lst [.ref zl,.ref t0,.int (1+wd),.int (1+hh),.ref w,.ref cl])) st=some (.lst [.ref zl,.ref t0,.int (1+wd),.int (1+hh),.ref w,.ref cl]):=upd_same
 dsimp only
 generalize upd H8 st (.lst [.ref zl,.ref t0,.int (1+wd),.int (1+hh),.ref w,.ref cl])=H9 at s9 g9
 have u9:=u8.trans s9
 have fw5:=WA5.1
 obtain⟨dw5,fw5⟩:=fw5
 have hl5:=WA5.2
 have dn:∀{p q:Addr} {G:Hp} {o:HO},G p=some o->G q=none->p≠q:=fun{p q G o} h1 h2 e=>by rw[<-e,h1]at h2;cases h2
 have gz3:=(s2.trans s3) _ _ gz
 have nw0:H w=none:=t3.free nw
 have nll0:H ll=none:=t3.free nll3
 have ncl0:H cl=none:=t5.free (s6.free ncl)
 have nt00:H t0=none:=t5.free (u7.free nt0)
 have nst0:H st=none:=t5.free (u8.free nst)
 have z1:zl≠w:=dn gz3 nw
 have z2:zl≠ll:=dn gz3 nll3
 have z3:zl≠cl:=dn (s6 _ _ gz5) ncl
 have z4:zl≠st:=dn (u8 _ _ gz5) nst
 have z5:w≠ll:=z2C fw5 hl5 fun z=>nomatch z
 have z6:w≠cl:=dn (s6 _ _ fw5) ncl
 have z7:w≠st:=dn (u8 _ _ fw5) nst
 have z8:ll≠cl:=dn (s6 _ _ hl5) ncl
 have z9:ll≠st:=dn (u8 _ _ hl5) nst
 have z10:cl≠st:=dn (s8 _ _ g7) nst
 have mem5:∀{p},p∈(⟨st,zl,w,ll,cl⟩:Bw).ads->p=st\/p=zl\/p=w\/p=ll\/p=cl:=fun{p} h=>by
  have h:p∈[st,zl,w,ll,cl]:=h
  simpa only[List.mem_cons,List.not_mem_nil,or_false]using h
 have nF:∀{p},H p=none->p∉F:=fun{p} h hp=>by
  obtain⟨o,ho⟩:=hF p hp
  rw[h]at ho
  cases ho
 have nfr:∀{p o},H5 p=none->H6 p=some o->p∉F++(⟨st,zl,w,ll,cl⟩:Bw).ads:=fun{p o} h5 h6 hp=>by
  rcases List.mem_append.mp hp with h|h
  .exact nF (t5.free h5) h
  .rcases mem5 h with rfl|rfl|rfl|rfl|rfl
   .exact dn ((s7.trans s8) _ _ h6) nst rfl
   .exact dn gz5 h5 rfl
   .exact dn fw5 h5 rfl
   .exact dn hl5 h5 rfl
   .exact dn h6 ncl rfl
 refine q ⟨st,zl,w,ll,cl⟩ (1+wd) (1+hh) zs H9 (t5.trans u9) (fun p hp=>?_) ⟨⟨t0,g9,z4M (fun hp=>?_) (s9 _ _ g8)⟩,u9 _ _ gz5,WA5.mono u9,⟨qs,hql,(s8.trans s9) _ _ g7,fun j q' z e1 e2=>?_⟩,?_,fun p hp=>List.mem_append_right _ hp,fun p hp=>?_,by omega,by omega,by omega,by omega,by decide,by decide,by decide,by decide,by omega,hz⟩ zn
 .rcases mem5 hp with rfl|rfl|rfl|rfl|rfl
  .exact nst0
  .exact nzl
  .exact nw0
  .exact nll0
  .exact ncl0
 .rcases List.mem_append.mp hp with h|h
  .exact nF nt00 h
  .rcases mem5 h with rfl|rfl|rfl|rfl|rfl
   .exact dn g8 nst rfl
   .exact dn (u7 _ _ gz5) nt0 rfl
   .exact dn (u7 _ _ fw5) nt0 rfl
   .exact dn (u7 _ _ hl5) nt0 rfl
   .exact dn g7 nt0 rfl
 .obtain⟨ps,R,f1,f2⟩:=hqs j q' z e1 e2
  refine⟨ps,(R.mono ((s7.trans s8).trans s9)).off (nfr f1 R.lst) fun p hp=>?_⟩
  obtain⟨i,hi,e⟩:=List.mem_iff_getElem.mp hp
  have hl:=R.len
  exact nfr (f2 p hp) (R.row i p _ (by rw[List.getElem?_eq_getElem hi,e]) (List.getElem?_eq_getElem (by omega)))
 .show [st,zl,w,ll,cl].Nodup
  simp only[List.nodup_cons,List.mem_cons,List.not_mem_nil,or_false,not_or,List.nodup_nil,and_true,not_false_eq_true]
  exact⟨⟨Ne.symm z4,Ne.symm z7,Ne.symm z9,Ne.symm z10⟩,⟨z1,z2,z3⟩,⟨z5,z6⟩,z8⟩
 .rcases List.mem_append.mp hp with h|h
  .obtain⟨o,ho⟩:=hF p h
   exact⟨o,(t5.trans u9) _ _ ho⟩
  .rcases mem5 h with rfl|rfl|rfl|rfl|rfl
   .exact⟨_,g9⟩
   .exact⟨_,u9 _ _ gz5⟩
   .exact⟨_,u9 _ _ fw5⟩
   .exact⟨_,u9 _ _ hl5⟩
   .exact⟨_,(s8.trans s9) _ _ g7⟩
theorem JY:FnScope ["_law_script","_law_make","_law_font","_law_told","e"] ["_law_script","_law_make","_law_font"] (z03 z0o):=⟨rfl,rfl,rfl,by decide+kernel,rfl,by decide+kernel,by decide+kernel⟩
theorem z4h {f:Addr} {fd:FuncData} (D:Df K mg "_law_not_begun" z0o ["_law_script","_law_make","_law_font"] f fd)
 {J0 J3:Addr} (Zo:Co K mg J0 J3)
 {J6 J7 J4 J5:Addr} (Z:Cl K mg J6 J7 J4 J5)
 (JQ:Oc P w K mg base (CX2 P w) "Window" J0 ["self","font","lines","lead","wide","high"] [] 5 (z5S J0 J3 J4)) (B:Blt mg):
 Ow P w K mg base "_law_not_begun" ["_law_script","_law_make","_law_font"] 7 (z51 J3):=by
 refine D.ow (D.F.ok JY (fun vs H Q E h=>?_) (fun cdv A outer s H vs Q E hr h=>?_))
 .obtain⟨v,mk,M,rfl,_⟩:=h
  rfl
 obtain⟨v,mk,M,rfl,MA,q⟩:=h
 refine⟨_,(z04 (z0B (i:=3) JY.nd rfl (Or.inl rfl) z3c)
  (z04 (z7B (i:=4) (zDm JQ hr rfl (z00 (pv 2) (z00 (z1o (z00 (z0C ix_tup (z0C ix_list (z0C ix_tup (pv 1) z01 (fun _ _=>rfl)) z01 (fun _ _=>rfl)) z01 (fun _ _=>rfl)) (z00 (z08 z2G (z0C ix_tup (z0C ix_list (z0C ix_tup (pv 1) z01 (fun _ _=>rfl)) z01 (fun _ _=>rfl)) z01 (fun _ _=>rfl)) (z0C ix_tup (pv 1) z01 (fun _ _=>rfl))) z02))) (z00 (z0C ix_tup (pv 1) z01 (fun _ _=>rfl)) (z00 z01 (z00 z01 z02)))))) rfl rfl rfl ⟨Z.m_GlowError,Z.x_GlowError⟩ JY.nd rfl rfl (fun _=>(z05 (z0R (z0W (z07 z1v rfl B.f_isinstance boot_isinstance (z00 (pv 4) (z00 (z3R (v:=.ref _) rfl Z.m_NoSign rfl) z02)))) (z05 (z0B (i:=3) JY.nd rfl (Or.inl rfl) (z0t (z00 (z3v (pv 4) rfl) (z00 (z3v (pv 4) rfl) z02))))) z0L))))
  (z05 (z0I (z1y (zAV (z8V hr)) (pv 3) (z0t (z00 (z0C ix_tup (pv 1) z01 (fun _ _=>rfl)) (z00 z01 z02))) (z0O _)))))),?_⟩
 refine L2.hold fun _ hB'=>?_
 have kt:=Z.kt 1 (by decide)
 have k1:PySem.W.kitOne K (.ref J4) (.ref J4)=some true:=kt.one 1 (Nat.lt_of_sub_eq_succ rfl)
 have FO:=MA.ok
 have n1:=FO.n1
 obtain⟨t0,e1,⟨rl,ps,t1,_,_⟩,e3⟩:=MA.sg.get (i:=0) (by omega)
 have hgo:known M.Ss (M.Ss[0]'(by omega)).c=true:=z6G (List.getElem_mem _)
 have hin:(M.Ss[0]'(by omega)).c∈sgnL:=FO.sg _ (List.getElem_mem _)
 generalize (M.Ss[0]'(by omega)).c=g at t1 hgo hin
 have e3:atI (M.ts.map V.ref) 0=some (.ref t0):=e3
 walk_at "rs"
 refine⟨fun Cv dd H2=>∃d',Cv=.ref J4/\dd=some d'/\Same H H2/\H2 d'=some (.ext (z3f d' [("at",.int ((1:Nat):Int)),("sign",.str (one M.c))])),?_,?_⟩
 .walk_at "rs"
  refine⟨_,_,0,_,rfl,rfl,SqT.of MA.tup,rfl,?_⟩
  walk_at "rs"
  refine⟨_,_,0,_,rfl,rfl,SqL.of MA.sg.lst,e3,?_⟩
  walk_at "rs"
  refine⟨_,_,0,_,rfl,rfl,SqT.of t1,rfl,?_⟩
  walk_at "rs"
  refine⟨_,_,0,_,rfl,rfl,SqT.of MA.tup,rfl,?_⟩
  walk_at "rs"
  refine⟨_,_,0,_,rfl,rfl,SqL.of MA.sg.lst,e3,?_⟩
  walk_at "rs"
  refine⟨_,_,0,_,rfl,rfl,SqT.of t1,rfl,?_⟩
  walk_at "rs"
  refine⟨_,_,4,_,rfl,rfl,SqT.of MA.tup,rfl,?_⟩
  refine⟨_,_,rfl,rfl,by show 1+1<=_;decide,?_⟩
  refine⟨by show 2<=_;decide,fun l nl=>?_⟩
  have s1:=Same.new (o:=.lst [.str (one g),.str (one g++one M.c)]) nl
  have g1:(upd H l (.lst [.str (one g),.str (one g++one M.c)])) l=some (.lst ([one g,one g++one M.c].map V.str)):=upd_same
  generalize upd H l (.lst [.str (one g),.str (one g++one M.c)])=H1 at s1 g1
  walk_at "rs"
  refine⟨_,_,3,_,rfl,rfl,SqT.of (s1 _ _ MA.tup),rfl,?_⟩
  walk_at "rs"
  intro x dx nx ndx nxd
  have nx':(upd H1 dx (.own x)) x=none:=(z06 (Ne.symm nxd)).trans nx
  have sF:Same H1 (upd (upd H1 dx (.own x)) x (.ins J0 dx [])):=(Same.new ndx).trans (Same.new nx')
  have u1:=s1.trans sF
  have b1:firstBad M.Ss (one g).cps.toList 0=none:=z1F fun c hc=>by rw[List.mem_singleton.mp hc];exact hgo
  have b2:firstBad M.Ss (one g++one M.c).cps.toList 0=some (M.c,1):=z2P (k:=1) (i:=0) (fun d hd=>by rw[List.mem_singleton.mp hd];exact hgo) rfl MA.un
  have b3:z0q M.Ss [one g,one g++one M.c]=some (M.c,1):=z3h (i:=1) (fun z hz=>by rw[List.mem_singleton.mp hz];exact b1) rfl b2
  refine⟨x,dx,M.f,l,_,_,_,_,M.Ss,M.hg,M.gap,rfl,upd_same,MA.fa.mono u1,FO,sF _ _ g1,fun z hz=>?_,fun hn=>?_,fun c i d H2 hb s2 hd=>?_⟩
  .simp only[List.mem_cons,List.not_mem_nil,or_false]at hz
   rcases hz with rfl|rfl
   .exact⟨by show 1<=1000;decide,fun c hc=>by rw[List.mem_singleton.mp hc];exact hin⟩
   .refine⟨by show 2<=1000;decide,fun c hc=>?_⟩
    have hc:c∈[g,M.c]:=hc
    simp only[List.mem_cons,List.not_mem_nil,or_false]at hc
    rcases hc with rfl|rfl
    .exact hin
    .exact MA.sc
  .rw[b3]at hn
   cases hn
  .rw[b3]at hb
   cases hb
   exact⟨d,rfl,rfl,u1.trans s2,hd⟩
 .rintro Cv dd H2 ⟨d',rfl,rfl,s2,hE0⟩
  refine⟨J4,rfl,Z.x_NoSign,Z.ab _ (by simp),fun a na=>?_⟩
  obtain⟨s3,hE⟩:=z4t (C:=J4) na hE0
  generalize upd H2 a (.ext (z4q a J4 (some d')))=H3 at s3 hE
  refine⟨_,rfl,a,_,_,_,_,_,rfl,hE,Z.x_NoSign,rfl,k1,_,rfl,z5z rfl ?_⟩
  refine⟨_,rfl,a,J4,_,_,rfl,hE,Z.x_NoSign,Z.f_NoSign_sign,rfl,_,rfl,a,J4,_,_,rfl,hE,Z.x_NoSign,Z.f_NoSign_at,rfl,szV (by simp),fun t' nt=>?_⟩
  have s4:Same H (upd H3 t' (.tup [.str (one M.c),.int ((1:Nat):Int)])):=(s2.trans s3).trans (Same.new nt)
  have g4:(upd H3 t' (.tup [.str (one M.c),.int ((1:Nat):Int)])) t'=some (.tup [.str (one M.c),.int ((1:Nat):Int)]):=upd_same
  generalize upd H3 t' (.tup [.str (one M.c),.int ((1:Nat):Int)])=H4 at s4 g4
  walk_at "rs"
  refine⟨_,_,4,_,rfl,rfl,SqT.of (s4 _ _ MA.tup),rfl,?_⟩
  walk_at "rs"
  intro t2 nt2
  have s5:=Same.new (o:=.tup [.str (one M.c),.int 1]) nt2
  refine⟨t',t2,_,_,_,_,rfl,rfl,SqT.of (s5 _ _ g4),SqT.of upd_same,?_⟩
  have e:((one M.c==one M.c)&&(((1:Nat):Int)==(1:Int)))=true:=by simp
  show Q (V.bl ((one M.c==one M.c)&&(((1:Nat):Int)==(1:Int)))) _
  rw[e]
  exact q _ (s4.trans s5)
theorem W4:FnScope ["_law_script","_law_many","_law_more"] ["_law_script"] (z03 z1b):=⟨rfl,rfl,rfl,by decide+kernel,rfl,by decide+kernel,by decide+kernel⟩
theorem z7f {f:Addr} {fd:FuncData} (D:Df K mg "_law_cells" z1b ["_law_script"] f fd)
 (J8:Ow P w K mg base "_law_draw" ["_law_script","_law_k","_law_prime","_law_many"] 1 (z2z K)) (B:Blt mg):
 Ow P w K mg base "_law_cells" ["_law_script"] 2 (z6W K):=by
 refine D.ow (D.F.ok W4 (fun vs H Q E h=>?_) (fun cdv A outer s H vs Q E hr h=>?_))
 .obtain⟨a,ns,rfl,_⟩:=h
  rfl
 obtain⟨a,ns,rfl,hS,hn,q⟩:=h
 refine⟨_,(z04 (z0B (i:=1) W4.nd rfl (Or.inl rfl) (z0G J8 hr rfl (z00 (pv 0) (z00 z01 (z00 z01 (z00 z01 z02))))))
  (z04 (z3T (i:=2) (locs:=["_law_k"]) (ix:=[0]) rfl W4.nd rfl rfl (BlkSc.look (dsc:=z03 z1b) (N:=["_law_script","_law_many","_law_more"]) rfl rfl (by decide+kernel)) (z0S rfl B.f_range (z00 (pv 1) z02)) (fun _ _ _ _ _ _=>(z0K (i:=0) (by decide+kernel:(["_law_k","_law_script"]:List Str).Nodup) rfl (Or.inl rfl))) (fun _ _ _ _ _ _=>z0h) (fun _ _ _ _ _ _=>(z0G J8 hr rfl (z00 (pv 1) (z00 (z08 z0P z01 (pv 0)) (z00 z01 (z00 z01 z02)))))) rfl)
  (z05 (z0I (z3o z9O (z08 zDM (z3o z9O (pv 0) (z47 z01) (z47 z01)) (pv 2)) z6p (z47 z01)))))),?_⟩
 refine L2.hold fun _ hB'=>?_
 walk_at "rs"
 refine⟨a,ns,_,_,_,rfl,hS,by decide,by decide,by decide,by decide,?_⟩
 have b:=z1J (ns:=ns) (k:=12) (p:=10099) (m:=40) (by decide)
 generalize z1t ns 12 10099 40=mn at b
 walk_at "rs"
 refine⟨(z2v (by omega) (by omega)).1,(z2v (by omega) (by omega)).2,?_⟩
 refine z0i (n:=mn.toNat) (fun i σ zs H2=>∃v ws,σ=[v,some (.ref a)]/\zs=(ws:List Int).map V.int/\ws.length=i/\H2=H) ⟨none,[],rfl,rfl,rfl,rfl⟩ (Nat.le_of_lt (z0H (by omega))) ?_ ?_ ?_ ?_ ?_
 .rintro i σ zs H2 ⟨v,ws,_,rfl,hw,_⟩
  rw[List.length_map,hw]
 .rintro σ zs H2 _
  exact Nat.le_refl _
 .intro i σ zs H2 hi _
  exact hi
 .rintro i σ zs H2 x H' Z hi ⟨v,ws,rfl,rfl,hw,rfl⟩ ⟨rfl,rfl⟩ hZ
  walk_at "rs"
  refine⟨a,ns,_,_,_,rfl,hS,by omega,by omega,by decide,by decide,?_⟩
  exact hZ _ _ _ ⟨_,ws++[_],rfl,by rw[List.map_append];rfl,by rw[List.length_append,hw];rfl,rfl⟩
 rintro σ zs H2 ⟨v,ws,rfl,rfl,hw,rfl⟩ lm nlm
 have s1:=Same.new (o:=.lst (ws.map V.int)) nlm
 have g1:(upd H2 lm (.lst (ws.map V.int))) lm=some (.lst (ws.map V.int)):=upd_same
 generalize upd H2 lm (.lst (ws.map V.int))=H1 at s1 g1
 walk_at "rs"
 refine⟨a,_,rfl,s1.seq hS,fun p np=>?_⟩
 have z9r:∀(xs:List Int) (lo hi:Option Int),∃ys:List Int,zD9 (xs.map V.int) lo hi=ys.map V.int/\ys.length<=xs.length:=fun xs lo hi=>by
  refine⟨(xs.drop (HT.sIx (xs.map V.int).length 0 lo)).take (HT.sIx (xs.map V.int).length (xs.map V.int).length hi-HT.sIx (xs.map V.int).length 0 lo),?_,?_⟩
  .unfold zD9
   rw[List.map_take,List.map_drop]
  .rw[List.length_take,List.length_drop]
   omega
 obtain⟨ys,ey,ly⟩:=z9r ns (some 3) (some 60)
 rw[ey]
 have s2:=Same.new (o:=.lst (ys.map V.int)) np
 have g2:(upd H1 p (.lst (ys.map V.int))) p=some (.lst (ys.map V.int)):=upd_same
 have g12:=s2 _ _ g1
 generalize upd H1 p (.lst (ys.map V.int))=H3 at s2 g2 g12
 walk_at "rs"
 refine⟨p,lm,_,_,rfl,rfl,g2,g12,by rw[List.length_map,List.length_map];exact Nat.le_of_lt (z0H (by omega)),fun r nr=>?_⟩
 rw[<-List.map_append]
 walk_at "rs"
 refine⟨r,_,rfl,SqL.of upd_same,fun l nl=>?_⟩
 obtain⟨cs,ec,lc⟩:=z9r (ys++ws) none (some 57)
 rw[ec]
 exact q l cs _ (((s1.trans s2).trans (Same.new nr)).trans (Same.new nl)) (((s1.trans s2).trans (Same.new nr)).free nl) upd_same
theorem Jm:FnScope ["_law_script","_law_high","_law_signs_here","_law_odd","_law_make","_law_font","_law_states","_law_cell"] ["_law_script"] (z03 z3l):=⟨rfl,rfl,rfl,by decide+kernel,rfl,by decide+kernel,by decide+kernel⟩
theorem zDz {f:Addr} {fd:FuncData} (D:Df K mg "law" z3l ["_law_script"] f fd)
 {J0 J3:Addr} (Zo:Co K mg J0 J3)
 {J6 J7 J4 J5:Addr} (Z:Cl K mg J6 J7 J4 J5)
 (WF:Oc P w K mg base (CX2 P w) "Font" J3 ["self","pairs","gap"] [] 8 (z7F J3))
 (J8:Ow P w K mg base "_law_draw" ["_law_script","_law_k","_law_prime","_law_many"] 1 (z2z K))
 (Ja:Ow P w K mg base "_law_sign" ["_law_number"] 1 zAB)
 (WG:Ow P w K mg base "_law_signs" ["_law_script","_law_k","_law_many","_law_high"] 4 (zAC K))
 (WH:Ow P w K mg base "_law_pairs" ["_law_signs_here"] 2 zAD)
 (JM:Ow P w K mg base "_law_stands" ["_law_state","_law_make"] 8 (z3b J0 J3))
 (WP:Ow P w K mg base "_law_deed" ["_law_cell","_law_state","_law_make"] 9 (z8I J0 J3))
 (Js:Ow P w K mg base "_law_begun" ["_law_script","_law_k","_law_make","_law_font","_law_many"] 7 (zAl K J0 J3))
 (Jr:Ow P w K mg base "_law_not_begun" ["_law_script","_law_make","_law_font"] 7 (z51 J3))
 (WI:Ow P w K mg base "_law_cells" ["_law_script"] 2 (z6W K)) (B:Blt mg):
 FnOk P w K mg base CX0 10 f fd ["_law_script"] (zB9 K):=by
 refine D.F.ok Jm (fun vs H Q E h=>?_) (fun cdv A outer s H vs Q E hr h=>?_)
 .obtain⟨a,ns,rfl,_⟩:=h
  rfl
 obtain⟨a,ns,rfl,hS,hlen,q⟩:=h
 refine⟨_,(z04 (z0B (i:=1) Jm.nd rfl (Or.inl rfl) (z08 z0P z01 (z0G J8 hr rfl (z00 (pv 0) (z00 z01 (z00 z01 (z00 z01 z02)))))))
  (z04 (z0B (i:=2) Jm.nd rfl (Or.inl rfl) (z0G WG hr rfl (z00 (pv 0) (z00 z01 (z00 (z08 z0P z01 (z0G J8 hr rfl (z00 (pv 0) (z00 z01 (z00 z01 (z00 z01 z02)))))) (z00 (pv 1) z02))))))
  (z04 (z0B (i:=3) Jm.nd rfl (Or.inl rfl) (z0G Ja hr rfl (z00 (z08 z0P (z0G J8 hr rfl (z00 (pv 0) (z00 z01 (z00 z01 (z00 z01 z02))))) (z08 z0s z01 (z07 z0F rfl B.f_len boot_len (z00 (pv 2) z02)))) z02)))
  (z04 (z0B (i:=4) Jm.nd rfl (Or.inr rfl) (z0t (z00 (pv 2) (z00 (pv 1) (z00 (z0G J8 hr rfl (z00 (pv 0) (z00 z01 (z00 z01 (z00 z01 z02))))) (z00 (z0G J8 hr rfl (z00 (pv 0) (z00 z01 (z00 z01 (z00 z01 z02))))) (z00 (pv 3) z02)))))))
  (z04 (z0B (i:=5) Jm.nd rfl (Or.inl rfl) (zDl WF hr z4s rfl (z00 (z0G WH hr rfl (z00 (pv 2) z02)) (z00 (z0C ix_tup (pv 4) z01 (fun _ _=>rfl)) z02))))
  (z04 (z0B (i:=6) Jm.nd rfl (Or.inl rfl) (z1o (z00 (z0G Js hr rfl (z00 (pv 0) (z00 z01 (z00 (pv 4) (z00 (pv 5) (z00 (z0G J8 hr rfl (z00 (pv 0) (z00 z01 (z00 z01 (z00 z01 z02))))) z02)))))) z02)))
  (z04 (z0e (z3i PySem.F.plainAttrs_list PySem.F.slot_list_append PySem.F.type_list_append z0p (pv 6) (z00 (z0G Js hr rfl (z00 (pv 0) (z00 z01 (z00 (pv 4) (z00 (pv 5) (z00 (z08 z0P z01 (z0G J8 hr rfl (z00 (pv 0) (z00 z01 (z00 z01 (z00 z01 z02)))))) z02)))))) z02)))
  (z04 (z0R (PW.pt (z2D (z0a (z0W (z07 (z2L rfl) rfl B.f_all boot_all (z00 (z1L (locs:=["_law_state"]) (ix:=[4]) rfl (BlkSc.look (dsc:=z03 z3l) (N:=["_law_script","_law_high","_law_signs_here","_law_odd","_law_make","_law_font","_law_states","_law_cell"]) rfl rfl (by decide+kernel)) (z1q (pv 6)) (fun _ _ _ _ _ _=>(z0K (i:=0) (by decide+kernel:(["_law_state","_law_make"]:List Str).Nodup) rfl (Or.inl rfl))) (fun _ _ _ _ _ _=>z0h) (fun _ _ _ _ _ _=>(z0G JM hr rfl (z00 (pv 0) (z00 (pv 1) z02))))) z02)))) (z1c (z0a (z0W (z0G Jr hr rfl (z00 (pv 0) (z00 (pv 4) (z00 (pv 5) z02))))))))) (z05 (z0I z2A)) z0L)
  (z04 (z1S PassesOwn.never rfl (z1q (z0G WI hr rfl (z00 (pv 0) z02))) (z0K (i:=7) Jm.nd rfl (Or.inl rfl)) (z05 (z0R (z0a (z0W (z0G WP hr rfl (z00 (z08 z0f (pv 7) z01) (z00 (z0C ix_list (pv 6) (z08 z0g (pv 7) z01) (fun _ _=>rfl)) (z00 (pv 4) z02)))))) (z05 (z0I z2A)) z0L)))
  (z05 (z0I (z07 (z2L rfl) rfl B.f_all boot_all (z00 (z1L (locs:=["_law_state"]) (ix:=[4]) rfl (BlkSc.look (dsc:=z03 z3l) (N:=["_law_script","_law_high","_law_signs_here","_law_odd","_law_make","_law_font","_law_states","_law_cell"]) rfl rfl (by decide+kernel)) (z1q (pv 6)) (fun _ _ _ _ _ _=>(z0K (i:=0) (by decide+kernel:(["_law_state","_law_make"]:List Str).Nodup) rfl (Or.inl rfl))) (fun _ _ _ _ _ _=>z0h) (fun _ _ _ _ _ _=>(z0G JM hr rfl (z00 (pv 0) (z00 (pv 1) z02))))) z02))))))))))))),?_⟩
 refine L2.hold fun _ hB'=>?_
 walk_at "rs"
 refine⟨a,ns,1,10037,3,rfl,hS,by decide,by decide,by decide,by decide,?_⟩
 have h0:=z1J (ns:=ns) (k:=1) (p:=10037) (m:=3) (by decide)
 generalize z1t ns 1 10037 3=zh at h0
 walk_at "rs"
 refine⟨a,ns,2,10007,6,rfl,hS,by decide,by decide,by decide,by decide,?_⟩
 have m0:=z1J (ns:=ns) (k:=2) (p:=10007) (m:=6) (by decide)
 generalize z1t ns 2 10007 6=zm at m0
 walk_at "rs"
 refine⟨a,ns,0,_,_,rfl,hS,by decide,by decide,by omega,by omega,by omega,by omega,fun l ts Ss H1 s1 nl SA hSl hc=>?_⟩
 have ehg:(1+zh)=(((1+zh).toNat:Nat):Int):=by omega
 have hg1:1<=(1+zh).toNat:=by omega
 have hg2:(1+zh).toNat<=64:=by omega
 walk_at "rs"
 refine⟨a,ns,0,10039,94,rfl,s1.seq hS,by decide,by decide,by decide,by decide,?_⟩
 walk_at "rs"
 refine⟨l,_,rfl,.inl (SqL.of SA.lst),?_⟩
 rw[List.length_map,SA.len]
 walk_at "rs"
 refine⟨a,ns,4,10061,9,rfl,s1.seq hS,by decide,by decide,by decide,by decide,?_⟩
 have g0:=z1J (ns:=ns) (k:=4) (p:=10061) (m:=9) (by decide)
 generalize z1t ns 4 10061 9=gap at g0
 walk_at "rs"
 refine⟨a,ns,6,10067,9,rfl,s1.seq hS,by decide,by decide,by decide,by decide,?_⟩
 have l0:=z1J (ns:=ns) (k:=6) (p:=10067) (m:=9) (by decide)
 generalize z1t ns 6 10067 9=lead at l0
 have hSl1:1<=Ss.length:=by omega
 have hSl2:Ss.length<=60:=by omega
 generalize (1+zh).toNat=hg at SA hg1 hg2 ehg
 have FO:FontOk hg Ss:=zBb SA hSl1 hSl2 hc
 have hcb:=beyond hc (Nat.le_refl _) (by omega)
 walk_at "rs"
 intro mk nmk
 have s2:=Same.new (o:=.tup [.ref l,.int (hg:Int),.int gap,.int lead,.str (sgn (z1t ns 0 10039 94+37*(Ss.length:Int)))]) nmk
 have gm:(upd H1 mk (.tup [.ref l,.int (hg:Int),.int gap,.int lead,.str (sgn (z1t ns 0 10039 94+37*(Ss.length:Int)))])) mk=some (.tup [.ref l,.int (hg:Int),.int gap,.int lead,.str (sgn (z1t ns 0 10039 94+37*(Ss.length:Int)))]):=upd_same
 dsimp only
 rw[ehg]
 generalize upd H1 mk (.tup [.ref l,.int (hg:Int),.int gap,.int lead,.str (sgn (z1t ns 0 10039 94+37*(Ss.length:Int)))])=H2 at s2 gm
 have t2:=s1.trans s2
 walk_at "rs"
 refine⟨l,ts,Ss,_,rfl,SA.mono s2,hSl2,fun m1 us1 H3 s3 nm1 PA1=>?_⟩
 walk_at "rs"
 refine⟨_,_,2,_,rfl,rfl,SqT.of (s3 _ _ gm),rfl,?_⟩
 walk_at "rs"
 intro f1 dx1 nx1 ndx1 nxd1
 have nx1':(upd H3 dx1 (.own f1)) f1=none:=(z06 (Ne.symm nxd1)).trans nx1
 have sF:Same H3 (upd (upd H3 dx1 (.own f1)) f1 (.ins J3 dx1 [])):=(Same.new ndx1).trans (Same.new nx1')
 refine⟨f1,dx1,m1,us1,Ss,_,gap,rfl,upd_same,PA1.mono sF,FO,g0.1,by omega,fun H4 sb FA4=>⟨rfl,?_⟩⟩
 have s4:Same H3 H4:=sb.fresh nx1 ndx1
 have u4:=s3.trans s4
 have t4:=t2.trans u4
 obtain⟨M,eM⟩:∃M:MkD,M=⟨l,f1,ts,Ss,hg,gap,lead,z5L (z1t ns 0 10039 94+37*(Ss.length:Int))⟩:=⟨_,rfl⟩
 have MA:MkAt J3 H4 mk M:=by
  subst eM
  exact⟨u4 _ _ gm,SA.mono (s2.trans u4),FA4,FO,hg1,hg2,g0.1,by show gap<=8;omega,l0.1,by show lead<=100;omega,hcb,zBe _⟩
 have ef:f1=M.f:=by rw[eM]
 rw[ef]
 clear eM
 walk_at "rs"
 refine⟨a,ns,8,10079,6,rfl,t4.seq hS,by decide,by decide,by decide,by decide,?_⟩
 have d0:=z1J (ns:=ns) (k:=8) (p:=10079) (m:=6) (by decide)
 generalize z1t ns 8 10079 6=m0' at d0
 walk_at "rs"
 refine⟨a,ns,100,mk,M,m0',[],rfl,t4.seq hS,by decide,by decide,MA,d0.1,by omega,(fun p h=>nomatch h),fun b0 wd0 hh0 zs0 H5 s5 nb0 SW0 zn0=>?_⟩
 walk_at "rs"
 intro sl nsl
 have s6:=Same.new (o:=.lst [.ref b0.st]) nsl
 have g6:(upd H5 sl (.lst [.ref b0.st])) sl=some (.lst [.ref b0.st]):=upd_same
 generalize upd H5 sl (.lst [.ref b0.st])=H6 at s6 g6
 have u6:=s5.trans s6
 have t6:=t4.trans u6
 walk_at "rs"
 refine⟨.inl ⟨rfl,_,SqL.of g6⟩,?_⟩
 walk_at "rs"
 refine⟨a,ns,10,10079,6,rfl,t6.seq hS,by decide,by decide,by decide,by decide,?_⟩
 have d1:=z1J (ns:=ns) (k:=10) (p:=10079) (m:=6) (by decide)
 generalize z1t ns 10 10079 6=m1' at d1
 walk_at "rs"
 have al6:∀p∈sl::b0.ads,∃o,H6 p=some o:=fun p hp=>by
  rcases List.mem_cons.mp hp with rfl|hp
  .exact⟨_,g6⟩
  .obtain⟨o,ho⟩:=SW0.ex p hp
   exact⟨o,s6 _ _ ho⟩
 refine⟨a,ns,200,mk,M,_,sl::b0.ads,rfl,t6.seq hS,by decide,by decide,MA.mono u6,by omega,by omega,al6,fun b1 wd1 hh1 zs1 H7 s7 nb1 SW1 zn1=>?_⟩
 walk_at "rs"
 refine⟨sl,_,_,rfl,rfl,s7 _ _ g6,z0H (by show 1<=1000;decide),?_⟩
 have dn:∀{p q:Addr} {G:Hp} {o:HO},G p=some o->G q=none->p≠q:=fun{p q G o} h1 h2 e=>by rw[<-e,h1]at h2;cases h2
 obtain⟨D,eD⟩:∃D:WdD,D=⟨b0,b1,wd0,hh0,wd1,hh1,sl⟩:=⟨_,rfl⟩
 have e8:SameX [sl] H7 (upd H7 sl (.lst [.ref b0.st,.ref b1.st])):=(SameX.of (Same.refl _)).put List.mem_cons_self
 have g8:(upd H7 sl (.lst [.ref b0.st,.ref b1.st])) sl=some (.lst [.ref b0.st,.ref b1.st]):=upd_same
 rw[show([V.ref b0.st]++[V.ref b1.st]:List V)=[.ref b0.st,.ref b1.st]from rfl]
 generalize upd H7 sl (.lst [.ref b0.st,.ref b1.st])=H8 at e8 g8
 have WL:Wld J0 H4 H8 M D:=by
  subst eD
  have n0:sl∉b0.ads:=fun h=>by
   obtain⟨o,ho⟩:=SW0.ex sl h
   exact dn ho nsl rfl
  have n1:sl∉b1.ads:=fun h=>dn g6 (nb1 sl h) rfl
  have hx:∀p∈[sl],∃o,H8 p=some o:=fun p hp=>by rw[List.mem_singleton.mp hp];exact⟨_,g8⟩
  have hS:∀p∈[sl],p∈(sl::b0.ads)++b1.ads:=fun p hp=>by rw[List.mem_singleton.mp hp];simp
  have fr:∀p∈(sl::b0.ads)++b1.ads,H4 p=none:=fun p hp=>by
   rcases List.mem_append.mp hp with h|h
   .rcases List.mem_cons.mp h with rfl|h
    .exact s5.free nsl
    .exact nb0 p h
   .exact u6.free (nb1 p h)
  have SW0':StW J0 ((sl::b0.ads)++b1.ads) H7 M b0 wd0 hh0 0 0 zs0:=by
   refine SW0.more (fun p hp=>?_) (fun p hp=>?_) (s6.trans s7) SW1.al
   .exact List.mem_append_left _ (List.mem_cons_of_mem _ hp)
   .rcases List.mem_append.mp hp with h|h
    .rcases List.mem_cons.mp h with rfl|h
     .exact .inr nsl
     .exact .inl h
    .exact .inr (s6.free (nb1 p h))
  refine⟨⟨0,0,zs0,SW0'.keep e8 hx hS fun p hp h=>n0 (by rw[<-List.mem_singleton.mp h];exact hp)⟩,⟨0,0,zs1,SW1.keep e8 hx hS fun p hp h=>n1 (by rw[<-List.mem_singleton.mp h];exact hp)⟩,g8,zD7 (SameX.old (u6.trans s7) e8 fun p hp=>by rw[List.mem_singleton.mp hp];exact s5.free nsl) fr,n0,n1,fun p hp hq=>?_⟩
  obtain⟨o,ho⟩:=SW0.ex p hq
  exact dn (s6 _ _ ho) (nb1 p hp) rfl
 have esl:sl=D.sl:=by rw[eD]
 have eb0:b0=D.b0:=by rw[eD]
 have eb1:b1=D.b1:=by rw[eD]
 rw[eb0,eb1,esl]at g8
 rw[esl]
 clear eD
 have stAll:∀{Hx:Hp} {i:Nat} {v:V},Wld J0 H4 Hx M D->([.ref D.b0.st,.ref D.b1.st]:List V)[i]?=some v->∃b wd hh x y zs,v=.ref b.st/\StW J0 D.F Hx M b wd hh x y zs:=fun{Hx i v} W e=>by
  obtain⟨x0,y0,zs0,S0⟩:=W.s0
  obtain⟨x1,y1,zs1,S1⟩:=W.s1
  match i,e with
  |0,e=>cases e;exact⟨D.b0,_,_,_,_,_,rfl,S0⟩
  |1,e=>cases e;exact⟨D.b1,_,_,_,_,_,rfl,S1⟩
 walk_at "rs"
 refine⟨⟨_,SqL.of WL.sl⟩,?_⟩
 refine z0i (n:=2) (fun i σ us H9=>∃v,σ=[v,some (.ref mk)]/\us=(List.replicate i true).map V.bl/\Same H8 H9) ⟨none,rfl,rfl,Same.refl _⟩ (by decide) ?_ ?_ ?_ ?_ ?_
 .rintro i σ us H9 ⟨v,_,rfl,_⟩
  rw[List.length_map,List.length_replicate]
 .rintro σ us H9 ⟨v,_,_,s9⟩
  exact⟨_,SqL.of (s9 _ _ WL.sl),by show 2<=2;decide⟩
 .rintro i σ us H9 hi ⟨v,_,_,s9⟩
  exact⟨_,_,SqL.of (s9 _ _ WL.sl),List.getElem?_eq_getElem (show i<([.ref D.b0.st,.ref D.b1.st]:List V).length from hi)⟩
 .rintro i σ us H9 z H' Z hi ⟨v,rfl,rfl,s9⟩ ⟨rfl,hx⟩ hZ
  obtain⟨b,wd,hh,x,y,zs,rfl,SB⟩:=stAll (WL.mono s9) (hx _ (SqL.of (s9 _ _ WL.sl)))
  walk_at "rs"
  refine⟨D.F,mk,M,b,wd,hh,x,y,zs,rfl,SB,MA.mono (WL.mono s9).sm,fun H10 s10=>?_⟩
  refine hZ _ _ _ ⟨_,rfl,?_,s9.trans s10⟩
  rw[List.replicate_succ',List.map_append]
  rfl
 rintro σ us H9 ⟨v,rfl,rfl,s9⟩ lb nlb
 refine⟨lb,List.replicate 2 true,rfl,SqL.of upd_same,?_⟩
 have s10:=s9.trans (Same.new (o:=.lst ((List.replicate 2 true).map V.bl)) nlb)
 generalize upd H9 lb (.lst ((List.replicate 2 true).map V.bl))=H10 at s10
 have W10:=WL.mono s10
 have M10:=(MA.mono W10.sm).mono z1n
 walk_at "rs"
 refine⟨.ref a,mk,M,rfl,M10,fun H11 s11=>?_⟩
 have W11:=W10.mono s11
 have t11:=t4.trans (W11.sm.trans z1n)
 walk_at "rs"
 refine⟨a,ns,rfl,t11.seq hS,hlen,fun lc cs H12 s12 nlc gc=>?_⟩
 have nc0:lc∉D.b0.ads:=fun h=>by
  obtain⟨_,_,_,S0⟩:=W11.s0
  obtain⟨o,ho⟩:=S0.ex lc h
  exact dn ho nlc rfl
 have nc1:lc∉D.b1.ads:=fun h=>by
  obtain⟨_,_,_,S1⟩:=W11.s1
  obtain⟨o,ho⟩:=S1.ex lc h
  exact dn ho nlc rfl
 walk_at "rs"
 refine⟨⟨_,SqL.of gc⟩,?_⟩
 refine z3m (K:=K) (a:=lc) (xs:=cs.map V.int) (fun i σ H13=>Wld J0 H4 H13 M D/\H13 lc=some (.lst (cs.map V.int))/\∃v7,σ=[some (.ref a),some (.int (hg:Int)),some (.ref l),some (.str (sgn (z1t ns 0 10039 94+37*(Ss.length:Int)))),some (.ref mk),some (.ref M.f),some (.ref D.sl),v7]) ⟨W11.mono s12,gc,none,rfl⟩ (fun i σ H13 _ h=>SqL.of h.2.1) ?_ ?_
 .rintro i v σ H13 hi ⟨W13,gc13,v7,rfl⟩
  obtain⟨c,_,rfl⟩:=List.mem_map.mp (List.mem_of_getElem? hi)
  have h2:c%2=0\/c%2=1:=by omega
  rcases h2 with h2|h2
  .obtain⟨x0,y0,zs0,S0⟩:=W13.s0
   walk_at "rs"
   refine⟨_,_,_,_,rfl,rfl,SqL.of W13.sl,(by rw[h2];rfl),?_⟩
   walk_at "rs"
   refine⟨D.F,mk,M,D.b0,_,_,_,_,_,_,rfl,S0,MA.mono W13.sm,fun x' y' zs' H' e' S'=>?_⟩
   exact⟨_,rfl,z1f rfl ⟨W13.d0 e' S',e' _ _ nc0 gc13,_,rfl⟩⟩
  .obtain⟨x1,y1,zs1,S1⟩:=W13.s1
   walk_at "rs"
   refine⟨_,_,_,_,rfl,rfl,SqL.of W13.sl,(by rw[h2];rfl),?_⟩
   walk_at "rs"
   refine⟨D.F,mk,M,D.b1,_,_,_,_,_,_,rfl,S1,MA.mono W13.sm,fun x' y' zs' H' e' S'=>?_⟩
   exact⟨_,rfl,z1f rfl ⟨W13.d1 e' S',e' _ _ nc1 gc13,_,rfl⟩⟩
 rintro σ H13 ⟨W13,gc13,v7,rfl⟩
 walk_at "rs"
 refine⟨⟨_,SqL.of W13.sl⟩,?_⟩
 refine z0i (n:=2) (fun i σ us H14=>∃v,σ=[v,some (.ref mk)]/\us=(List.replicate i true).map V.bl/\Same H13 H14) ⟨none,rfl,rfl,Same.refl _⟩ (by decide) ?_ ?_ ?_ ?_ ?_
 .rintro i σ us H9 ⟨v,_,rfl,_⟩
  rw[List.length_map,List.length_replicate]
 .rintro σ us H9 ⟨v,_,_,s9⟩
  exact⟨_,SqL.of (s9 _ _ W13.sl),by show 2<=2;decide⟩
 .rintro i σ us H9 hi ⟨v,_,_,s9⟩
  exact⟨_,_,SqL.of (s9 _ _ W13.sl),List.getElem?_eq_getElem (show i<([.ref D.b0.st,.ref D.b1.st]:List V).length from hi)⟩
 .rintro i σ us H9 z H' Z hi ⟨v,rfl,rfl,s9⟩ ⟨rfl,hx⟩ hZ
  obtain⟨b,wd,hh,x,y,zs,rfl,SB⟩:=stAll (W13.mono s9) (hx _ (SqL.of (s9 _ _ W13.sl)))
  walk_at "rs"
  refine⟨D.F,mk,M,b,wd,hh,x,y,zs,rfl,SB,MA.mono (W13.mono s9).sm,fun H10 s10=>?_⟩
  refine hZ _ _ _ ⟨_,rfl,?_,s9.trans s10⟩
  rw[List.replicate_succ',List.map_append]
  rfl
 rintro σ us H14 ⟨v,rfl,rfl,s14⟩ lb nlb
 refine⟨lb,List.replicate 2 true,rfl,SqL.of upd_same,?_⟩
 exact q _
end
theorem bn0 {us:List Value} {n:Nat} (hl:us.length=n+1):∃a t,us=a::t/\t.length=n:=by
 cases us with
 |nil=>cases hl
 |cons a t=>exact⟨a,t,rfl,Nat.succ.inj hl⟩
theorem bn1 {us:List Value} (hl:us.length=1):∃a,us=[a]:=by
 obtain⟨a,t,rfl,h⟩:=bn0 hl
 obtain rfl:=List.eq_nil_of_length_eq_zero h
 exact⟨a,rfl⟩
theorem bn2 {us:List Value} (hl:us.length=2):∃a0 a1,us=[a0,a1]:=by
 obtain⟨a0,t,rfl,h⟩:=bn0 hl
 obtain⟨a1,rfl⟩:=bn1 h
 exact⟨a0,a1,rfl⟩
theorem bn3 {us:List Value} (hl:us.length=3):∃a0 a1 a2,us=[a0,a1,a2]:=by
 obtain⟨a0,t,rfl,h⟩:=bn0 hl
 obtain⟨a1,a2,rfl⟩:=bn2 h
 exact⟨a0,a1,a2,rfl⟩
theorem bn4 {us:List Value} (hl:us.length=4):∃a0 a1 a2 a3,us=[a0,a1,a2,a3]:=by
 obtain⟨a0,t,rfl,h⟩:=bn0 hl
 obtain⟨a1,a2,a3,rfl⟩:=bn3 h
 exact⟨a0,a1,a2,a3,rfl⟩
theorem bn5 {us:List Value} (hl:us.length=5):∃a0 a1 a2 a3 a4,us=[a0,a1,a2,a3,a4]:=by
 obtain⟨a0,t,rfl,h⟩:=bn0 hl
 obtain⟨a1,a2,a3,a4,rfl⟩:=bn4 h
 exact⟨a0,a1,a2,a3,a4,rfl⟩
theorem bn6 {us:List Value} (hl:us.length=6):∃a0 a1 a2 a3 a4 a5,us=[a0,a1,a2,a3,a4,a5]:=by
 obtain⟨a0,t,rfl,h⟩:=bn0 hl
 obtain⟨a1,a2,a3,a4,a5,rfl⟩:=bn5 h
 exact⟨a0,a1,a2,a3,a4,a5,rfl⟩
theorem bn7 {us:List Value} (hl:us.length=7):∃a0 a1 a2 a3 a4 a5 a6,us=[a0,a1,a2,a3,a4,a5,a6]:=by
 obtain⟨a0,t,rfl,h⟩:=bn0 hl
 obtain⟨a1,a2,a3,a4,a5,a6,rfl⟩:=bn6 h
 exact⟨a0,a1,a2,a3,a4,a5,a6,rfl⟩
theorem all_mk {l:PySem.W.OpenLaw} {w:World} {K:PySem.W.Frag} {h:Heap} {mg:Str->Option Value} {fa f1 f2 f3 f4 f5 f6 f7 f8 f9 f10 f11 f12 f13 f14 f15 f16 f17 f18 f19 f20 f21 f22 f23 f24 f25 f26 f27 f28 f29 f30 f31 f32 f33 f34 f35 f36 f37 f38 f39 f40 f41 f42 f43 f44 f45 f46 f47 f48 f49 f50 f51 f52 f53 f54 f55 f56 f57 f58:Addr} (X:K.In h) (G:h.Ns mainGlobals mg) (hfa:mg "law"=some (.ref fa))
 {J0 J3:Addr}
 {od1 an1:Option Addr} {sl1:Array (Option Value)} {oc1 kV1 dc1 pm1 cd1 ct1:Value}
 {od2 an2:Option Addr} {sl2:Array (Option Value)} {oc2 kV2 dc2 pm2 cd2 ct2:Value}
 {od3 an3:Option Addr} {sl3:Array (Option Value)} {oc3 kV3 dc3 pm3 cd3 ct3:Value}
 {od4 an4:Option Addr} {sl4:Array (Option Value)} {oc4 kV4 dc4 pm4 cd4 ct4:Value}
 {od5 an5:Option Addr} {sl5:Array (Option Value)} {oc5 kV5 dc5 pm5 cd5 ct5:Value}
 {od6 an6:Option Addr} {sl6:Array (Option Value)} {oc6 kV6 dc6 pm6 cd6 ct6:Value}
 {od7 an7:Option Addr} {sl7:Array (Option Value)} {oc7 kV7 dc7 pm7 cd7 ct7:Value}
 {od8 an8:Option Addr} {sl8:Array (Option Value)} {oc8 kV8 dc8 pm8 cd8 ct8:Value}
 {od9 an9:Option Addr} {sl9:Array (Option Value)} {oc9 kV9 dc9 pm9 cd9 ct9:Value}
 {od10 an10 ot10:Option Addr} {sl10 st10:Array (Option Value)} {oc10 kV10 dc10 pm10 cd10 ct10 ov10:Value} {T10:Addr} {nt10:Nat}
 {od11 an11:Option Addr} {sl11:Array (Option Value)} {oc11 kV11 dc11 pm11 cd11 ct11:Value}
 {od12 an12:Option Addr} {sl12:Array (Option Value)} {oc12 kV12 dc12 pm12 cd12 ct12:Value}
 {od13 an13:Option Addr} {sl13:Array (Option Value)} {oc13 kV13 dc13 pm13 cd13 ct13:Value}
 {od14 an14:Option Addr} {sl14:Array (Option Value)} {oc14 kV14 dc14 pm14 cd14 ct14:Value}
 {od15 an15 ot15:Option Addr} {sl15 st15:Array (Option Value)} {oc15 kV15 dc15 pm15 cd15 ct15 ov15:Value} {T15:Addr} {nt15:Nat} {ka15 kb15:Tok}
 {od16 an16:Option Addr} {sl16:Array (Option Value)} {oc16 kV16 dc16 pm16 cd16 ct16:Value}
 {od17 an17:Option Addr} {sl17:Array (Option Value)} {oc17 kV17 dc17 pm17 cd17 ct17:Value}
 {od18 an18:Option Addr} {sl18:Array (Option Value)} {oc18 kV18 dc18 pm18 cd18 ct18:Value}
 {od19 an19:Option Addr} {sl19:Array (Option Value)} {oc19 kV19 dc19 pm19 cd19 ct19:Value}
 {od20 an20:Option Addr} {sl20:Array (Option Value)} {oc20 kV20 dc20 pm20 cd20 ct20:Value}
 {od21 an21:Option Addr} {sl21:Array (Option Value)} {oc21 kV21 dc21 pm21 cd21 ct21:Value}
 {od22 an22:Option Addr} {sl22:Array (Option Value)} {oc22 kV22 dc22 pm22 cd22 ct22:Value}
 {od23 an23:Option Addr} {sl23:Array (Option Value)} {oc23 kV23 dc23 pm23 cd23 ct23:Value}
 {od24 an24:Option Addr} {sl24:Array (Option Value)} {oc24 kV24 dc24 pm24 cd24 ct24:Value}
 {od25 an25:Option Addr} {sl25:Array (Option Value)} {oc25 kV25 dc25 pm25 cd25 ct25:Value}
 {od26 an26:Option Addr} {sl26:Array (Option Value)} {oc26 kV26 dc26 pm26 cd26 ct26:Value}
 {od27 an27:Option Addr} {sl27:Array (Option Value)} {oc27 kV27 dc27 pm27 cd27 ct27:Value}
 {od28 an28:Option Addr} {sl28:Array (Option Value)} {oc28 kV28 dc28 pm28 cd28 ct28:Value}
 {od29 an29:Option Addr} {sl29:Array (Option Value)} {oc29 kV29 dc29 pm29 cd29 ct29:Value}
 {od30 an30:Option Addr} {sl30:Array (Option Value)} {oc30 kV30 dc30 pm30 cd30 ct30:Value}
 {od31 an31 ot31:Option Addr} {sl31 st31:Array (Option Value)} {oc31 kV31 dc31 pm31 cd31 ct31 ov31:Value} {T31:Addr} {nt31:Nat}
 {od32 an32:Option Addr} {sl32:Array (Option Value)} {oc32 kV32 dc32 pm32 cd32 ct32:Value}
 {od33 an33:Option Addr} {sl33:Array (Option Value)} {oc33 kV33 dc33 pm33 cd33 ct33:Value}
 {od34 an34:Option Addr} {sl34:Array (Option Value)} {oc34 kV34 dc34 pm34 cd34 ct34:Value}
 {od35 an35:Option Addr} {sl35:Array (Option Value)} {oc35 kV35 dc35 pm35 cd35 ct35:Value}
 {od36 an36:Option Addr} {sl36:Array (Option Value)} {oc36 kV36 dc36 pm36 cd36 ct36:Value}
 {od37 an37:Option Addr} {sl37:Array (Option Value)} {oc37 kV37 dc37 pm37 cd37 ct37:Value}
 {od38 an38:Option Addr} {sl38:Array (Option Value)} {oc38 kV38 dc38 pm38 cd38 ct38:Value}
 {od39 an39:Option Addr} {sl39:Array (Option Value)} {oc39 kV39 dc39 pm39 cd39 ct39:Value}
 {od40 an40:Option Addr} {sl40:Array (Option Value)} {oc40 kV40 dc40 pm40 cd40 ct40:Value}
 {od41 an41:Option Addr} {sl41:Array (Option Value)} {oc41 kV41 dc41 pm41 cd41 ct41:Value}
 {od42 an42:Option Addr} {sl42:Array (Option Value)} {oc42 kV42 dc42 pm42 cd42 ct42:Value}
 {od43 an43:Option Addr} {sl43:Array (Option Value)} {oc43 kV43 dc43 pm43 cd43 ct43:Value}
 {od44 an44:Option Addr} {sl44:Array (Option Value)} {oc44 kV44 dc44 pm44 cd44 ct44:Value}
 {od45 an45:Option Addr} {sl45:Array (Option Value)} {oc45 kV45 dc45 pm45 cd45 ct45:Value}
 {od46 an46:Option Addr} {sl46:Array (Option Value)} {oc46 kV46 dc46 pm46 cd46 ct46:Value}
 {od47 an47:Option Addr} {sl47:Array (Option Value)} {oc47 kV47 dc47 pm47 cd47 ct47:Value}
 {od48 an48:Option Addr} {sl48:Array (Option Value)} {oc48 kV48 dc48 pm48 cd48 ct48:Value}
 {od49 an49:Option Addr} {sl49:Array (Option Value)} {oc49 kV49 dc49 pm49 cd49 ct49:Value}
 {od50 an50:Option Addr} {sl50:Array (Option Value)} {oc50 kV50 dc50 pm50 cd50 ct50:Value}
 {od51 an51:Option Addr} {sl51:Array (Option Value)} {oc51 kV51 dc51 pm51 cd51 ct51:Value}
 {od52 an52:Option Addr} {sl52:Array (Option Value)} {oc52 kV52 dc52 pm52 cd52 ct52:Value}
 {od53 an53:Option Addr} {sl53:Array (Option Value)} {oc53 kV53 dc53 pm53 cd53 ct53:Value}
 {od54 an54:Option Addr} {sl54:Array (Option Value)} {oc54 kV54 dc54 pm54 cd54 ct54:Value}
 {od55 an55:Option Addr} {sl55:Array (Option Value)} {oc55 kV55 dc55 pm55 cd55 ct55:Value}
 {od56 an56:Option Addr} {sl56:Array (Option Value)} {oc56 kV56 dc56 pm56 cd56 ct56:Value}
 {od57 an57:Option Addr} {sl57:Array (Option Value)} {oc57 kV57 dc57 pm57 cd57 ct57:Value}
 {od58 an58:Option Addr} {sl58:Array (Option Value)} {oc58 kV58 dc58 pm58 cd58 ct58:Value}
 {J6 J7 J4 J5:Addr}
 {ia_NoSign:Addr} {iod_NoSign ian_NoSign:Option Addr} {isl_NoSign:Array (Option Value)} {ioc_NoSign ikV_NoSign idc_NoSign ipm_NoSign icd_NoSign ict_NoSign:Value}
 (cm_Window:PySem.W.nsIn K mainGlobals "Window"=some (some (.ref J0))) (pg_Window:PySem.W.plainGet K J0 Str.empty=true) (hd_Window:PySem.W.hasDictIn K J0=true) (po_Window:PySem.W.plainOver K J0=true) (sa_Window:PySem.W.findIn K (.ref J0) "__setattr__"=some (some (.builtin "object.__setattr__"))) (mk_Window:PySem.W.makesIn K J0=true) (kc_Window:PySem.W.keepIn K (.ref J0)=true)
 (na_Window_font:PySem.W.findIn K (.ref J0) "font"=some none)
 (na_Window_lines:PySem.W.findIn K (.ref J0) "lines"=some none)
 (na_Window_lead:PySem.W.findIn K (.ref J0) "lead"=some none)
 (na_Window_wide:PySem.W.findIn K (.ref J0) "wide"=some none)
 (na_Window_high:PySem.W.findIn K (.ref J0) "high"=some none)
 (na_Window_x:PySem.W.findIn K (.ref J0) "x"=some none)
 (na_Window_y:PySem.W.findIn K (.ref J0) "y"=some none)
 (cm_Font:PySem.W.nsIn K mainGlobals "Font"=some (some (.ref J3))) (pg_Font:PySem.W.plainGet K J3 Str.empty=true) (hd_Font:PySem.W.hasDictIn K J3=true) (po_Font:PySem.W.plainOver K J3=true) (sa_Font:PySem.W.findIn K (.ref J3) "__setattr__"=some (some (.builtin "object.__setattr__"))) (mk_Font:PySem.W.makesIn K J3=true) (kc_Font:PySem.W.keepIn K (.ref J3)=true)
 (na_Font_pics:PySem.W.findIn K (.ref J3) "pics"=some none)
 (na_Font_high:PySem.W.findIn K (.ref J3) "high"=some none)
 (na_Font_gap:PySem.W.findIn K (.ref J3) "gap"=some none)
 (a1:PySem.W.nsIn K mainGlobals "is_whole"=some (some (.ref f1))) (l1:K.lookup f1=some ⟨oc1,od1,.func (PySem.W.fnOf "is_whole" "is_whole" (z0E z20) (z0D z20) (z03 z20) .none kV1 dc1 pm1 an1 cd1 ct1),sl1⟩) (c1:PySem.W.codeIn K cd1 "is_whole"=true) (k1:PySem.W.keepIn K (.ref f1)=true)
 (a2:PySem.W.nsIn K mainGlobals "is_within"=some (some (.ref f2))) (l2:K.lookup f2=some ⟨oc2,od2,.func (PySem.W.fnOf "is_within" "is_within" (z0E z1i) (z0D z1i) (z03 z1i) .none kV2 dc2 pm2 an2 cd2 ct2),sl2⟩) (c2:PySem.W.codeIn K cd2 "is_within"=true) (k2:PySem.W.keepIn K (.ref f2)=true)
 (a3:PySem.W.nsIn K mainGlobals "is_side"=some (some (.ref f3))) (l3:K.lookup f3=some ⟨oc3,od3,.func (PySem.W.fnOf "is_side" "is_side" (z0E z2R) (z0D z2R) (z03 z2R) .none kV3 dc3 pm3 an3 cd3 ct3),sl3⟩) (c3:PySem.W.codeIn K cd3 "is_side"=true) (k3:PySem.W.keepIn K (.ref f3)=true)
 (a4:PySem.W.nsIn K mainGlobals "paint_room"=some (some (.ref f4))) (l4:K.lookup f4=some ⟨oc4,od4,.func (PySem.W.fnOf "paint_room" "paint_room" (z0E z1M) (z0D z1M) (z03 z1M) .none kV4 dc4 pm4 an4 cd4 ct4),sl4⟩) (c4:PySem.W.codeIn K cd4 "paint_room"=true) (k4:PySem.W.keepIn K (.ref f4)=true)
 (a5:PySem.W.nsIn K mainGlobals "is_bits_row"=some (some (.ref f5))) (l5:K.lookup f5=some ⟨oc5,od5,.func (PySem.W.fnOf "is_bits_row" "is_bits_row" (z0E z1N) (z0D z1N) (z03 z1N) .none kV5 dc5 pm5 an5 cd5 ct5),sl5⟩) (c5:PySem.W.codeIn K cd5 "is_bits_row"=true) (k5:PySem.W.keepIn K (.ref f5)=true)
 (a6:PySem.W.nsIn K mainGlobals "has_form"=some (some (.ref f6))) (l6:K.lookup f6=some ⟨oc6,od6,.func (PySem.W.fnOf "has_form" "has_form" (z0E z21) (z0D z21) (z03 z21) .none kV6 dc6 pm6 an6 cd6 ct6),sl6⟩) (c6:PySem.W.codeIn K cd6 "has_form"=true) (k6:PySem.W.keepIn K (.ref f6)=true)
 (a7:PySem.W.nsIn K mainGlobals "is_picture"=some (some (.ref f7))) (l7:K.lookup f7=some ⟨oc7,od7,.func (PySem.W.fnOf "is_picture" "is_picture" (z0E z0y) (z0D z0y) (z03 z0y) .none kV7 dc7 pm7 an7 cd7 ct7),sl7⟩) (c7:PySem.W.codeIn K cd7 "is_picture"=true) (k7:PySem.W.keepIn K (.ref f7)=true)
 (a8:PySem.W.nsIn K mainGlobals "paint_of"=some (some (.ref f8))) (l8:K.lookup f8=some ⟨oc8,od8,.func (PySem.W.fnOf "paint_of" "paint_of" (z0E z22) (z0D z22) (z03 z22) .none kV8 dc8 pm8 an8 cd8 ct8),sl8⟩) (c8:PySem.W.codeIn K cd8 "paint_of"=true) (k8:PySem.W.keepIn K (.ref f8)=true)
 (a9:PySem.W.nsIn K mainGlobals "mask_of"=some (some (.ref f9))) (l9:K.lookup f9=some ⟨oc9,od9,.func (PySem.W.fnOf "mask_of" "mask_of" (z0E z2S) (z0D z2S) (z03 z2S) .none kV9 dc9 pm9 an9 cd9 ct9),sl9⟩) (c9:PySem.W.codeIn K cd9 "mask_of"=true) (k9:PySem.W.keepIn K (.ref f9)=true)
 (a10:PySem.W.nsIn K mainGlobals "filled"=some (some (.ref f10))) (l10:K.lookup f10=some ⟨oc10,od10,.func (PySem.W.fnOf "filled" "filled" (z0E z2T) (z0D z2T) (z03 z2T) (.ref T10) kV10 dc10 pm10 an10 cd10 ct10),sl10⟩) (c10:PySem.W.codeIn K cd10 "filled"=true) (k10:PySem.W.keepIn K (.ref f10)=true) (t10:K.lookup T10=some ⟨ov10,ot10,.seq #[.none] nt10,st10⟩)
 (a11:PySem.W.nsIn K mainGlobals "bits_of_row"=some (some (.ref f11))) (l11:K.lookup f11=some ⟨oc11,od11,.func (PySem.W.fnOf "bits_of_row" "bits_of_row" (z0E z1O) (z0D z1O) (z03 z1O) .none kV11 dc11 pm11 an11 cd11 ct11),sl11⟩) (c11:PySem.W.codeIn K cd11 "bits_of_row"=true) (k11:PySem.W.keepIn K (.ref f11)=true)
 (a12:PySem.W.nsIn K mainGlobals "cut_bits"=some (some (.ref f12))) (l12:K.lookup f12=some ⟨oc12,od12,.func (PySem.W.fnOf "cut_bits" "cut_bits" (z0E z23) (z0D z23) (z03 z23) .none kV12 dc12 pm12 an12 cd12 ct12),sl12⟩) (c12:PySem.W.codeIn K cd12 "cut_bits"=true) (k12:PySem.W.keepIn K (.ref f12)=true)
 (a13:PySem.W.nsIn K mainGlobals "cut"=some (some (.ref f13))) (l13:K.lookup f13=some ⟨oc13,od13,.func (PySem.W.fnOf "cut" "cut" (z0E z5V) (z0D z5V) (z03 z5V) .none kV13 dc13 pm13 an13 cd13 ct13),sl13⟩) (c13:PySem.W.codeIn K cd13 "cut"=true) (k13:PySem.W.keepIn K (.ref f13)=true)
 (a14:PySem.W.nsIn K mainGlobals "laid_paint"=some (some (.ref f14))) (l14:K.lookup f14=some ⟨oc14,od14,.func (PySem.W.fnOf "laid_paint" "laid_paint" (z0E z1P) (z0D z1P) (z03 z1P) .none kV14 dc14 pm14 an14 cd14 ct14),sl14⟩) (c14:PySem.W.codeIn K cd14 "laid_paint"=true) (k14:PySem.W.keepIn K (.ref f14)=true)
 (a15:PySem.W.nsIn K mainGlobals "laid"=some (some (.ref f15))) (l15:K.lookup f15=some ⟨oc15,od15,.func (PySem.W.fnOf "laid" "laid" (z0E z3O) (z0D z3O) (z03 z3O) (.ref T15) kV15 dc15 pm15 an15 cd15 ct15),sl15⟩) (c15:PySem.W.codeIn K cd15 "laid"=true) (k15:PySem.W.keepIn K (.ref f15)=true) (t15:K.lookup T15=some ⟨ov15,ot15,.seq #[.int 0 ka15,.int 0 kb15] nt15,st15⟩)
 (a16:PySem.W.nsIn K mainGlobals "check_lines"=some (some (.ref f16))) (l16:K.lookup f16=some ⟨oc16,od16,.func (PySem.W.fnOf "check_lines" "check_lines" (z0E z0z) (z0D z0z) (z03 z0z) .none kV16 dc16 pm16 an16 cd16 ct16),sl16⟩) (c16:PySem.W.codeIn K cd16 "check_lines"=true) (k16:PySem.W.keepIn K (.ref f16)=true)
 (a17:PySem.W.nsIn K mainGlobals "top_of"=some (some (.ref f17))) (l17:K.lookup f17=some ⟨oc17,od17,.func (PySem.W.fnOf "top_of" "top_of" (z0E z34) (z0D z34) (z03 z34) .none kV17 dc17 pm17 an17 cd17 ct17),sl17⟩) (c17:PySem.W.codeIn K cd17 "top_of"=true) (k17:PySem.W.keepIn K (.ref f17)=true)
 (a18:PySem.W.nsIn K mainGlobals "view"=some (some (.ref f18))) (l18:K.lookup f18=some ⟨oc18,od18,.func (PySem.W.fnOf "view" "view" (z0E z4P) (z0D z4P) (z03 z4P) .none kV18 dc18 pm18 an18 cd18 ct18),sl18⟩) (c18:PySem.W.codeIn K cd18 "view"=true) (k18:PySem.W.keepIn K (.ref f18)=true)
 (a19:PySem.W.nsIn K mainGlobals "fresh"=some (some (.ref f19))) (l19:K.lookup f19=some ⟨oc19,od19,.func (PySem.W.fnOf "fresh" "fresh" (z0E s_fresh) (z0D s_fresh) (z03 s_fresh) .none kV19 dc19 pm19 an19 cd19 ct19),sl19⟩) (c19:PySem.W.codeIn K cd19 "fresh"=true) (k19:PySem.W.keepIn K (.ref f19)=true)
 (a20:PySem.W.nsIn K mainGlobals "many_shared"=some (some (.ref f20))) (l20:K.lookup f20=some ⟨oc20,od20,.func (PySem.W.fnOf "many_shared" "many_shared" (z0E z19) (z0D z19) (z03 z19) .none kV20 dc20 pm20 an20 cd20 ct20),sl20⟩) (c20:PySem.W.codeIn K cd20 "many_shared"=true) (k20:PySem.W.keepIn K (.ref f20)=true)
 (a21:PySem.W.findIn K (.ref J0) "__init__"=some (some (.ref f21))) (l21:K.lookup f21=some ⟨oc21,od21,.func (PySem.W.fnOf "__init__" "Window.__init__" (z0E z1T) (z0D z1T) (z03 z1T) .none kV21 dc21 pm21 an21 cd21 ct21),sl21⟩) (c21:PySem.W.codeIn K cd21 "Window.__init__"=true) (k21:PySem.W.keepIn K (.ref f21)=true)
 (i21:PySem.W.isFn K (.ref f21)=true)
 (a22:PySem.W.findIn K (.ref J0) "scroll"=some (some (.ref f22))) (l22:K.lookup f22=some ⟨oc22,od22,.func (PySem.W.fnOf "scroll" "Window.scroll" (z0E z0c) (z0D z0c) (z03 z0c) .none kV22 dc22 pm22 an22 cd22 ct22),sl22⟩) (c22:PySem.W.codeIn K cd22 "Window.scroll"=true) (k22:PySem.W.keepIn K (.ref f22)=true)
 (i22:PySem.W.isFn K (.ref f22)=true)
 (a23:PySem.W.findIn K (.ref J0) "check_line"=some (some (.ref f23))) (l23:K.lookup f23=some ⟨oc23,od23,.func (PySem.W.fnOf "check_line" "Window.check_line" (z0E z0Y) (z0D z0Y) (z03 z0Y) .none kV23 dc23 pm23 an23 cd23 ct23),sl23⟩) (c23:PySem.W.codeIn K cd23 "Window.check_line"=true) (k23:PySem.W.keepIn K (.ref f23)=true)
 (i23:PySem.W.isFn K (.ref f23)=true)
 (a24:PySem.W.findIn K (.ref J0) "edit"=some (some (.ref f24))) (l24:K.lookup f24=some ⟨oc24,od24,.func (PySem.W.fnOf "edit" "Window.edit" (z0E z1U) (z0D z1U) (z03 z1U) .none kV24 dc24 pm24 an24 cd24 ct24),sl24⟩) (c24:PySem.W.codeIn K cd24 "Window.edit"=true) (k24:PySem.W.keepIn K (.ref f24)=true)
 (i24:PySem.W.isFn K (.ref f24)=true)
 (a25:PySem.W.findIn K (.ref J0) "line"=some (some (.ref f25))) (l25:K.lookup f25=some ⟨oc25,od25,.func (PySem.W.fnOf "line" "Window.line" (z0E z1V) (z0D z1V) (z03 z1V) .none kV25 dc25 pm25 an25 cd25 ct25),sl25⟩) (c25:PySem.W.codeIn K cd25 "Window.line"=true) (k25:PySem.W.keepIn K (.ref f25)=true)
 (i25:PySem.W.isFn K (.ref f25)=true)
 (a26:PySem.W.findIn K (.ref J0) "shown"=some (some (.ref f26))) (l26:K.lookup f26=some ⟨oc26,od26,.func (PySem.W.fnOf "shown" "Window.shown" (z0E z1G) (z0D z1G) (z03 z1G) .none kV26 dc26 pm26 an26 cd26 ct26),sl26⟩) (c26:PySem.W.codeIn K cd26 "Window.shown"=true) (k26:PySem.W.keepIn K (.ref f26)=true)
 (i26:PySem.W.isFn K (.ref f26)=true)
 (a27:PySem.W.findIn K (.ref J0) "spot"=some (some (.ref f27))) (l27:K.lookup f27=some ⟨oc27,od27,.func (PySem.W.fnOf "spot" "Window.spot" (z0E z1W) (z0D z1W) (z03 z1W) .none kV27 dc27 pm27 an27 cd27 ct27),sl27⟩) (c27:PySem.W.codeIn K cd27 "Window.spot"=true) (k27:PySem.W.keepIn K (.ref f27)=true)
 (i27:PySem.W.isFn K (.ref f27)=true)
 (a28:PySem.W.nsIn K mainGlobals "is_sign"=some (some (.ref f28))) (l28:K.lookup f28=some ⟨oc28,od28,.func (PySem.W.fnOf "is_sign" "is_sign" (z0E z2U) (z0D z2U) (z03 z2U) .none kV28 dc28 pm28 an28 cd28 ct28),sl28⟩) (c28:PySem.W.codeIn K cd28 "is_sign"=true) (k28:PySem.W.keepIn K (.ref f28)=true)
 (a29:PySem.W.nsIn K mainGlobals "is_pair"=some (some (.ref f29))) (l29:K.lookup f29=some ⟨oc29,od29,.func (PySem.W.fnOf "is_pair" "is_pair" (z0E z2V) (z0D z2V) (z03 z2V) .none kV29 dc29 pm29 an29 cd29 ct29),sl29⟩) (c29:PySem.W.codeIn K cd29 "is_pair"=true) (k29:PySem.W.keepIn K (.ref f29)=true)
 (a30:PySem.W.nsIn K mainGlobals "pics_by_signs"=some (some (.ref f30))) (l30:K.lookup f30=some ⟨oc30,od30,.func (PySem.W.fnOf "pics_by_signs" "pics_by_signs" (z0E z0U) (z0D z0U) (z03 z0U) .none kV30 dc30 pm30 an30 cd30 ct30),sl30⟩) (c30:PySem.W.codeIn K cd30 "pics_by_signs"=true) (k30:PySem.W.keepIn K (.ref f30)=true)
 (a31:PySem.W.findIn K (.ref J3) "__init__"=some (some (.ref f31))) (l31:K.lookup f31=some ⟨oc31,od31,.func (PySem.W.fnOf "__init__" "Font.__init__" (z0E z1w) (z0D z1w) (z03 z1w) (.ref T31) kV31 dc31 pm31 an31 cd31 ct31),sl31⟩) (c31:PySem.W.codeIn K cd31 "Font.__init__"=true) (k31:PySem.W.keepIn K (.ref f31)=true) (t31:K.lookup T31=some ⟨ov31,ot31,.seq #[.int 1 ka31] nt31,st31⟩)
 (i31:PySem.W.isFn K (.ref f31)=true)
 (a32:PySem.W.findIn K (.ref J3) "height"=some (some (.ref f32))) (l32:K.lookup f32=some ⟨oc32,od32,.func (PySem.W.fnOf "height" "Font.height" (z0E z1X) (z0D z1X) (z03 z1X) .none kV32 dc32 pm32 an32 cd32 ct32),sl32⟩) (c32:PySem.W.codeIn K cd32 "Font.height"=true) (k32:PySem.W.keepIn K (.ref f32)=true)
 (i32:PySem.W.isFn K (.ref f32)=true)
 (a33:PySem.W.findIn K (.ref J3) "pics_of"=some (some (.ref f33))) (l33:K.lookup f33=some ⟨oc33,od33,.func (PySem.W.fnOf "pics_of" "Font.pics_of" (z0E z1A) (z0D z1A) (z03 z1A) .none kV33 dc33 pm33 an33 cd33 ct33),sl33⟩) (c33:PySem.W.codeIn K cd33 "Font.pics_of"=true) (k33:PySem.W.keepIn K (.ref f33)=true)
 (i33:PySem.W.isFn K (.ref f33)=true)
 (a34:PySem.W.findIn K (.ref J3) "band"=some (some (.ref f34))) (l34:K.lookup f34=some ⟨oc34,od34,.func (PySem.W.fnOf "band" "Font.band" (z0E z1x) (z0D z1x) (z03 z1x) .none kV34 dc34 pm34 an34 cd34 ct34),sl34⟩) (c34:PySem.W.codeIn K cd34 "Font.band"=true) (k34:PySem.W.keepIn K (.ref f34)=true)
 (i34:PySem.W.isFn K (.ref f34)=true)
 (a35:PySem.W.nsIn K mainGlobals "_law_draw"=some (some (.ref f35))) (l35:K.lookup f35=some ⟨oc35,od35,.func (PySem.W.fnOf "_law_draw" "_law_draw" (z0E z24) (z0D z24) (z03 z24) .none kV35 dc35 pm35 an35 cd35 ct35),sl35⟩) (c35:PySem.W.codeIn K cd35 "_law_draw"=true) (k35:PySem.W.keepIn K (.ref f35)=true)
 (a36:PySem.W.nsIn K mainGlobals "_law_whole"=some (some (.ref f36))) (l36:K.lookup f36=some ⟨oc36,od36,.func (PySem.W.fnOf "_law_whole" "_law_whole" (z0E z1j) (z0D z1j) (z03 z1j) .none kV36 dc36 pm36 an36 cd36 ct36),sl36⟩) (c36:PySem.W.codeIn K cd36 "_law_whole"=true) (k36:PySem.W.keepIn K (.ref f36)=true)
 (a37:PySem.W.nsIn K mainGlobals "_law_shade"=some (some (.ref f37))) (l37:K.lookup f37=some ⟨oc37,od37,.func (PySem.W.fnOf "_law_shade" "_law_shade" (z0E z1k) (z0D z1k) (z03 z1k) .none kV37 dc37 pm37 an37 cd37 ct37),sl37⟩) (c37:PySem.W.codeIn K cd37 "_law_shade"=true) (k37:PySem.W.keepIn K (.ref f37)=true)
 (a38:PySem.W.nsIn K mainGlobals "_law_rows"=some (some (.ref f38))) (l38:K.lookup f38=some ⟨oc38,od38,.func (PySem.W.fnOf "_law_rows" "_law_rows" (z0E z1p) (z0D z1p) (z03 z1p) .none kV38 dc38 pm38 an38 cd38 ct38),sl38⟩) (c38:PySem.W.codeIn K cd38 "_law_rows"=true) (k38:PySem.W.keepIn K (.ref f38)=true)
 (a39:PySem.W.nsIn K mainGlobals "_law_bits"=some (some (.ref f39))) (l39:K.lookup f39=some ⟨oc39,od39,.func (PySem.W.fnOf "_law_bits" "_law_bits" (z0E z25) (z0D z25) (z03 z25) .none kV39 dc39 pm39 an39 cd39 ct39),sl39⟩) (c39:PySem.W.codeIn K cd39 "_law_bits"=true) (k39:PySem.W.keepIn K (.ref f39)=true)
 (a40:PySem.W.nsIn K mainGlobals "_law_is_pic"=some (some (.ref f40))) (l40:K.lookup f40=some ⟨oc40,od40,.func (PySem.W.fnOf "_law_is_pic" "_law_is_pic" (z0E z1Y) (z0D z1Y) (z03 z1Y) .none kV40 dc40 pm40 an40 cd40 ct40),sl40⟩) (c40:PySem.W.codeIn K cd40 "_law_is_pic"=true) (k40:PySem.W.keepIn K (.ref f40)=true)
 (a41:PySem.W.nsIn K mainGlobals "_law_sign"=some (some (.ref f41))) (l41:K.lookup f41=some ⟨oc41,od41,.func (PySem.W.fnOf "_law_sign" "_law_sign" (z0E z26) (z0D z26) (z03 z26) .none kV41 dc41 pm41 an41 cd41 ct41),sl41⟩) (c41:PySem.W.codeIn K cd41 "_law_sign"=true) (k41:PySem.W.keepIn K (.ref f41)=true)
 (a42:PySem.W.nsIn K mainGlobals "_law_signs"=some (some (.ref f42))) (l42:K.lookup f42=some ⟨oc42,od42,.func (PySem.W.fnOf "_law_signs" "_law_signs" (z0E z1l) (z0D z1l) (z03 z1l) .none kV42 dc42 pm42 an42 cd42 ct42),sl42⟩) (c42:PySem.W.codeIn K cd42 "_law_signs"=true) (k42:PySem.W.keepIn K (.ref f42)=true)
 (a43:PySem.W.nsIn K mainGlobals "_law_pairs"=some (some (.ref f43))) (l43:K.lookup f43=some ⟨oc43,od43,.func (PySem.W.fnOf "_law_pairs" "_law_pairs" (z0E z1Z) (z0D z1Z) (z03 z1Z) .none kV43 dc43 pm43 an43 cd43 ct43),sl43⟩) (c43:PySem.W.codeIn K cd43 "_law_pairs"=true) (k43:PySem.W.keepIn K (.ref f43)=true)
 (a44:PySem.W.nsIn K mainGlobals "_law_columns"=some (some (.ref f44))) (l44:K.lookup f44=some ⟨oc44,od44,.func (PySem.W.fnOf "_law_columns" "_law_columns" (z0E z0k) (z0D z0k) (z03 z0k) .none kV44 dc44 pm44 an44 cd44 ct44),sl44⟩) (c44:PySem.W.codeIn K cd44 "_law_columns"=true) (k44:PySem.W.keepIn K (.ref f44)=true)
 (a45:PySem.W.nsIn K mainGlobals "_law_text"=some (some (.ref f45))) (l45:K.lookup f45=some ⟨oc45,od45,.func (PySem.W.fnOf "_law_text" "_law_text" (z0E z27) (z0D z27) (z03 z27) .none kV45 dc45 pm45 an45 cd45 ct45),sl45⟩) (c45:PySem.W.codeIn K cd45 "_law_text"=true) (k45:PySem.W.keepIn K (.ref f45)=true)
 (a46:PySem.W.nsIn K mainGlobals "_law_lines"=some (some (.ref f46))) (l46:K.lookup f46=some ⟨oc46,od46,.func (PySem.W.fnOf "_law_lines" "_law_lines" (z0E z1m) (z0D z1m) (z03 z1m) .none kV46 dc46 pm46 an46 cd46 ct46),sl46⟩) (c46:PySem.W.codeIn K cd46 "_law_lines"=true) (k46:PySem.W.keepIn K (.ref f46)=true)
 (a47:PySem.W.nsIn K mainGlobals "_law_due"=some (some (.ref f47))) (l47:K.lookup f47=some ⟨oc47,od47,.func (PySem.W.fnOf "_law_due" "_law_due" (z0E z2W) (z0D z2W) (z03 z2W) .none kV47 dc47 pm47 an47 cd47 ct47),sl47⟩) (c47:PySem.W.codeIn K cd47 "_law_due"=true) (k47:PySem.W.keepIn K (.ref f47)=true)
 (a48:PySem.W.nsIn K mainGlobals "_law_stands"=some (some (.ref f48))) (l48:K.lookup f48=some ⟨oc48,od48,.func (PySem.W.fnOf "_law_stands" "_law_stands" (z0E z1B) (z0D z1B) (z03 z1B) .none kV48 dc48 pm48 an48 cd48 ct48),sl48⟩) (c48:PySem.W.codeIn K cd48 "_law_stands"=true) (k48:PySem.W.keepIn K (.ref f48)=true)
 (a49:PySem.W.nsIn K mainGlobals "_law_scrolled"=some (some (.ref f49))) (l49:K.lookup f49=some ⟨oc49,od49,.func (PySem.W.fnOf "_law_scrolled" "_law_scrolled" (z0E z0V) (z0D z0V) (z03 z0V) .none kV49 dc49 pm49 an49 cd49 ct49),sl49⟩) (c49:PySem.W.codeIn K cd49 "_law_scrolled"=true) (k49:PySem.W.keepIn K (.ref f49)=true)
 (a50:PySem.W.nsIn K mainGlobals "_law_edited"=some (some (.ref f50))) (l50:K.lookup f50=some ⟨oc50,od50,.func (PySem.W.fnOf "_law_edited" "_law_edited" (z0E z1C) (z0D z1C) (z03 z1C) .none kV50 dc50 pm50 an50 cd50 ct50),sl50⟩) (c50:PySem.W.codeIn K cd50 "_law_edited"=true) (k50:PySem.W.keepIn K (.ref f50)=true)
 (a51:PySem.W.nsIn K mainGlobals "_law_caught"=some (some (.ref f51))) (l51:K.lookup f51=some ⟨oc51,od51,.func (PySem.W.fnOf "_law_caught" "_law_caught" (z0E z1Q) (z0D z1Q) (z03 z1Q) .none kV51 dc51 pm51 an51 cd51 ct51),sl51⟩) (c51:PySem.W.codeIn K cd51 "_law_caught"=true) (k51:PySem.W.keepIn K (.ref f51)=true)
 (a52:PySem.W.nsIn K mainGlobals "_law_no_line"=some (some (.ref f52))) (l52:K.lookup f52=some ⟨oc52,od52,.func (PySem.W.fnOf "_law_no_line" "_law_no_line" (z0E z1R) (z0D z1R) (z03 z1R) .none kV52 dc52 pm52 an52 cd52 ct52),sl52⟩) (c52:PySem.W.codeIn K cd52 "_law_no_line"=true) (k52:PySem.W.keepIn K (.ref f52)=true)
 (a53:PySem.W.nsIn K mainGlobals "_law_refused"=some (some (.ref f53))) (l53:K.lookup f53=some ⟨oc53,od53,.func (PySem.W.fnOf "_law_refused" "_law_refused" (z0E z1D) (z0D z1D) (z03 z1D) .none kV53 dc53 pm53 an53 cd53 ct53),sl53⟩) (c53:PySem.W.codeIn K cd53 "_law_refused"=true) (k53:PySem.W.keepIn K (.ref f53)=true)
 (a54:PySem.W.nsIn K mainGlobals "_law_deed"=some (some (.ref f54))) (l54:K.lookup f54=some ⟨oc54,od54,.func (PySem.W.fnOf "_law_deed" "_law_deed" (z0E z28) (z0D z28) (z03 z28) .none kV54 dc54 pm54 an54 cd54 ct54),sl54⟩) (c54:PySem.W.codeIn K cd54 "_law_deed"=true) (k54:PySem.W.keepIn K (.ref f54)=true)
 (a55:PySem.W.nsIn K mainGlobals "_law_begun"=some (some (.ref f55))) (l55:K.lookup f55=some ⟨oc55,od55,.func (PySem.W.fnOf "_law_begun" "_law_begun" (z0E z1a) (z0D z1a) (z03 z1a) .none kV55 dc55 pm55 an55 cd55 ct55),sl55⟩) (c55:PySem.W.codeIn K cd55 "_law_begun"=true) (k55:PySem.W.keepIn K (.ref f55)=true)
 (a56:PySem.W.nsIn K mainGlobals "_law_not_begun"=some (some (.ref f56))) (l56:K.lookup f56=some ⟨oc56,od56,.func (PySem.W.fnOf "_law_not_begun" "_law_not_begun" (z0E z0o) (z0D z0o) (z03 z0o) .none kV56 dc56 pm56 an56 cd56 ct56),sl56⟩) (c56:PySem.W.codeIn K cd56 "_law_not_begun"=true) (k56:PySem.W.keepIn K (.ref f56)=true)
 (a57:PySem.W.nsIn K mainGlobals "_law_cells"=some (some (.ref f57))) (l57:K.lookup f57=some ⟨oc57,od57,.func (PySem.W.fnOf "_law_cells" "_law_cells" (z0E z1b) (z0D z1b) (z03 z1b) .none kV57 dc57 pm57 an57 cd57 ct57),sl57⟩) (c57:PySem.W.codeIn K cd57 "_law_cells"=true) (k57:PySem.W.keepIn K (.ref f57)=true)
 (a58:PySem.W.nsIn K mainGlobals "law"=some (some (.ref f58))) (l58:K.lookup f58=some ⟨oc58,od58,.func (PySem.W.fnOf "law" "law" (z0E z3l) (z0D z3l) (z03 z3l) .none kV58 dc58 pm58 an58 cd58 ct58),sl58⟩) (c58:PySem.W.codeIn K cd58 "law"=true) (k58:PySem.W.keepIn K (.ref f58)=true)
 (z1:PySem.W.nsIn K mainGlobals "len"=some none)
 (z2:PySem.W.nsIn K mainGlobals "range"=some none)
 (z3:PySem.W.nsIn K mainGlobals "enumerate"=some none)
 (z4:PySem.W.nsIn K mainGlobals "zip"=some none)
 (z5:PySem.W.nsIn K mainGlobals "reversed"=some none)
 (z6:PySem.W.nsIn K mainGlobals "isinstance"=some none)
 (z7:PySem.W.nsIn K mainGlobals "int"=some none)
 (z8:PySem.W.nsIn K mainGlobals "bool"=some none)
 (z9:PySem.W.nsIn K mainGlobals "str"=some none)
 (z10:PySem.W.nsIn K mainGlobals "list"=some none)
 (z11:PySem.W.nsIn K mainGlobals "tuple"=some none)
 (z12:PySem.W.nsIn K mainGlobals "dict"=some none)
 (z13:PySem.W.nsIn K mainGlobals "all"=some none)
 (z14:PySem.W.nsIn K mainGlobals "sum"=some none)
 (z15:PySem.W.nsIn K mainGlobals "abs"=some none)
 (z16:PySem.W.nsIn K mainGlobals "min"=some none)
 (z17:PySem.W.nsIn K mainGlobals "max"=some none)
 (z18:PySem.W.nsIn K mainGlobals "ord"=some none)
 (cm_GlowError:PySem.W.nsIn K mainGlobals "GlowError"=some (some (.ref J6)))
 (cm_NoFont:PySem.W.nsIn K mainGlobals "NoFont"=some (some (.ref J7)))
 (cm_NoSign:PySem.W.nsIn K mainGlobals "NoSign"=some (some (.ref J4)))
 (cm_NoLine:PySem.W.nsIn K mainGlobals "NoLine"=some (some (.ref J5)))
 (gs:PySem.W.specialIn K (.ref J6) "__getattribute__"=some (some (.builtin "type.__getattribute__"))) (gr:PySem.W.readsIn K J6 (.type "type")=true) (gf:PySem.W.findCls K (.ref J6) (.type "type") "__init__"=some (.val (.builtin "ValueError.__init__")))
 (fi_NoFont:PySem.W.findIn K (.ref J7) "__init__"=some (some (.builtin "ValueError.__init__")))
 (fi_NoSign:PySem.W.findIn K (.ref J4) "__init__"=some (some (.ref ia_NoSign))) (il_NoSign:K.lookup ia_NoSign=some ⟨ioc_NoSign,iod_NoSign,.func (PySem.W.fnOf "__init__" "NoSign.__init__" (z0E z2q) (z0D z2q) (z03 z2q) .none ikV_NoSign idc_NoSign ipm_NoSign ian_NoSign icd_NoSign ict_NoSign),isl_NoSign⟩) (ic_NoSign:PySem.W.codeIn K icd_NoSign "NoSign.__init__"=true) (ik_NoSign:PySem.W.keepIn K (.ref ia_NoSign)=true) (it_NoSign:PySem.W.typeIn K (.ref ia_NoSign)=some (.type "function"))
 (ff_NoSign_sign:PySem.W.findIn K (.ref J4) "sign"=some none)
 (ff_NoSign_at:PySem.W.findIn K (.ref J4) "at"=some none)
 (fi_NoLine:PySem.W.findIn K (.ref J5) "__init__"=some (some (.builtin "ValueError.__init__")))
 (xall:([J6,J7,J4,J5]:List Addr).all (xeB K)=true) (kall:zC8 K [J7,J4,J5] J6=true) (k_tup:PySem.W.kitOne K (.type "tuple") (.ref J6)=some false) (aball:(([J7,J4,J5]:List Addr).all fun c=>PySem.W.mroIn K c (.ref J6)==some true)=true)
 :∃fd:FuncData,(∀(s:Shared) (v:Value),BindsTo s fd ⟨[v],[]⟩ [("_law_script",v)])/\∀base:Heap,K.In base->base.Ns mainGlobals mg->FnOk l.prog w K mg base CX0 10 fa fd ["_law_script"] (zB9 K):=by
 have e:=hfa.symm.trans (PySem.W.mg_of X G a58)
 cases e
 have B:Blt mg:=⟨PySem.W.mg_none_of X G z1,PySem.W.mg_none_of X G z2,PySem.W.mg_none_of X G z3,PySem.W.mg_none_of X G z4,PySem.W.mg_none_of X G z5,PySem.W.mg_none_of X G z6,PySem.W.mg_none_of X G z7,PySem.W.mg_none_of X G z8,PySem.W.mg_none_of X G z9,PySem.W.mg_none_of X G z10,PySem.W.mg_none_of X G z11,PySem.W.mg_none_of X G z12,PySem.W.mg_none_of X G z13,PySem.W.mg_none_of X G z14,PySem.W.mg_none_of X G z15,PySem.W.mg_none_of X G z16,PySem.W.mg_none_of X G z17,PySem.W.mg_none_of X G z18⟩
 have xa:=List.all_eq_true.mp xall
 have xk_NoFont:=z84 (xa J7 (by simp))
 have xk_NoSign:=z84 (xa J4 (by simp))
 have xk_NoLine:=z84 (xa J5 (by simp))
 have Z:Cl K mg J6 J7 J4 J5:=⟨PySem.W.mg_of X G cm_GlowError,⟨gs,gr,gf⟩,(z84 (xa J6 (by simp))).1,k_tup,(fun c hc=>by simpa using List.all_eq_true.mp aball c hc),PySem.W.mg_of X G cm_NoFont,xk_NoFont.1,PySem.W.mg_of X G cm_NoSign,xk_NoSign.1,ff_NoSign_sign,ff_NoSign_at,PySem.W.mg_of X G cm_NoLine,xk_NoLine.1,zAL kall⟩
 have FI_NoSign:=z0M (st:=z2q) il_NoSign ic_NoSign ik_NoSign
 have Zo:Co K mg J0 J3:=⟨PySem.W.mg_of X G cm_Window,⟨pg_Window,hd_Window,po_Window,sa_Window⟩,na_Window_font,na_Window_lines,na_Window_lead,na_Window_wide,na_Window_high,na_Window_x,na_Window_y,PySem.W.mg_of X G cm_Font,⟨pg_Font,hd_Font,po_Font,sa_Font⟩,na_Font_pics,na_Font_high,na_Font_gap⟩
 have F1:=z0M (st:=z20) l1 c1 k1
 have D1:Df K mg "is_whole" z20 ["thing"] _ _:=⟨F1,F1.binds (ps:=["thing"]) fun _ _ _ _ _ _ us hl=>(by obtain⟨_,rfl⟩:=bn1 hl;rfl),PySem.W.mg_of X G a1⟩
 have F2:=z0M (st:=z1i) l2 c2 k2
 have D2:Df K mg "is_within" z1i ["thing","least","most"] _ _:=⟨F2,F2.binds (ps:=["thing","least","most"]) fun _ _ _ _ _ _ us hl=>(by obtain⟨_,_,_,rfl⟩:=bn3 hl;rfl),PySem.W.mg_of X G a2⟩
 have F3:=z0M (st:=z2R) l3 c3 k3
 have D3:Df K mg "is_side" z2R ["thing"] _ _:=⟨F3,F3.binds (ps:=["thing"]) fun _ _ _ _ _ _ us hl=>(by obtain⟨_,rfl⟩:=bn1 hl;rfl),PySem.W.mg_of X G a3⟩
 have F4:=z0M (st:=z1M) l4 c4 k4
 have D4:Df K mg "paint_room" z1M ["wide","mask"] _ _:=⟨F4,F4.binds (ps:=["wide","mask"]) fun _ _ _ _ _ _ us hl=>(by obtain⟨_,_,rfl⟩:=bn2 hl;rfl),PySem.W.mg_of X G a4⟩
 have F5:=z0M (st:=z1N) l5 c5 k5
 have D5:Df K mg "is_bits_row" z1N ["wide","paint","mask"] _ _:=⟨F5,F5.binds (ps:=["wide","paint","mask"]) fun _ _ _ _ _ _ us hl=>(by obtain⟨_,_,_,rfl⟩:=bn3 hl;rfl),PySem.W.mg_of X G a5⟩
 have F6:=z0M (st:=z21) l6 c6 k6
 have D6:Df K mg "has_form" z21 ["thing"] _ _:=⟨F6,F6.binds (ps:=["thing"]) fun _ _ _ _ _ _ us hl=>(by obtain⟨_,rfl⟩:=bn1 hl;rfl),PySem.W.mg_of X G a6⟩
 have F7:=z0M (st:=z0y) l7 c7 k7
 have D7:Df K mg "is_picture" z0y ["thing"] _ _:=⟨F7,F7.binds (ps:=["thing"]) fun _ _ _ _ _ _ us hl=>(by obtain⟨_,rfl⟩:=bn1 hl;rfl),PySem.W.mg_of X G a7⟩
 have F8:=z0M (st:=z22) l8 c8 k8
 have D8:Df K mg "paint_of" z22 ["row"] _ _:=⟨F8,F8.binds (ps:=["row"]) fun _ _ _ _ _ _ us hl=>(by obtain⟨_,rfl⟩:=bn1 hl;rfl),PySem.W.mg_of X G a8⟩
 have F9:=z0M (st:=z2S) l9 c9 k9
 have D9:Df K mg "mask_of" z2S ["row"] _ _:=⟨F9,F9.binds (ps:=["row"]) fun _ _ _ _ _ _ us hl=>(by obtain⟨_,rfl⟩:=bn1 hl;rfl),PySem.W.mg_of X G a9⟩
 have F10:=z6z (st:=z2T) l10 c10 k10
 have D10:DfD K mg "filled" z2T ["wide","high","cell"] _ _ _:=⟨F10,fun s us X hl=>(by obtain⟨_,_,_,rfl⟩:=bn3 (us:=us) (by simpa using hl);exact PySem.W.binds_K X rfl t10 rfl rfl rfl),fun s us X hl=>(by obtain⟨_,_,rfl⟩:=bn2 (us:=us) (by simpa using hl);exact PySem.W.binds_K X rfl t10 rfl rfl rfl),PySem.W.mg_of X G a10⟩
 have F11:=z0M (st:=z1O) l11 c11 k11
 have D11:Df K mg "bits_of_row" z1O ["rows","y"] _ _:=⟨F11,F11.binds (ps:=["rows","y"]) fun _ _ _ _ _ _ us hl=>(by obtain⟨_,_,rfl⟩:=bn2 hl;rfl),PySem.W.mg_of X G a11⟩
 have F12:=z0M (st:=z23) l12 c12 k12
 have D12:Df K mg "cut_bits" z23 ["bits","at","many"] _ _:=⟨F12,F12.binds (ps:=["bits","at","many"]) fun _ _ _ _ _ _ us hl=>(by obtain⟨_,_,_,rfl⟩:=bn3 hl;rfl),PySem.W.mg_of X G a12⟩
 have F13:=z0M (st:=z5V) l13 c13 k13
 have D13:Df K mg "cut" z5V ["pic","x","y","wide","high"] _ _:=⟨F13,F13.binds (ps:=["pic","x","y","wide","high"]) fun _ _ _ _ _ _ us hl=>(by obtain⟨_,_,_,_,_,rfl⟩:=bn5 hl;rfl),PySem.W.mg_of X G a13⟩
 have F14:=z0M (st:=z1P) l14 c14 k14
 have D14:Df K mg "laid_paint" z1P ["wide","lower","upper","mask"] _ _:=⟨F14,F14.binds (ps:=["wide","lower","upper","mask"]) fun _ _ _ _ _ _ us hl=>(by obtain⟨_,_,_,_,rfl⟩:=bn4 hl;rfl),PySem.W.mg_of X G a14⟩
 have F15:=z6z (st:=z3O) l15 c15 k15
 have D15:Df2 K mg "laid" z3O ["under","over","x","y"] _ _ _ (0) (0):=⟨F15,fun s us X hl=>(by obtain⟨_,_,_,_,rfl⟩:=bn4 (us:=us) (by simpa using hl);exact PySem.W.binds_K X rfl t15 rfl rfl rfl),⟨_,fun s us X hl=>(by obtain⟨_,_,_,rfl⟩:=bn3 (us:=us) (by simpa using hl);exact PySem.W.binds_K X rfl t15 rfl rfl rfl)⟩,⟨_,_,fun s us X hl=>(by obtain⟨_,_,rfl⟩:=bn2 (us:=us) (by simpa using hl);exact PySem.W.binds_K X rfl t15 rfl rfl rfl)⟩,PySem.W.mg_of X G a15⟩
 have F16:=z0M (st:=z0z) l16 c16 k16
 have D16:Df K mg "check_lines" z0z ["font","lines"] _ _:=⟨F16,F16.binds (ps:=["font","lines"]) fun _ _ _ _ _ _ us hl=>(by obtain⟨_,_,rfl⟩:=bn2 hl;rfl),PySem.W.mg_of X G a16⟩
 have F17:=z0M (st:=z34) l17 c17 k17
 have D17:Df K mg "top_of" z34 ["font","lead","at"] _ _:=⟨F17,F17.binds (ps:=["font","lead","at"]) fun _ _ _ _ _ _ us hl=>(by obtain⟨_,_,_,rfl⟩:=bn3 hl;rfl),PySem.W.mg_of X G a17⟩
 have F18:=z0M (st:=z4P) l18 c18 k18
 have D18:Df K mg "view" z4P ["font","lines","lead","x","y","wide","high"] _ _:=⟨F18,F18.binds (ps:=["font","lines","lead","x","y","wide","high"]) fun _ _ _ _ _ _ us hl=>(by obtain⟨_,_,_,_,_,_,_,rfl⟩:=bn7 hl;rfl),PySem.W.mg_of X G a18⟩
 have F19:=z0M (st:=s_fresh) l19 c19 k19
 have D19:Df K mg "fresh" s_fresh ["wide","high","dx","dy"] _ _:=⟨F19,F19.binds (ps:=["wide","high","dx","dy"]) fun _ _ _ _ _ _ us hl=>(by obtain⟨_,_,_,_,rfl⟩:=bn4 hl;rfl),PySem.W.mg_of X G a19⟩
 have F20:=z0M (st:=z19) l20 c20 k20
 have D20:Df K mg "many_shared" z19 ["start","many","other","others"] _ _:=⟨F20,F20.binds (ps:=["start","many","other","others"]) fun _ _ _ _ _ _ us hl=>(by obtain⟨_,_,_,_,rfl⟩:=bn4 hl;rfl),PySem.W.mg_of X G a20⟩
 have F21:=z0M (st:=z1T) l21 c21 k21
 have F22:=z0M (st:=z0c) l22 c22 k22
 have F23:=z0M (st:=z0Y) l23 c23 k23
 have F24:=z0M (st:=z1U) l24 c24 k24
 have F25:=z0M (st:=z1V) l25 c25 k25
 have F26:=z0M (st:=z1G) l26 c26 k26
 have F27:=z0M (st:=z1W) l27 c27 k27
 have F28:=z0M (st:=z2U) l28 c28 k28
 have D28:Df K mg "is_sign" z2U ["thing"] _ _:=⟨F28,F28.binds (ps:=["thing"]) fun _ _ _ _ _ _ us hl=>(by obtain⟨_,rfl⟩:=bn1 hl;rfl),PySem.W.mg_of X G a28⟩
 have F29:=z0M (st:=z2V) l29 c29 k29
 have D29:Df K mg "is_pair" z2V ["thing"] _ _:=⟨F29,F29.binds (ps:=["thing"]) fun _ _ _ _ _ _ us hl=>(by obtain⟨_,rfl⟩:=bn1 hl;rfl),PySem.W.mg_of X G a29⟩
 have F30:=z0M (st:=z0U) l30 c30 k30
 have D30:Df K mg "pics_by_signs" z0U ["pairs"] _ _:=⟨F30,F30.binds (ps:=["pairs"]) fun _ _ _ _ _ _ us hl=>(by obtain⟨_,rfl⟩:=bn1 hl;rfl),PySem.W.mg_of X G a30⟩
 have F31:=z6z (st:=z1w) l31 c31 k31
 have F32:=z0M (st:=z1X) l32 c32 k32
 have F33:=z0M (st:=z1A) l33 c33 k33
 have F34:=z0M (st:=z1x) l34 c34 k34
 have F35:=z0M (st:=z24) l35 c35 k35
 have D35:Df K mg "_law_draw" z24 ["_law_script","_law_k","_law_prime","_law_many"] _ _:=⟨F35,F35.binds (ps:=["_law_script","_law_k","_law_prime","_law_many"]) fun _ _ _ _ _ _ us hl=>(by obtain⟨_,_,_,_,rfl⟩:=bn4 hl;rfl),PySem.W.mg_of X G a35⟩
 have F36:=z0M (st:=z1j) l36 c36 k36
 have D36:Df K mg "_law_whole" z1j ["_law_found"] _ _:=⟨F36,F36.binds (ps:=["_law_found"]) fun _ _ _ _ _ _ us hl=>(by obtain⟨_,rfl⟩:=bn1 hl;rfl),PySem.W.mg_of X G a36⟩
 have F37:=z0M (st:=z1k) l37 c37 k37
 have D37:Df K mg "_law_shade" z1k ["_law_script","_law_k"] _ _:=⟨F37,F37.binds (ps:=["_law_script","_law_k"]) fun _ _ _ _ _ _ us hl=>(by obtain⟨_,_,rfl⟩:=bn2 hl;rfl),PySem.W.mg_of X G a37⟩
 have F38:=z0M (st:=z1p) l38 c38 k38
 have D38:Df K mg "_law_rows" z1p ["_law_script","_law_k","_law_wide","_law_high"] _ _:=⟨F38,F38.binds (ps:=["_law_script","_law_k","_law_wide","_law_high"]) fun _ _ _ _ _ _ us hl=>(by obtain⟨_,_,_,_,rfl⟩:=bn4 hl;rfl),PySem.W.mg_of X G a38⟩
 have F39:=z0M (st:=z25) l39 c39 k39
 have D39:Df K mg "_law_bits" z25 ["_law_rows_here"] _ _:=⟨F39,F39.binds (ps:=["_law_rows_here"]) fun _ _ _ _ _ _ us hl=>(by obtain⟨_,rfl⟩:=bn1 hl;rfl),PySem.W.mg_of X G a39⟩
 have F40:=z0M (st:=z1Y) l40 c40 k40
 have D40:Df K mg "_law_is_pic" z1Y ["_law_found","_law_due_here"] _ _:=⟨F40,F40.binds (ps:=["_law_found","_law_due_here"]) fun _ _ _ _ _ _ us hl=>(by obtain⟨_,_,rfl⟩:=bn2 hl;rfl),PySem.W.mg_of X G a40⟩
 have F41:=z0M (st:=z26) l41 c41 k41
 have D41:Df K mg "_law_sign" z26 ["_law_number"] _ _:=⟨F41,F41.binds (ps:=["_law_number"]) fun _ _ _ _ _ _ us hl=>(by obtain⟨_,rfl⟩:=bn1 hl;rfl),PySem.W.mg_of X G a41⟩
 have F42:=z0M (st:=z1l) l42 c42 k42
 have D42:Df K mg "_law_signs" z1l ["_law_script","_law_k","_law_many","_law_high"] _ _:=⟨F42,F42.binds (ps:=["_law_script","_law_k","_law_many","_law_high"]) fun _ _ _ _ _ _ us hl=>(by obtain⟨_,_,_,_,rfl⟩:=bn4 hl;rfl),PySem.W.mg_of X G a42⟩
 have F43:=z0M (st:=z1Z) l43 c43 k43
 have D43:Df K mg "_law_pairs" z1Z ["_law_signs_here"] _ _:=⟨F43,F43.binds (ps:=["_law_signs_here"]) fun _ _ _ _ _ _ us hl=>(by obtain⟨_,rfl⟩:=bn1 hl;rfl),PySem.W.mg_of X G a43⟩
 have F44:=z0M (st:=z0k) l44 c44 k44
 have D44:Df K mg "_law_columns" z0k ["_law_text_here","_law_table","_law_high","_law_gap"] _ _:=⟨F44,F44.binds (ps:=["_law_text_here","_law_table","_law_high","_law_gap"]) fun _ _ _ _ _ _ us hl=>(by obtain⟨_,_,_,_,rfl⟩:=bn4 hl;rfl),PySem.W.mg_of X G a44⟩
 have F45:=z0M (st:=z27) l45 c45 k45
 have D45:Df K mg "_law_text" z27 ["_law_cell","_law_signs_here","_law_size"] _ _:=⟨F45,F45.binds (ps:=["_law_cell","_law_signs_here","_law_size"]) fun _ _ _ _ _ _ us hl=>(by obtain⟨_,_,_,rfl⟩:=bn3 hl;rfl),PySem.W.mg_of X G a45⟩
 have F46:=z0M (st:=z1m) l46 c46 k46
 have D46:Df K mg "_law_lines" z1m ["_law_script","_law_k","_law_signs_here","_law_many"] _ _:=⟨F46,F46.binds (ps:=["_law_script","_law_k","_law_signs_here","_law_many"]) fun _ _ _ _ _ _ us hl=>(by obtain⟨_,_,_,_,rfl⟩:=bn4 hl;rfl),PySem.W.mg_of X G a46⟩
 have F47:=z0M (st:=z2W) l47 c47 k47
 have D47:Df K mg "_law_due" z2W ["_law_state","_law_make"] _ _:=⟨F47,F47.binds (ps:=["_law_state","_law_make"]) fun _ _ _ _ _ _ us hl=>(by obtain⟨_,_,rfl⟩:=bn2 hl;rfl),PySem.W.mg_of X G a47⟩
 have F48:=z0M (st:=z1B) l48 c48 k48
 have D48:Df K mg "_law_stands" z1B ["_law_state","_law_make"] _ _:=⟨F48,F48.binds (ps:=["_law_state","_law_make"]) fun _ _ _ _ _ _ us hl=>(by obtain⟨_,_,rfl⟩:=bn2 hl;rfl),PySem.W.mg_of X G a48⟩
 have F49:=z0M (st:=z0V) l49 c49 k49
 have D49:Df K mg "_law_scrolled" z0V ["_law_cell","_law_state"] _ _:=⟨F49,F49.binds (ps:=["_law_cell","_law_state"]) fun _ _ _ _ _ _ us hl=>(by obtain⟨_,_,rfl⟩:=bn2 hl;rfl),PySem.W.mg_of X G a49⟩
 have F50:=z0M (st:=z1C) l50 c50 k50
 have D50:Df K mg "_law_edited" z1C ["_law_cell","_law_state","_law_make"] _ _:=⟨F50,F50.binds (ps:=["_law_cell","_law_state","_law_make"]) fun _ _ _ _ _ _ us hl=>(by obtain⟨_,_,_,rfl⟩:=bn3 hl;rfl),PySem.W.mg_of X G a50⟩
 have F51:=z0M (st:=z1Q) l51 c51 k51
 have D51:Df K mg "_law_caught" z1Q ["_law_window","_law_at","_law_text_here"] _ _:=⟨F51,F51.binds (ps:=["_law_window","_law_at","_law_text_here"]) fun _ _ _ _ _ _ us hl=>(by obtain⟨_,_,_,rfl⟩:=bn3 hl;rfl),PySem.W.mg_of X G a51⟩
 have F52:=z0M (st:=z1R) l52 c52 k52
 have D52:Df K mg "_law_no_line" z1R ["_law_window","_law_at"] _ _:=⟨F52,F52.binds (ps:=["_law_window","_law_at"]) fun _ _ _ _ _ _ us hl=>(by obtain⟨_,_,rfl⟩:=bn2 hl;rfl),PySem.W.mg_of X G a52⟩
 have F53:=z0M (st:=z1D) l53 c53 k53
 have D53:Df K mg "_law_refused" z1D ["_law_cell","_law_state","_law_make"] _ _:=⟨F53,F53.binds (ps:=["_law_cell","_law_state","_law_make"]) fun _ _ _ _ _ _ us hl=>(by obtain⟨_,_,_,rfl⟩:=bn3 hl;rfl),PySem.W.mg_of X G a53⟩
 have F54:=z0M (st:=z28) l54 c54 k54
 have D54:Df K mg "_law_deed" z28 ["_law_cell","_law_state","_law_make"] _ _:=⟨F54,F54.binds (ps:=["_law_cell","_law_state","_law_make"]) fun _ _ _ _ _ _ us hl=>(by obtain⟨_,_,_,rfl⟩:=bn3 hl;rfl),PySem.W.mg_of X G a54⟩
 have F55:=z0M (st:=z1a) l55 c55 k55
 have D55:Df K mg "_law_begun" z1a ["_law_script","_law_k","_law_make","_law_font","_law_many"] _ _:=⟨F55,F55.binds (ps:=["_law_script","_law_k","_law_make","_law_font","_law_many"]) fun _ _ _ _ _ _ us hl=>(by obtain⟨_,_,_,_,_,rfl⟩:=bn5 hl;rfl),PySem.W.mg_of X G a55⟩
 have F56:=z0M (st:=z0o) l56 c56 k56
 have D56:Df K mg "_law_not_begun" z0o ["_law_script","_law_make","_law_font"] _ _:=⟨F56,F56.binds (ps:=["_law_script","_law_make","_law_font"]) fun _ _ _ _ _ _ us hl=>(by obtain⟨_,_,_,rfl⟩:=bn3 hl;rfl),PySem.W.mg_of X G a56⟩
 have F57:=z0M (st:=z1b) l57 c57 k57
 have D57:Df K mg "_law_cells" z1b ["_law_script"] _ _:=⟨F57,F57.binds (ps:=["_law_script"]) fun _ _ _ _ _ _ us hl=>(by obtain⟨_,rfl⟩:=bn1 hl;rfl),PySem.W.mg_of X G a57⟩
 have F58:=z0M (st:=z3l) l58 c58 k58
 have D58:Df K mg "law" z3l ["_law_script"] _ _:=⟨F58,F58.binds (ps:=["_law_script"]) fun _ _ _ _ _ _ us hl=>(by obtain⟨_,rfl⟩:=bn1 hl;rfl),PySem.W.mg_of X G a58⟩
 refine⟨PySem.W.fnOf "law" "law" (z0E z3l) (z0D z3l) (z03 z3l) .none kV58 dc58 pm58 an58 cd58 ct58,fun s v=>.of_eq rfl,fun base _ _=>?_⟩
 have E_NoFont:Oo K mg "NoFont" J7:=⟨PySem.W.mg_of X G cm_NoFont,⟨xk_NoFont.1,xk_NoFont.2,fi_NoFont⟩⟩
 have E_NoSign:Oe l.prog w K mg base "NoSign" J4 ["self","sign","at"] 1 (zE6 J4 "sign" "at"):=⟨ia_NoSign,_,PySem.W.mg_of X G cm_NoSign,⟨xk_NoSign.1,xk_NoSign.2,fi_NoSign,it_NoSign⟩,FI_NoSign.binds (ps:=["self","sign","at"]) fun _ _ _ _ _ _ us hl=>(by obtain⟨_,_,_,rfl⟩:=bn3 hl;rfl),zAn Z FI_NoSign⟩
 have E_NoLine:Oo K mg "NoLine" J5:=⟨PySem.W.mg_of X G cm_NoLine,⟨xk_NoLine.1,xk_NoLine.2,fi_NoLine⟩⟩
 have JW:=z8s (P:=l.prog) (w:=w) (base:=base) D1 B
 have JG:=z7V (P:=l.prog) (w:=w) (base:=base) D2 JW B
 have W9:=zAp (P:=l.prog) (w:=w) (base:=base) D3 JG B
 have JT:=z6X (P:=l.prog) (w:=w) (base:=base) D4 B
 have Jz:=z6Z (P:=l.prog) (w:=w) (base:=base) D5 JW JT B
 have WO:=z8z (P:=l.prog) (w:=w) (base:=base) D6 W9 B
 have W1:=z6b (P:=l.prog) (w:=w) (base:=base) D7 Jz WO B
 have WM:=z8t (P:=l.prog) (w:=w) (base:=base) D8 B
 have WS:=zAq (P:=l.prog) (w:=w) (base:=base) D9 B
 have Ff10:=z8u (P:=l.prog) (w:=w) (base:=base) D10 WM WS B
 have We:=D10.ow Ff10
 have JH:=D10.owd Ff10
 have Jj:=z6d (P:=l.prog) (w:=w) (base:=base) D11 B
 have Jy:=z90 (P:=l.prog) (w:=w) (base:=base) D12 B
 have Wd:=zDy (P:=l.prog) (w:=w) (base:=base) D13 JH Jj Jy B
 have W0:=z6f (P:=l.prog) (w:=w) (base:=base) D14 JT B
 have Ff15:=zBn (P:=l.prog) (w:=w) (base:=base) D15 Wd W0 B
 have Wb:=D15.ow Ff15
 have WV:=D15.owd1 Ff15
 have Wf:=D15.owd2 Ff15
 have WY:=zBq (P:=l.prog) (w:=w) (base:=base) D19 B
 have Jv:=z5c (P:=l.prog) (w:=w) (base:=base) D20 B
 have Ff22:=z4R (P:=l.prog) (w:=w) (base:=base) Zo WY F22 B
 have Ji:Om l.prog w K mg base CX0 J0 "scroll" ["self","dx","dy"] [] 2 (z5T J0):=⟨f22,_,_,Zo.k_Window,⟨a22,i22,k22⟩,F22.binds (ps:=["self","dx","dy"]) fun _ _ _ _ _ _ us hl=>(by obtain⟨_,_,_,rfl⟩:=bn3 hl;rfl),.nil,Ff22⟩
 have Ff23:=z3Q (P:=l.prog) (w:=w) (base:=base) Zo Z E_NoLine F23 B
 have JE:Om l.prog w K mg base (CX2 l.prog w) J0 "check_line" ["self","at"] [] 1 (z3y J0 J5):=⟨f23,_,_,Zo.k_Window,⟨a23,i23,k23⟩,F23.binds (ps:=["self","at"]) fun _ _ _ _ _ _ us hl=>(by obtain⟨_,_,rfl⟩:=bn2 hl;rfl),.nil,Ff23⟩
 have Ff25:=z5h (P:=l.prog) (w:=w) (base:=base) Zo Z JE F25 B
 have JI:Om l.prog w K mg base (CX2 l.prog w) J0 "line" ["self","at"] [] 2 (z3z J0 J5):=⟨f25,_,_,Zo.k_Window,⟨a25,i25,k25⟩,F25.binds (ps:=["self","at"]) fun _ _ _ _ _ _ us hl=>(by obtain⟨_,_,rfl⟩:=bn2 hl;rfl),.nil,Ff25⟩
 have Ff27:=z5j (P:=l.prog) (w:=w) (base:=base) Zo F27 B
 have Jw:Om l.prog w K mg base CX0 J0 "spot" ["self"] [] 1 (z5U J0):=⟨f27,_,_,Zo.k_Window,⟨a27,i27,k27⟩,F27.binds (ps:=["self"]) fun _ _ _ _ _ _ us hl=>(by obtain⟨_,rfl⟩:=bn1 hl;rfl),.nil,Ff27⟩
 have WT:=zAs (P:=l.prog) (w:=w) (base:=base) D28 B
 have WU:=zAv (P:=l.prog) (w:=w) (base:=base) D29 W1 WT B
 have Jn:=z4d (P:=l.prog) (w:=w) (base:=base) D30 Z JG WU E_NoFont B
 have Ff31:=z7b (P:=l.prog) (w:=w) (base:=base) Zo Z JG Jn E_NoFont F31 B
 have WF:Oc l.prog w K mg base (CX2 l.prog w) "Font" J3 ["self","pairs","gap"] [] 8 (z7F J3):=⟨f31,_,_,PySem.W.mg_of X G cm_Font,⟨mk_Font,a31,i31,kc_Font⟩,fun s us X hl=>(by obtain⟨_,_,_,rfl⟩:=bn3 (us:=us) (by simpa using hl);exact PySem.W.binds_K X rfl t31 rfl rfl rfl),.nil,Ff31⟩
 have Ff32:=z5Y (P:=l.prog) (w:=w) (base:=base) Zo F32 B
 have JD:Om l.prog w K mg base CX0 J3 "height" ["self"] [] 1 (z3J J3):=⟨f32,_,_,Zo.k_Font,⟨a32,i32,k32⟩,F32.binds (ps:=["self"]) fun _ _ _ _ _ _ us hl=>(by obtain⟨_,rfl⟩:=bn1 hl;rfl),.nil,Ff32⟩
 have Ju:=zBp (P:=l.prog) (w:=w) (base:=base) D17 Zo JD B
 have Ff33:=z5W (P:=l.prog) (w:=w) (base:=base) Zo Z E_NoSign F33 B
 have JC:Om l.prog w K mg base (CX2 l.prog w) J3 "pics_of" ["self","text"] [] 3 (z3I J3 J4):=⟨f33,_,_,Zo.k_Font,⟨a33,i33,k33⟩,F33.binds (ps:=["self","text"]) fun _ _ _ _ _ _ us hl=>(by obtain⟨_,_,rfl⟩:=bn2 hl;rfl),.nil,Ff33⟩
 have JN:=z5Z (P:=l.prog) (w:=w) (base:=base) D16 Zo Z JC B
 have Ff21:=z5e (P:=l.prog) (w:=w) (base:=base) Zo Z JN F21 B
 have JQ:Oc l.prog w K mg base (CX2 l.prog w) "Window" J0 ["self","font","lines","lead","wide","high"] [] 5 (z5S J0 J3 J4):=⟨f21,_,_,PySem.W.mg_of X G cm_Window,⟨mk_Window,a21,i21,kc_Window⟩,F21.binds (ps:=["self","font","lines","lead","wide","high"]) fun _ _ _ _ _ _ us hl=>(by obtain⟨_,_,_,_,_,_,rfl⟩:=bn6 hl;rfl),.nil,Ff21⟩
 have Ff24:=z5f (P:=l.prog) (w:=w) (base:=base) Zo Z Ju Jv JE JD JC F24 B
 have JO:Om l.prog w K mg base (CX2 l.prog w) J0 "edit" ["self","at","text"] [] 4 (z8F J0 J3 J4 J5):=⟨f24,_,_,Zo.k_Window,⟨a24,i24,k24⟩,F24.binds (ps:=["self","at","text"]) fun _ _ _ _ _ _ us hl=>(by obtain⟨_,_,_,rfl⟩:=bn3 hl;rfl),.nil,Ff24⟩
 have Ff34:=z7c (P:=l.prog) (w:=w) (base:=base) Zo Z JH WV JC F34 B
 have WB:Om l.prog w K mg base (CX2 l.prog w) J3 "band" ["self","text","x","wide"] [] 5 (zAf J3 J4):=⟨f34,_,_,Zo.k_Font,⟨a34,i34,k34⟩,F34.binds (ps:=["self","text","x","wide"]) fun _ _ _ _ _ _ us hl=>(by obtain⟨_,_,_,_,rfl⟩:=bn4 hl;rfl),.nil,Ff34⟩
 have Wc:=zD8 (P:=l.prog) (w:=w) (base:=base) D18 Zo Z JH Wb JN Ju JD WB B
 have Ff26:=z4f (P:=l.prog) (w:=w) (base:=base) Zo Z Wc F26 B
 have Jp:Om l.prog w K mg base CX0 J0 "shown" ["self"] [] 7 (z7O J0 J3):=⟨f26,_,_,Zo.k_Window,⟨a26,i26,k26⟩,F26.binds (ps:=["self"]) fun _ _ _ _ _ _ us hl=>(by obtain⟨_,rfl⟩:=bn1 hl;rfl),.nil,Ff26⟩
 have J8:=z8w (P:=l.prog) (w:=w) (base:=base) D35 B
 have JA:=z7R (P:=l.prog) (w:=w) (base:=base) D36 B
 have W7:=z7W (P:=l.prog) (w:=w) (base:=base) D37 J8 B
 have WN:=z8p (P:=l.prog) (w:=w) (base:=base) D38 W7 B
 have Jb:=z8q (P:=l.prog) (w:=w) (base:=base) D39 B
 have WD:=z7T (P:=l.prog) (w:=w) (base:=base) D40 JA B
 have Ja:=z8x (P:=l.prog) (w:=w) (base:=base) D41 B
 have WG:=z7X (P:=l.prog) (w:=w) (base:=base) D42 J8 WN Ja B
 have WH:=z7Z (P:=l.prog) (w:=w) (base:=base) D43 Jb B
 have JP:=z5a (P:=l.prog) (w:=w) (base:=base) D44 B
 have JL:=z91 (P:=l.prog) (w:=w) (base:=base) D45 B
 have WE:=z7d (P:=l.prog) (w:=w) (base:=base) D46 J8 JL B
 have WW:=zAw (P:=l.prog) (w:=w) (base:=base) D47 Zo Jb B
 have JM:=z6g (P:=l.prog) (w:=w) (base:=base) D48 Zo Z JI Jp Jw JA WD WW B
 have Jq:=z4g (P:=l.prog) (w:=w) (base:=base) D49 Zo Ji JA B
 have W3:=z6h (P:=l.prog) (w:=w) (base:=base) D50 Zo Z JO JA JP JL B
 have JZ:=z6i (P:=l.prog) (w:=w) (base:=base) D51 Zo Z JO B
 have W2:=z6j (P:=l.prog) (w:=w) (base:=base) D52 Zo Z JI B
 have Jx:=z5k (P:=l.prog) (w:=w) (base:=base) D53 Zo Z JL JZ W2 B
 have WP:=z92 (P:=l.prog) (w:=w) (base:=base) D54 Zo Z JM Jq W3 Jx B
 have Js:=z7e (P:=l.prog) (w:=w) (base:=base) D55 Zo Z JQ J8 JP WE B
 have Jr:=z4h (P:=l.prog) (w:=w) (base:=base) D56 Zo Z JQ B
 have WI:=z7f (P:=l.prog) (w:=w) (base:=base) D57 J8 B
 exact zDz D58 Zo Z WF J8 Ja WG WH JM WP Js Jr WI B
theorem walk {l:PySem.W.OpenLaw} {q:Program} {loose:List Str} {XP:(Str->Option Value)->Heap->Prop} {YP:World->Heap->Prop} {d:DefRec} {K:Params->PySem.W.Frag} (hn:l.most=some 63) (hdf:d.params.defaults=[])
 (hY:∀(w:World) (h:Heap),YP w h->(K w.params).In h)
 (F:∀(w:World) (mg:Str->Option Value) (fa:Addr) (h:Heap),(K w.params).In h->h.Ns mainGlobals mg->mg d.name=some (.ref fa)->
  ∃fd:FuncData,(∀(s:Shared) (u:Value),BindsTo s fd ⟨[u],[]⟩ [("_law_script",u)])/\∀base:Heap,(K w.params).In base->base.Ns mainGlobals mg->FnOk l.prog w (K w.params) mg base CX0 10 fa fd ["_law_script"] (zB9 (K w.params))):
 PySem.W.WalkO q loose XP YP l.row.toRowW d [] (fun f vs=>PySem.call f vs):=
 L2.walk_of (n:=63) (k:=10) (x:="_law_script") (CX:=fun _=>CX0) (sp:=fun w=>zB9 (K w.params)) hn (by decide) hdf ⟨rfl,by decide,by decide⟩ hY F (fun _ _ a ns hl _ hS=>⟨a,ns,rfl,hS,hl,fun _=>rfl⟩) fun _ _ _ _ _ z=>z
end K36
end
structure PySem.W.Fast:Prop where
 (tw15622132063273169959 tw12847220966233189632 tw7876856258417253184 tw9004762638069658785 tw10140766262076180259 tw6040780496647373029 tw2504108554830964325 tw5035225662983884581 tw10554516878306652807 tw7010927797981950376 tw12401017189059277544 tw12447250718662504457 tw769315766649601002 tw10996919158340092142 tw9523791824686431854 tw17593160298414789231 tw1687409432425161359 tw4349244498405661429 tw2474828345594121710 tw8276545349659810317 tw6952179553036151049 tw9229470939518460338 tw6050801520631921268 tw12030984846491502733 tw11454356975229440060 tw15911585330374864125 tw91982933047450222 tw131027998386691731 tw16355748248310619298 tw8676996349519775464 tw2119117886568808229 tw11859552651347036575 tw12880485359633624265 tw3879619453020935731 tw659466749266806825 tw9949789970472264847 tw675996541379805260 tw1705927416062863879 tw5055859578798935734 tw8717408008187050255 tw12351257432432585174 tw9676577877989396757 tw3525816933148344829 tw2429026893409943805 tw15850619869723901009 tw13322342694376958666 tw15511382760926710234 tw130220136986387467 tw1057742156403878658 tw18437348286288764852 tw8610653741216887814 tw7545763230125097930 tw16311879367680995468 tw14685874822735199781 tw11244920855536286114 tw15889563833509175285 tw4871798357851860541 tw7083257306825175159 tw17876253280921541834 tw17895282211223273806 tw1157501443883473165 tw16117190528592604906 tw13836351913524828138 tw4737301366828914736 tw4365594282843069876 tw13432507616925502928 tw9494784931129909690 tw4941664477854755898 tw13086999369719090201 tw11764327021663304242 tw14067820313075052505 tw7287035186056413286 tw13426159133665043103 tw1059439998666923701 tw15832432947099949848 tw10861626165773080387 tw9081020118917272583 tw4106939797762629372 tw2572430569480418000 tw10672392414794601178 tw124018735313498834 tw1319243212423801228 tw1710832574639512749 tw2258565319467594616 tw16746667883925443061 tw8775659032458243746 tw6092361506096044113 tw9434162700589084036 tw8486757343939767139 tw17466981201595877512 tw15281689256219840932 tw16211146893929819680 tw10981773547399338755 tw8498726052436904011 tw10601894329483753310 tw8694075073505088518 tw16239154540851921198 tw2945006618380691418 tw3269743280150090202 tw11434483268720409844 tw12633135292435440938 tw1126349549174566276 tw9763214389402748081 tw14660088260290506227 tw2428193575687363235 tw10940189576932235281 tw5909706582840281302 tw14622615109249195542 tw13187385399621561708 tw143463228521649705 tw7190080683898884392 tw11785265125735471635 tw684187465077728857 tw16661205793867357134 tw16580563914556110971 tw13090291570092548712 tw15443996174481203545 tw13755870139994121348 tw16629292500005103641 tw7941229626651425987 tw8309801980086202094 tw3780650466081744295 tw14955733838579309551 tw6074519828992505821 tw10832974203236530585 tw9604181801959987067 tw6762515355881083226 tw3314652625013138492 tw15243362371037353685 tw5631320694783247267 tw3046762582755526906 tw13367018362708566555 tw13705177591930819578 tw4536062719037628248 tw16127855130807178924 tw11154275931592835998 tw3083181280274363710 tw14238745884776829217 tw14168156646950885312 tw57157016922160505 tw9492382183820496345 tw17770990452294712437 tw4211027723770999571 tw13158343457734855499 tw3679075522050131955 tw18392759045297647551 tw3118834238162820281 tw6981216101195149314 tw13172765694331253058 tw2642123250361578495 tw6713356429335555577 tw8919741646600042958 tw6817561640525082590 tw11978570199018607794 tw5285253894252694266 tw11041426189792992796 tw15037399626693802844 tw12349025463745115496 tw3670099853650936749 tw18213696913062648571 tw17385501063834067404 tw7775016698952711914 tw4789668184535136891 tw15276494545435788910 tw8828584486058683167 tw8640653402263099756 tw13190377491172397995 tw10100743884827680282 tw8420145768100474676 tw5575064169920186795 tw4582615299051887206 tw18254359729302045929 tw14668243995401340476 tw6776250755076736222 tw8424722114638610173 tw6356688537066714058 tw14227919964987102660 tw6174159464028328008 tw1091502940757510851 tw6186505117073964938 tw4823989884865903379 tw17948113918885208576 tw985667341584326702 tw15866614843445931120 tw10448110288038518426 tw9417392073762529337 tw17546086254476618852 tw12254074733006486371 tw346990750089448164 tw6503420057889723867 tw14760444680633652367 tw2071231530316212484 tw16259806985643226082 tw10135340648997028978 tw11500298605622561262 tw3768893083117852709 tw14627649988751701031 tw7701943726904152246 tw1141328587990547229 tw7552991024545191979:True)
open PySem PySem.W PyProof.Rows
set_option maxRecDepth 100000 in
set_option maxHeartbeats 0 in
theorem PySem.Challenge.cw_glowboard_k36_whole_windows_holds : PySem.Challenge.rw_glowboard_k36_whole_windows.Holds := by
 w_on;o_law;k_head;(case hw=>w_witness2)
 k_fill
 refine K36.walk (l:=PySem.Challenge.rw_glowboard_k36_whole_windows) rfl rfl (fun w h Y=>PySem.W.kIn_of Y) ?F
 case F=>
  intro w mg fa h KX G hmg
  refine' K36.all_mk KX G hmg ?cm_Window ?pg_Window ?hd_Window ?po_Window ?sa_Window ?mk_Window ?kc_Window ?na_Window_font ?na_Window_lines ?na_Window_lead ?na_Window_wide ?na_Window_high ?na_Window_x ?na_Window_y ?cm_Font ?pg_Font ?hd_Font ?po_Font ?sa_Font ?mk_Font ?kc_Font ?na_Font_pics ?na_Font_high ?na_Font_gap ?a1 ?l1 ?c1 ?k1 ?a2 ?l2 ?c2 ?k2 ?a3 ?l3 ?c3 ?k3 ?a4 ?l4 ?c4 ?k4 ?a5 ?l5 ?c5 ?k5 ?a6 ?l6 ?c6 ?k6 ?a7 ?l7 ?c7 ?k7 ?a8 ?l8 ?c8 ?k8 ?a9 ?l9 ?c9 ?k9 ?a10 ?l10 ?c10 ?k10 ?t10 ?a11 ?l11 ?c11 ?k11 ?a12 ?l12 ?c12 ?k12 ?a13 ?l13 ?c13 ?k13 ?a14 ?l14 ?c14 ?k14 ?a15 ?l15 ?c15 ?k15 ?t15 ?a16 ?l16 ?c16 ?k16 ?a17 ?l17 ?c17 ?k17 ?a18 ?l18 ?c18 ?k18 ?a19 ?l19 ?c19 ?k19 ?a20 ?l20 ?c20 ?k20 ?a21 ?l21 ?c21 ?k21 ?i21 ?a22 ?l22 ?c22 ?k22 ?i22 ?a23 ?l23 ?c23 ?k23 ?i23 ?a24 ?l24 ?c24 ?k24 ?i24 ?a25 ?l25 ?c25 ?k25 ?i25 ?a26 ?l26 ?c26 ?k26 ?i26 ?a27 ?l27 ?c27 ?k27 ?i27 ?a28 ?l28 ?c28 ?k28 ?a29 ?l29 ?c29 ?k29 ?a30 ?l30 ?c30 ?k30 ?a31 ?l31 ?c31 ?k31 ?t31 ?i31 ?a32 ?l32 ?c32 ?k32 ?i32 ?a33 ?l33 ?c33 ?k33 ?i33 ?a34 ?l34 ?c34 ?k34 ?i34 ?a35 ?l35 ?c35 ?k35 ?a36 ?l36 ?c36 ?k36 ?a37 ?l37 ?c37 ?k37 ?a38 ?l38 ?c38 ?k38 ?a39 ?l39 ?c39 ?k39 ?a40 ?l40 ?c40 ?k40 ?a41 ?l41 ?c41 ?k41 ?a42 ?l42 ?c42 ?k42 ?a43 ?l43 ?c43 ?k43 ?a44 ?l44 ?c44 ?k44 ?a45 ?l45 ?c45 ?k45 ?a46 ?l46 ?c46 ?k46 ?a47 ?l47 ?c47 ?k47 ?a48 ?l48 ?c48 ?k48 ?a49 ?l49 ?c49 ?k49 ?a50 ?l50 ?c50 ?k50 ?a51 ?l51 ?c51 ?k51 ?a52 ?l52 ?c52 ?k52 ?a53 ?l53 ?c53 ?k53 ?a54 ?l54 ?c54 ?k54 ?a55 ?l55 ?c55 ?k55 ?a56 ?l56 ?c56 ?k56 ?a57 ?l57 ?c57 ?k57 ?a58 ?l58 ?c58 ?k58 ?z1 ?z2 ?z3 ?z4 ?z5 ?z6 ?z7 ?z8 ?z9 ?z10 ?z11 ?z12 ?z13 ?z14 ?z15 ?z16 ?z17 ?z18 ?cm_GlowError ?cm_NoFont ?cm_NoSign ?cm_NoLine ?gs ?gr ?gf ?fi_NoFont ?fi_NoSign ?il_NoSign ?ic_NoSign ?ik_NoSign ?it_NoSign ?ff_NoSign_sign ?ff_NoSign_at ?fi_NoLine ?xall ?kall ?k_tup ?aball
  (case cm_Window=>k_is);(case pg_Window=>k_is);(case hd_Window=>k_is);(case po_Window=>k_is)
  (case sa_Window=>k_is);(case mk_Window=>k_is);(case kc_Window=>k_is);(case na_Window_font=>k_is)
  (case na_Window_lines=>k_is);(case na_Window_lead=>k_is);(case na_Window_wide=>k_is);(case na_Window_high=>k_is)
  (case na_Window_x=>k_is);(case na_Window_y=>k_is);(case cm_Font=>k_is);(case pg_Font=>k_is)
  (case hd_Font=>k_is);(case po_Font=>k_is);(case sa_Font=>k_is);(case mk_Font=>k_is)
  (case kc_Font=>k_is);(case na_Font_pics=>k_is);(case na_Font_high=>k_is);(case na_Font_gap=>k_is)
  (case a1=>k_is);(case l1=>k_is);(case c1=>k_is);(case k1=>k_is)
  (case a2=>k_is);(case l2=>k_is);(case c2=>k_is);(case k2=>k_is)
  (case a3=>k_is);(case l3=>k_is);(case c3=>k_is);(case k3=>k_is)
  (case a4=>k_is);(case l4=>k_is);(case c4=>k_is);(case k4=>k_is)
  (case a5=>k_is);(case l5=>k_is);(case c5=>k_is);(case k5=>k_is)
  (case a6=>k_is);(case l6=>k_is);(case c6=>k_is);(case k6=>k_is)
  (case a7=>k_is);(case l7=>k_is);(case c7=>k_is);(case k7=>k_is)
  (case a8=>k_is);(case l8=>k_is);(case c8=>k_is);(case k8=>k_is)
  (case a9=>k_is);(case l9=>k_is);(case c9=>k_is);(case k9=>k_is)
  (case a10=>k_is);(case l10=>k_is);(case c10=>k_is);(case k10=>k_is)
  (case t10=>k_is);(case a11=>k_is);(case l11=>k_is);(case c11=>k_is)
  (case k11=>k_is);(case a12=>k_is);(case l12=>k_is);(case c12=>k_is)
  (case k12=>k_is);(case a13=>k_is);(case l13=>k_is);(case c13=>k_is)
  (case k13=>k_is);(case a14=>k_is);(case l14=>k_is);(case c14=>k_is)
  (case k14=>k_is);(case a15=>k_is);(case l15=>k_is);(case c15=>k_is)
  (case k15=>k_is);(case t15=>k_is);(case a16=>k_is);(case l16=>k_is)
  (case c16=>k_is);(case k16=>k_is);(case a17=>k_is);(case l17=>k_is)
  (case c17=>k_is);(case k17=>k_is);(case a18=>k_is);(case l18=>k_is)
  (case c18=>k_is);(case k18=>k_is);(case a19=>k_is);(case l19=>k_is)
  (case c19=>k_is);(case k19=>k_is);(case a20=>k_is);(case l20=>k_is)
  (case c20=>k_is);(case k20=>k_is);(case a21=>k_is);(case l21=>k_is)
  (case c21=>k_is);(case k21=>k_is);(case i21=>k_is);(case a22=>k_is)
  (case l22=>k_is);(case c22=>k_is);(case k22=>k_is);(case i22=>k_is)
  (case a23=>k_is);(case l23=>k_is);(case c23=>k_is);(case k23=>k_is)
  (case i23=>k_is);(case a24=>k_is);(case l24=>k_is);(case c24=>k_is)
  (case k24=>k_is);(case i24=>k_is);(case a25=>k_is);(case l25=>k_is)
  (case c25=>k_is);(case k25=>k_is);(case i25=>k_is);(case a26=>k_is)
  (case l26=>k_is);(case c26=>k_is);(case k26=>k_is);(case i26=>k_is)
  (case a27=>k_is);(case l27=>k_is);(case c27=>k_is);(case k27=>k_is)
  (case i27=>k_is);(case a28=>k_is);(case l28=>k_is);(case c28=>k_is)
  (case k28=>k_is);(case a29=>k_is);(case l29=>k_is);(case c29=>k_is)
  (case k29=>k_is);(case a30=>k_is);(case l30=>k_is);(case c30=>k_is)
  (case k30=>k_is);(case a31=>k_is);(case l31=>k_is);(case c31=>k_is)
  (case k31=>k_is);(case t31=>k_is);(case i31=>k_is);(case a32=>k_is)
  (case l32=>k_is);(case c32=>k_is);(case k32=>k_is);(case i32=>k_is)
  (case a33=>k_is);(case l33=>k_is);(case c33=>k_is);(case k33=>k_is)
  (case i33=>k_is);(case a34=>k_is);(case l34=>k_is);(case c34=>k_is)
  (case k34=>k_is);(case i34=>k_is);(case a35=>k_is);(case l35=>k_is)
  (case c35=>k_is);(case k35=>k_is);(case a36=>k_is);(case l36=>k_is)
  (case c36=>k_is);(case k36=>k_is);(case a37=>k_is);(case l37=>k_is)
  (case c37=>k_is);(case k37=>k_is);(case a38=>k_is);(case l38=>k_is)
  (case c38=>k_is);(case k38=>k_is);(case a39=>k_is);(case l39=>k_is)
  (case c39=>k_is);(case k39=>k_is);(case a40=>k_is);(case l40=>k_is)
  (case c40=>k_is);(case k40=>k_is);(case a41=>k_is);(case l41=>k_is)
  (case c41=>k_is);(case k41=>k_is);(case a42=>k_is);(case l42=>k_is)
  (case c42=>k_is);(case k42=>k_is);(case a43=>k_is);(case l43=>k_is)
  (case c43=>k_is);(case k43=>k_is);(case a44=>k_is);(case l44=>k_is)
  (case c44=>k_is);(case k44=>k_is);(case a45=>k_is);(case l45=>k_is)
  (case c45=>k_is);(case k45=>k_is);(case a46=>k_is);(case l46=>k_is)
  (case c46=>k_is);(case k46=>k_is);(case a47=>k_is);(case l47=>k_is)
  (case c47=>k_is);(case k47=>k_is);(case a48=>k_is);(case l48=>k_is)
  (case c48=>k_is);(case k48=>k_is);(case a49=>k_is);(case l49=>k_is)
  (case c49=>k_is);(case k49=>k_is);(case a50=>k_is);(case l50=>k_is)
  (case c50=>k_is);(case k50=>k_is);(case a51=>k_is);(case l51=>k_is)
  (case c51=>k_is);(case k51=>k_is);(case a52=>k_is);(case l52=>k_is)
  (case c52=>k_is);(case k52=>k_is);(case a53=>k_is);(case l53=>k_is)
  (case c53=>k_is);(case k53=>k_is);(case a54=>k_is);(case l54=>k_is)
  (case c54=>k_is);(case k54=>k_is);(case a55=>k_is);(case l55=>k_is)
  (case c55=>k_is);(case k55=>k_is);(case a56=>k_is);(case l56=>k_is)
  (case c56=>k_is);(case k56=>k_is);(case a57=>k_is);(case l57=>k_is)
  (case c57=>k_is);(case k57=>k_is);(case a58=>k_is);(case l58=>k_is)
  (case c58=>k_is);(case k58=>k_is);(case z1=>k_is);(case z2=>k_is)
  (case z3=>k_is);(case z4=>k_is);(case z5=>k_is);(case z6=>k_is)
  (case z7=>k_is);(case z8=>k_is);(case z9=>k_is);(case z10=>k_is)
  (case z11=>k_is);(case z12=>k_is);(case z13=>k_is);(case z14=>k_is)
  (case z15=>k_is);(case z16=>k_is);(case z17=>k_is);(case z18=>k_is)
  (case cm_GlowError=>k_is);(case cm_NoFont=>k_is);(case cm_NoSign=>k_is);(case cm_NoLine=>k_is)
  (case gs=>k_is);(case gr=>k_is);(case gf=>k_is);(case fi_NoFont=>k_is)
  (case fi_NoSign=>k_is);(case il_NoSign=>k_is);(case ic_NoSign=>k_is);(case ik_NoSign=>k_is)
  (case it_NoSign=>k_is);(case ff_NoSign_sign=>k_is);(case ff_NoSign_at=>k_is);(case fi_NoLine=>k_is)
  (case xall=>kernel_rfl);(case kall=>kernel_rfl);(case k_tup=>kit_is);(case aball=>kernel_rfl)
#print axioms PySem.Challenge.cw_glowboard_k36_whole_windows_holds
