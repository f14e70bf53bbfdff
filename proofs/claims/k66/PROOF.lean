import PyProof.Rows.All
import Wide.All
import OpenK.AllK
import Wide.FinOn
import Lean
import PyProof.EqAt
import PyProof.EqKinds
import PyProof.TupleCall
import PyProof.Cells
import PyProof.SumWalkG
import PyProof.EnumStmt
import PyProof.EnumMake
import PyProof.InstStoreFacts
import KE.KDictList
import PySem.Challenge.RW_ohmyard_k66_between
set_option Elab.async false
set_option linter.all false
set_option maxRecDepth 100000
namespace L2
open PySem PySem.Spec PyProof.Rows
abbrev Key:=Sum Int Str
def vI:Key→Value→Bool
 | .inl k,v=>Value.isInt k v
 | .inr x,v=>Value.isStrOf x v
def Yv (w:World):Key→Int
 | .inl k=>hashInt k
 | .inr x=>hashStr w x
theorem dM:∀{k:Key} {v:Value},vI k v=true→(∃i t,k=Sum.inl i∧v=Value.int i t)∨(∃x t,k=Sum.inr x∧v=Value.str x t)
 | .inl i,v,h=>by
  obtain⟨t,e⟩:=Value.isInt_shape (k:=i) (v:=v) h
  exact .inl ⟨i,t,rfl,e⟩
 | .inr x,v,h=>by
  obtain⟨t,e⟩:=Value.isStrOf_shape (x:=x) (v:=v) h
  exact .inr ⟨x,t,rfl,e⟩
theorem Ia (i:Int) (t:Tok):vI (.inl i) (.int i t)=true:=by simp[vI,Value.isInt]
theorem Hw (x:Str) (t:Tok):vI (.inr x) (.str x t)=true:=by simp[vI,Value.isStrOf]
theorem Ul (a b:Int):decide ((Sum.inl a:Key)=Sum.inl b)=(a == b):=by
 by_cases e:a=b
 ·subst e;simp
 ·have h:¬(Sum.inl a:Key)=Sum.inl b:=fun q=>e (Sum.inl.inj q)
  rw[decide_eq_false h]
  exact(beq_eq_false_iff_ne.mpr e).symm
theorem Vi (a b:Str):decide ((Sum.inr a:Key)=Sum.inr b)=decide (a=b):=by
 by_cases e:a=b
 ·subst e;simp
 ·have h:¬(Sum.inr a:Key)=Sum.inr b:=fun q=>e (Sum.inr.inj q)
  rw[decide_eq_false h,decide_eq_false e]
theorem Tq (a:Int) (b:Str):decide ((Sum.inl a:Key)=Sum.inr b)=false:=decide_eq_false (fun q=>nomatch q)
theorem Sz (a:Str) (b:Int):decide ((Sum.inr a:Key)=Sum.inl b)=false:=decide_eq_false (fun q=>nomatch q)
def dP (prog:Program) (w:World):PySem.KeyKind prog w Key where
 is:=vI
 hash:=Yv w
 inj:=fun v a b ha hb=>by
  rcases dM ha with ⟨i,t,rfl,rfl⟩ | ⟨x,t,rfl,rfl⟩
  ·rcases dM hb with ⟨j,u,rfl,e⟩ | ⟨y,u,rfl,e⟩
   ·injection e with e1 _;rw[e1]
   ·exact nomatch e
  ·rcases dM hb with ⟨j,u,rfl,e⟩ | ⟨y,u,rfl,e⟩
   ·exact nomatch e
   ·injection e with e1 _;rw[e1]
 byValue:=fun k v h=>by
  rcases dM h with ⟨i,t,rfl,rfl⟩ | ⟨x,t,rfl,rfl⟩<;>rfl
 pyHash:=fun hv h=>by
  rcases dM hv with ⟨i,t,rfl,rfl⟩ | ⟨x,t,rfl,rfl⟩
  ·exact wpAny_pyHash_int h
  ·exact wpAny_pyHash_str h
 eqBool:=fun hu hv h=>by
  rcases dM hu with ⟨i,t,rfl,rfl⟩ | ⟨x,t,rfl,rfl⟩
  ·rcases dM hv with ⟨j,u,rfl,rfl⟩ | ⟨y,u,rfl,rfl⟩
   ·rw[Ul] at h;exact wpAny_eqBool_int h
   ·rw[Tq] at h;exact SeqAt.EqAt.int_str i t y u _ _ _ _ h
  ·rcases dM hv with ⟨j,u,rfl,rfl⟩ | ⟨y,u,rfl,rfl⟩
   ·rw[Sz] at h;exact SeqAt.EqAt.str_int x t j u _ _ _ _ h
   ·rw[Vi] at h;exact wpAny_eqBool_str h
 «strs»:=fun k x t v h=>by
  rcases dM h with ⟨i,u,rfl,e⟩ | ⟨y,u,rfl,e⟩
  ·exact nomatch e
  ·injection e with e1 _
   subst e1
   cases v<;>rfl
theorem zL (prog:Program) (w:World) (i:Int) (t:Tok):(dP prog w).is (.inl i) (.int i t)=true:=Ia i t
theorem zH (prog:Program) (w:World) (x:Str) (t:Tok):(dP prog w).is (.inr x) (.str x t)=true:=Hw x t
inductive V where
 |non | bl (b:Bool) | int (i:Int) | str (x:Str) | byt (b:Array UInt8) | flt (b:UInt64) | ref (a:Addr) | ty (n:String)
 deriving DecidableEq
def cF:V→Value→Prop
 | .non,u=>u=Value.none
 | .bl b,u=>u=Value.bool b
 | .int i,u=>∃t,u=Value.int i t
 | .str x,u=>∃t,u=Value.str x t
 | .byt b,u=>∃t,u=Value.bytes b t
 | .flt b,u=>∃t,u=Value.float b t
 | .ref a,u=>u=Value.ref a
 | .ty n,u=>u=Value.type n
abbrev bX:List V→List Value→Prop:=Paired cF
theorem bX.length {xs:List V} {us:List Value} (r:bX xs us):xs.length=us.length:=Paired.length r
theorem bX.get:∀{xs:List V} {us:List Value} {i:Nat} {x:V},bX xs us→xs[i]?=some x→∃u,us[i]?=some u∧cF x u
 |_,_,_,_,.nil,e=>by simp at e
 |_,_,0,_,.cons r _,e=>by simp at e;subst e;exact⟨_,rfl,r⟩
 |_,_,i+1,x,.cons _ t,e=>by
  obtain⟨u,h1,h2⟩:=bX.get (i:=i) (x:=x) t (by simpa using e)
  exact⟨u,by simpa using h1,h2⟩
theorem bX.set {x:V} {u:Value} (r:cF x u):∀{xs:List V} {us:List Value} (i:Nat),bX xs us→bX (xs.set i x) (us.set i u)
 |_,_,_,.nil=>.nil
 |_,_,0,.cons _ t=>.cons r t
 |_,_,i+1,.cons q t=>.cons q (bX.set r i t)
theorem bX.append:∀{xs ys:List V} {us ws:List Value},bX xs us→bX ys ws→bX (xs++ys) (us++ws)
 |_,_,_,_,.nil,s=>s
 |_,_,_,_,.cons r t,s=>.cons r (bX.append t s)
theorem bX.take:∀{xs:List V} {us:List Value} (n:Nat),bX xs us→bX (xs.take n) (us.take n)
 |_,_,0,_=>.nil
 |_,_,_+1,.nil=>.nil
 |_,_,n+1,.cons r t=>.cons r (bX.take n t)
theorem bX.drop:∀{xs:List V} {us:List Value} (n:Nat),bX xs us→bX (xs.drop n) (us.drop n)
 |_,_,0,r=>r
 |_,_,_+1,.nil=>.nil
 |_,_,n+1,.cons _ t=>bX.drop n t
def jZ:Option V→Option Value→Prop
 |some v,some u=>cF v u
 |none,none=>True
 |_,_=>False
def KV {κ:Type}:List (κ × V)→List (κ × Value)→Prop:=Paired fun (p:κ × V) (q:κ × Value)=>p.1=q.1∧cF p.2 q.2
def kV:Key→V
 | .inl i=>.int i
 | .inr x=>.str x
inductive HO where
 |lst (xs:List V)
 |tup (xs:List V)
 |dK (kvs:List (Key × V)) | dT (kvs:List (List Key × V))
 |set (S:Int→Bool) (n:Nat)
 |ins (C dx:Addr) (fs:List (Str × V))
 |own (x:Addr)
 |xd (fs:List (Str × V))
 |met (f x:Addr)
 |rng (lo hi:Int)
 |frz (o:Obj) (u:HO)
 |tbl (ps:Array Value)
 |ext (φ:Heap→Prop)
abbrev Hp:=Addr→Option HO
def upd (H:Hp) (a:Addr) (o:HO):Hp:=fun b=>if b=a then some o else H b
theorem aC {H:Hp} {a:Addr} {o:HO}:upd H a o a=some o:=by unfold upd;rw[if_pos rfl]
theorem aW {H:Hp} {a b:Addr} {o:HO} (h:b≠a):upd H a o b=H b:=by unfold upd;rw[if_neg h]
theorem oB {H:Hp} {a:Addr} {o u:HO}:upd (upd H a o) a u=upd H a u:=by
 funext b;unfold upd;split<;>rfl
theorem fY {H:Hp} {a b:Addr} {o u:HO} (h:H a=some o) (h':H b=some u) (d:o≠u):a≠b:=by
 intro e;subst e;rw[h] at h';exact d (Option.some.inj h')
theorem aZ {H:Hp} {a b:Addr} {o:HO} (h:H a=some o) (h':H b=none):a≠b:=by
 intro e;subst e;rw[h] at h';cases h'
section
variable (P:Program) (w:World)
def dI (H:Hp) (h:Heap) (a:Addr):HO→Prop
 | .lst xs=>xs.length≤sizeLine∧∃(its:List Value) (n:Nat),bX xs its∧h.get? a=some { cls:=.type "list",data:=.seq its.toArray n }
 | .tup xs=>xs.length≤sizeLine∧∃its:List Value,bX xs its∧IsTup h a its.toArray
 | .dK kvs=>kvs.length≤sizeLine∧(a == sysModules)=false∧∃vs,KV kvs vs∧h.DictOf (dP P w) a vs
 | .dT kvs=>kvs.length≤sizeLine∧(a == sysModules)=false∧∃xs:List (List Key × Addr × Value),
   Paired (fun (p:List Key × V) (q:List Key × Addr × Value)=>p.1=q.1∧H q.2.1=some (.tup (p.1.map kV))∧cF p.2 q.2.2) kvs xs∧
   ∃o es ep,h.get? a=some o∧o.ExactDict∧o.data=.dict es ep∧es.toList=xs.map (entryOfKey (tupleKind (dP P w)))∧(xs.map (·.1)).Nodup
 | .set S n=>h.SetOf (intKind P w) a S n
 | .ins C dx fs=>H dx=some (.own a)∧fs.length≤1000∧dx≠a∧h.get? a=some (PySem.W.instObj C dx)∧
   ∃mA,h.Ns1 dx mA∧(∀f,jZ (fs.lookup f) (mA f))∧PySem.Within mA (fs.map (·.1))
 | .own _=>∃o,h.get? a=some o
 | .xd fs=>∃mA,h.Ns1 a mA∧∀f,jZ (fs.lookup f) (mA f)
 | .rng lo hi=>∃t u v,h.get? a=some { cls:=.type "range",data:=.fields #[.int lo t,.int hi u,.int 1 v] }
 | .frz o u=>h.get? a=some o∧dI H h a u
 | .tbl ps=>h.get? a=some { cls:=.none,data:=.fields ps }
 | .met f x=>h.get? a=some (PySem.W.methodObj (.ref f) (.ref x))
 | .ext φ=>φ h∧(∃o,h.get? a=some o)∧∀h1 h2:Heap,φ h1→(∀o,h1.get? a=some o→h2.get? a=some o)→φ h2
def HOk (H:Hp) (h:Heap):Prop:=∀a o,H a=some o→dI P w H h a o
end
section
variable {P:Program} {w:World} {H H':Hp} {h h':Heap} {a:Addr} {o:HO}
theorem dI.lt (x:dI P w H h a o):a < h.objs.size:=by
 cases o with
 |lst xs=>obtain⟨_,_,_,_,e⟩:=x;exact Heap.lt_size e
 |tup xs=>obtain⟨_,_,_,p⟩:=x;exact p.lt
 |dK kvs=>obtain⟨_,_,_,_,o,_,_,e,_⟩:=x;exact Heap.lt_size e
 |dT kvs=>obtain⟨_,_,_,_,o,_,_,e,_⟩:=x;exact Heap.lt_size e
 |set S n=>obtain⟨o,_,_,_,e,_⟩:=x;exact Heap.lt_size e
 |ins C dx fs=>obtain⟨_,_,_,e,_⟩:=x;exact Heap.lt_size e
 |own y=>obtain⟨_,e⟩:=x;exact Heap.lt_size e
 |xd fs=>obtain⟨_,⟨_,_,_,e,_⟩,_⟩:=x;exact Heap.lt_size e
 |rng lo hi=>obtain⟨_,_,_,e⟩:=x;exact Heap.lt_size e
 |frz ob u=>obtain⟨e,_⟩:=x;exact Heap.lt_size e
 |tbl ps=>exact Heap.lt_size (show h.get? a=some _ from x)
 |met f y=>exact Heap.lt_size (show h.get? a=some _ from x)
 |ext φ=>obtain⟨_,⟨_,e⟩,_⟩:=x;exact Heap.lt_size e
theorem Paired.mapP {α β:Type} {F G:α→β→Prop}:∀{l₁:List α} {l₂:List β},Paired F l₁ l₂→(∀a b,F a b→G a b)→Paired G l₁ l₂
 |_,_,.nil,_=>.nil
 |_,_,.cons r t,f=>.cons (f _ _ r) (Paired.mapP t f)
theorem dI.stay (x:dI P w H h a o) (k:∀b u,(b=a∨H b=some (.own a))→h.get? b=some u→h'.get? b=some u)
  (ho:∀b,H b=some (.own a)→H' b=some (.own a)) (ht:∀b xs,H b=some (.tup xs)→H' b=some (.tup xs)):dI P w H' h' a o:=by
 induction o with
 |lst xs=>obtain⟨z,its,n,r,e⟩:=x;exact⟨z,its,n,r,k _ _ (.inl rfl) e⟩
 |tup xs=>obtain⟨z,its,r,ob,e,c⟩:=x;exact⟨z,its,r,ob,k _ _ (.inl rfl) e,c⟩
 |dK kvs=>obtain⟨z,y,vs,r,ob,es,ep,e,c⟩:=x;exact⟨z,y,vs,r,ob,es,ep,k _ _ (.inl rfl) e,c⟩
 |dT kvs=>
  obtain⟨z,y,xs,r,ob,es,ep,e,c⟩:=x
  exact⟨z,y,xs,Paired.mapP r fun p q z=>⟨z.1,ht _ _ z.2.1,z.2.2⟩,ob,es,ep,k _ _ (.inl rfl) e,c⟩
 |set S n=>obtain⟨ob,es,ep,t,e,c⟩:=x;exact⟨ob,es,ep,t,k _ _ (.inl rfl) e,c⟩
 |ins C dx fs=>
  obtain⟨d,z,ne,e,mA,⟨od,es,ep,e2,c⟩,r⟩:=x
  exact⟨ho _ d,z,ne,k _ _ (.inl rfl) e,mA,⟨od,es,ep,k _ _ (.inr d) e2,c⟩,r⟩
 |own y=>obtain⟨ob,e⟩:=x;exact⟨ob,k _ _ (.inl rfl) e⟩
 |xd fs=>obtain⟨mA,⟨od,es,ep,e,c⟩,r⟩:=x;exact⟨mA,⟨od,es,ep,k _ _ (.inl rfl) e,c⟩,r⟩
 |rng lo hi=>obtain⟨t,u,v,e⟩:=x;exact⟨t,u,v,k _ _ (.inl rfl) e⟩
 |frz ob u ih=>obtain⟨e,q⟩:=x;exact⟨k _ _ (.inl rfl) e,ih q⟩
 |tbl ps=>
  have e:h.get? a=some { cls:=.none,data:=.fields ps }:=x
  show h'.get? a=some { cls:=.none,data:=.fields ps }
  exact k a _ (.inl rfl) e
 |met f y=>
  have e:h.get? a=some (PySem.W.methodObj (.ref f) (.ref y)):=x
  show h'.get? a=some (PySem.W.methodObj (.ref f) (.ref y))
  exact k a _ (.inl rfl) e
 |ext φ=>obtain⟨p,⟨o,e⟩,st⟩:=x;exact⟨st _ _ p fun o q=>k _ _ (.inl rfl) q,⟨o,k _ _ (.inl rfl) e⟩,st⟩
theorem HOk.lt (x:HOk P w H h) (e:H a=some o):a < h.objs.size:=(x a o e).lt
theorem HOk.fresh (x:HOk P w H h) (e:h.objs.size≤a):H a=none:=by
 cases q:H a with
 |none=>rfl
 |some u=>exact absurd (Nat.lt_of_lt_of_le (x.lt q) e) (Nat.lt_irrefl _)
theorem HOk.kept (x:HOk P w H h) (k:∀b u,h.get? b=some u→h'.get? b=some u):HOk P w H h':=fun a o e=>
 (x a o e).stay (fun b u _ q=>k b u q) (fun _ q=>q) fun _ _ q=>q
theorem HOk.laid (x:HOk P w H h) (k:∀b u,h.get? b=some u→h'.get? b=some u) (hp:h.objs.size≤a) (new:dI P w (upd H a o) h' a o):HOk P w (upd H a o) h':=fun b u e=>by
 have hn:=x.fresh hp
 by_cases hb:b=a
 ·subst hb;rw[aC] at e;cases e;exact new
 ·rw[aW hb] at e
  exact(x b u e).stay (fun c v _ q=>k c v q) (fun c q=>by rw[aW (aZ q hn)];exact q) fun c xs q=>by rw[aW (aZ q hn)];exact q
end
def Rd (H:Hp) (a:Addr) (u:HO):Prop:=H a=some u∨∃o,H a=some (.frz o u)
theorem Rd.ok {P:Program} {w:World} {H:Hp} {h:Heap} {a:Addr} {u:HO} (r:Rd H a u) (x:HOk P w H h):dI P w H h a u:=by
 rcases r with r | ⟨o,r⟩
 ·exact x a u r
 ·obtain⟨_,q⟩:=x a _ r
  exact q
def Mut:Option HO→Prop
 |some (.lst _)=>True
 |some (.dK _)=>True
 |some (.dT _)=>True
 |some (.set _ _)=>True
 |some (.ins _ _ _)=>True
 |some (.ext _)=>True
 |_=>False
section
variable {P:Program} {w:World} {H:Hp} {h h':Heap} {x e:Addr} {o':HO}
theorem HOk.write (ok:HOk P w H h) (mu:Mut (H x)) (he:e=x∨H e=some (.own x)) (k:∀b u,b≠e→h.get? b=some u→h'.get? b=some u) (heo:∃u,h'.get? e=some u)
  (new:dI P w (upd H x o') h' x o'):HOk P w (upd H x o') h':=fun b u q=>by
 have nown:∀c y,H c=some (.own y)→c≠x:=fun c y r z=>by subst z;rw[r] at mu;exact mu
 have ntup:∀c xs,H c=some (.tup xs)→c≠x:=fun c xs r z=>by subst z;rw[r] at mu;exact mu
 by_cases hb:b=x
 ·subst hb;rw[aC] at q;cases q;exact new
 ·rw[aW hb] at q
  by_cases hbe:b=e
  ·have q':H b=some (.own x):=by
    rcases he with z | z
    ·exact absurd (hbe.trans z) hb
    ·rw[hbe];exact z
   rw[q] at q';cases q'
   obtain⟨v,hv⟩:=heo
   exact⟨v,by rw[hbe];exact hv⟩
  ·refine(ok b u q).stay (fun c v hc r=>k c v ?_ r) (fun c r=>by rw[aW (nown c b r)];exact r) fun c xs r=>by rw[aW (ntup c xs r)];exact r
   rcases hc with rfl | hc
   ·exact hbe
   ·rintro rfl
    rcases he with z | z
    ·exact nown c b hc z
    ·rw[hc] at z;cases z;exact hb rfl
end
structure Un (fs ex:List Addr) (H H':Hp) (h h':Heap):Prop where
 keep:∀b o,h.get? b=some o→H b=none→b∉fs→b∉ex→h'.get? b=some o
 slot:∀b o,h.get? b=some o→H b=none→b∈fs→b∉ex→∃sl,h'.get? b=some { o with slots:=sl }
 free:∀b o,h.get? b=some o→H b=none→b∉ex→H' b=none
 there:∀b o,h.get? b=some o→b∉ex→∃o',h'.get? b=some o'
 tups:∀b xs,H b=some (.tup xs)→H' b=some (.tup xs)
 frzs:∀b o u,H b=some (.frz o u)→H' b=some (.frz o u)
 tbls:∀b ps,H b=some (.tbl ps)→∃more,H' b=some (.tbl (ps++more))
section
variable {fs fs' ex ex':List Addr} {H H1 H2:Hp} {h h1 h2 h':Heap} {a x e:Addr} {o:HO}
theorem Un.any (u:Un fs ex H H1 h h1) {b:Addr} {ob:Obj} (q:h.get? b=some ob) (n:H b=none) (hx:b∉ex):∃sl,h1.get? b=some { ob with slots:=sl }:=by
 by_cases hb:b∈fs
 ·exact u.slot b ob q n hb hx
 ·exact⟨ob.slots,u.keep b ob q n hb hx⟩
theorem Un.kept (k:∀b u,h.get? b=some u→h'.get? b=some u):Un fs ex H H h h':=
 ⟨fun b ob q _ _ _=>k b ob q,fun b ob q _ _ _=>⟨ob.slots,k b ob q⟩,fun _ _ _ n _=>n,fun b ob q _=>⟨ob,k b ob q⟩,fun _ _ q=>q,fun _ _ _ q=>q,fun _ ps q=>⟨#[],by rw[q];simp⟩⟩
theorem Un.refl:Un fs ex H H h h:=Un.kept fun _ _ q=>q
theorem Un.laid (k:∀b u,h.get? b=some u→h'.get? b=some u) (hp:h.objs.size≤a) (hn:H a=none):Un fs ex H (upd H a o) h h' where
 keep:=fun b u q _ _ _=>k b u q
 slot:=fun b u q _ _ _=>⟨u.slots,k b u q⟩
 free:=fun b u q n _=>by rw[aW (Nat.ne_of_lt (Nat.lt_of_lt_of_le (Heap.lt_size q) hp))];exact n
 there:=fun b u q _=>⟨u,k b u q⟩
 tups:=fun b xs q=>by rw[aW (aZ q hn)];exact q
 frzs:=fun b u xs q=>by rw[aW (aZ q hn)];exact q
 tbls:=fun b ps q=>⟨#[],by rw[aW (aZ q hn),q];simp⟩
theorem Un.write (mu:Mut (H x)) (he:e=x∨H e=some (.own x)) (k:∀b u,b≠e→h.get? b=some u→h'.get? b=some u) (heo:∃u,h'.get? e=some u):Un fs ex H (upd H x o) h h':=by
 have hx:∀b,H b=none→b≠x:=fun b n z=>by subst z;rw[n] at mu;exact mu
 have hb:∀b,H b=none→b≠e:=fun b n z=>by
  subst z
  rcases he with r | r
  ·exact hx b n r
  ·rw[n] at r;cases r
 have hm:∀b u,H b=some u→¬Mut (some u)→b≠x:=fun b u q nm z=>by subst z;rw[q] at mu;exact nm mu
 refine⟨fun b u q n _ _=>k b u (hb b n) q,fun b u q n _ _=>⟨u.slots,k b u (hb b n) q⟩,fun b u q n _=>by rw[aW (hx b n)];exact n,fun b u q _=>?_,
  fun b xs q=>by rw[aW (hm b _ q fun z=>z)];exact q,fun b u xs q=>by rw[aW (hm b _ q fun z=>z)];exact q,fun b ps q=>⟨#[],by rw[aW (hm b _ q fun z=>z),q];simp⟩⟩
 by_cases hbe:b=e
 ·subst hbe;exact heo
 ·exact⟨u,k b u hbe q⟩
end
def trk (h:Heap) (H:Hp):List Addr:=(List.range h.objs.size).filter fun a=>(H a).isSome
def xN (h:Heap) (H:Hp):Heap:=PySem.W.hideAll h (trk h H)
theorem Hr (h:Heap) (H:Hp):(xN h H).objs.size=h.objs.size:=PySem.W.hideAll_size _ _
theorem Lu {h:Heap} {H:Hp} {b:Addr} {o:Obj} (e:h.get? b=some o) (n:H b=none):(xN h H).get? b=some o:=
 PySem.W.hideAll_get _ e fun hm=>by
  have q:(H b).isSome=true:=(List.mem_filter.mp hm).2
  rw[n] at q;simp at q
theorem Qa {h:Heap} {H:Hp} {b:Addr} {o:Obj} (e:(xN h H).get? b=some o):h.get? b=some o∧H b=none:=by
 have e':h.get? b=some o:=PySem.W.of_hideAll (trk h H) e
 refine⟨e',?_⟩
 cases q:H b with
 |none=>rfl
 |some x=>
  have hm:b∈trk h H:=List.mem_filter.mpr ⟨List.mem_range.mpr (Heap.lt_size e'),by simp[q]⟩
  have z:(xN h H).get? b=none:=PySem.W.hideAll_none (trk h H) hm
  rw[z] at e;cases e
structure Mod (K:PySem.W.Frag) (mg:Str→Option Value) (base:Heap):Prop where
 kin:K.In base
 glob:base.Ns mainGlobals mg
 blt:∃mb,base.Ns builtinsNs mb∧∀x:Str,x≠"__name__"→mb x=bootBuiltins x
 nolimit:base.NoLimit
structure Cx where
 prog:Program
 w:World
 K:PySem.W.Frag
 mg:Str→Option Value
 base:Heap
 A:Around
 N:List Str
 s₀:Shared
 H₀:Hp
 env:Env
 outer:List Env
 stack:List Env
 ex:List Addr
 fn:Str→Bool
 calm:Bool
 pn:List (Addr × Obj)
 xe:Value→Shared→Prop
def frs (l:List Env):List Addr:=l.filterMap (·.frame)
abbrev Cx.fs (X:Cx):List Addr:=frs X.outer
def Vis (sc:Scope) (x:Str):Prop:=sc.names.lookup x=some .local∨sc.names.lookup x=some .cell∨sc.names.lookup x=some .free
def Loc (sc:Scope) (x:Str):Prop:=sc.names.lookup x=some .local∨sc.names.lookup x=some .cell
def Yh (env:Env) (h:Heap) (m:Str→Option Value) (x:Str) (u:Value):Prop:=
 (env.kindOf x=some .local∧m x=some u)∨((env.kindOf x=some .cell∨env.kindOf x=some .free)∧∃c,env.cells.lookup x=some c∧h.IsCell c (some u))
structure Cx.Ok (X:Cx):Prop where
 mod:Mod X.K X.mg X.base
 kind:X.env.scope.kind=.function
 glob:X.env.globals=mainGlobals
 blt:X.env.builtins=builtinsNs
 above:X.s₀.heap.objs.size≤X.env.locals
 inj:∀x y c,X.env.cells.lookup x=some c→X.env.cells.lookup y=some c→x=y
 has:∀x,(X.env.kindOf x=some .cell∨X.env.kindOf x=some .free)→∃c,X.env.cells.lookup x=some c
 cab:∀x c,X.fn x=true→X.env.cells.lookup x=some c→X.s₀.heap.objs.size≤c
 hd:X.calm=true→X.A.handled=none
 frames:X.A.frames=some X.stack
 stk:X.stack=X.outer∨(X.stack=X.env :: X.outer∧X.env.frame=some X.env.locals)
 exf:∀b∈X.ex,b≠X.env.locals∧∀x c,X.env.cells.lookup x=some c→c≠b
 bs:∀b o,X.base.get? b=some o→X.s₀.heap.get? b=some o∧X.H₀ b=none
 bsz:X.base.objs.size≤X.s₀.heap.objs.size
 noex:∀b o,X.base.get? b=some o→b∉X.ex
 exfs:∀b∈X.ex,b∉X.fs
 funs:X.s₀.heap.FunFrames X.base X.outer
 frf:∀b∈X.fs,X.H₀ b=none
structure Inv (X:Cx) (pins:List (Addr × Obj)) (σ:List (Option V)) (H:Hp) (s:Shared):Prop where
 ok:X.Ok
 os:s.os=X.s₀.os
 bare:AllBare s.gens
 base:Un X.fs X.ex X.H₀ H X.s₀.heap s.heap
 loc:∃m,s.heap.Ns X.env.locals m∧∀(i:Nat) (x:Str) (v:V),X.N[i]?=some x→σ[i]?=some (some v)→Vis X.env.scope x→∃u,cF v u∧Yh X.env s.heap m x u
 cell:∀x c,X.env.cells.lookup x=some c→∃v,s.heap.IsCell c v
 free:H X.env.locals=none
 freeC:∀x c,X.env.cells.lookup x=some c→H c=none
 pin:∀p∈X.pn++pins,s.heap.get? p.1=some p.2∧H p.1=none∧p.1≠X.env.locals∧p.1∉X.fs∧∀v,p.2.data≠.cell v
 hok:HOk X.prog X.w H s.heap
 len:σ.length=X.N.length
section
variable {X:Cx} {pins:List (Addr × Obj)} {σ:List (Option V)} {H H':Hp} {s:Shared} {h':Heap}
theorem Cx.Ok.nofr (ok:X.Ok) {b:Addr} {o:Obj} (e:X.base.get? b=some o):b∉X.fs:=fun hb=>by
 have:=(ok.funs.mem hb).1
 rw[e] at this;cases this
theorem Inv.bs (I:Inv X pins σ H s):∀b o,X.base.get? b=some o→s.heap.get? b=some o∧H b=none:=fun b o e=>
 ⟨I.base.keep b o (I.ok.bs b o e).1 (I.ok.bs b o e).2 (I.ok.nofr e) (I.ok.noex b o e),I.base.free b o (I.ok.bs b o e).1 (I.ok.bs b o e).2 (I.ok.noex b o e)⟩
theorem Inv.bk (I:Inv X pins σ H s):∀b o,X.base.get? b=some o→s.heap.get? b=some o:=fun b o e=>(I.bs b o e).1
theorem Inv.mod (I:Inv X pins σ H s):Mod X.K X.mg X.base:=I.ok.mod
theorem Inv.kIn (I:Inv X pins σ H s):X.K.In s.heap:=I.ok.mod.kin.keeps I.bk
theorem Inv.lt (I:Inv X pins σ H s):X.env.locals < s.heap.objs.size:=let ⟨_,hn,_⟩:=I.loc;hn.lt
theorem Inv.sz (I:Inv X pins σ H s):X.s₀.heap.objs.size≤s.heap.objs.size:=Nat.le_trans I.ok.above (Nat.le_of_lt I.lt)
theorem Inv.nofs (I:Inv X pins σ H s) {a:Addr} (h:s.heap.objs.size≤a):a∉X.fs:=fun hb=>by
 obtain⟨_,o,ho,_⟩:=I.ok.funs.mem hb
 exact absurd (Nat.lt_of_lt_of_le (Heap.lt_size ho) (Nat.le_trans I.sz h)) (Nat.lt_irrefl _)
theorem Inv.cne (I:Inv X pins σ H s):∀x c,X.env.cells.lookup x=some c→c≠X.env.locals:=fun x c e z=>by
 obtain⟨v,o,ho,hd⟩:=I.cell x c e
 obtain⟨m,⟨o',es,ep,ho',hd',_⟩,_⟩:=I.loc
 rw[z,ho'] at ho;cases ho;rw[hd'] at hd;cases hd
theorem Inv.funs (I:Inv X pins σ H s):s.heap.FunFrames X.base X.outer:=by
 have all:∀(l:List Env),(∀b∈frs l,b∈X.fs)→X.s₀.heap.FunFrames X.base l→s.heap.FunFrames X.base l:=by
  intro l
  induction l with
  |nil=>intro _ _;trivial
  |cons env r ih=>
   intro hs hl
   obtain⟨hk,⟨L,o,hf,hn,ho,hd⟩,hr⟩:=hl
   have hL:L∈X.fs:=hs L (by unfold frs;rw[List.filterMap_cons,hf];exact List.mem_cons_self)
   obtain⟨sl,e⟩:=I.base.slot L o ho (I.ok.frf L hL) hL fun z=>I.ok.exfs L z hL
   exact⟨hk,⟨L,_,hf,hn,e,hd⟩,ih (fun b hb=>hs b (by unfold frs;rw[List.filterMap_cons,hf];exact List.mem_cons_of_mem _ hb)) hr⟩
 exact all X.outer (fun _ hb=>hb) I.ok.funs
theorem Inv.stack (I:Inv X pins σ H s):s.heap.FunFrames X.base X.stack:=by
 rcases I.ok.stk with e | ⟨e,hf⟩
 ·rw[e];exact I.funs
 ·rw[e]
  obtain⟨m,hn,_⟩:=I.loc
  refine .cons (by rw[I.ok.kind];decide) hf hn ?_ I.funs
  exact Heap.get?_none_of_le (Nat.le_trans I.ok.bsz I.ok.above)
theorem Inv.stkSub (I:Inv X pins σ H s):∀b∈frs X.stack,b∈X.env.locals :: X.fs:=fun b hb=>by
 rcases I.ok.stk with e | ⟨e,hf⟩
 ·rw[e] at hb;exact List.mem_cons_of_mem _ hb
 ·rw[e] at hb
  unfold frs at hb
  rw[List.filterMap_cons,hf] at hb
  exact hb
theorem Inv.stkFree (I:Inv X pins σ H s):∀b∈frs X.stack,H b=none:=fun b hb=>by
 rcases List.mem_cons.mp (I.stkSub b hb) with e | hb
 ·rw[e];exact I.free
 ·obtain⟨_,o,ho,_⟩:=I.ok.funs.mem hb
  exact I.base.free b o ho (I.ok.frf b hb) fun z=>I.ok.exfs b z hb
theorem Inv.step {g':Array GenState} {t':Nat} {d':Drawn} {ch:List Addr} (I:Inv X pins σ H s)
  (hch:∀b∈ch,(b∈X.ex∨X.s₀.heap.objs.size≤b)∧b≠X.env.locals∧(∀x c,X.env.cells.lookup x=some c→c≠b)∧∀p∈X.pn++pins,p.1≠b)
  (keep:∀b o,b≠X.env.locals→b∉X.fs→b∉ch→s.heap.get? b=some o→H b=none→h'.get? b=some o)
  (slot:∀b o,b≠X.env.locals→b∈X.fs→b∉ch→s.heap.get? b=some o→H b=none→∃sl,h'.get? b=some { o with slots:=sl }) (free:∀b o,b∉ch→s.heap.get? b=some o→H b=none→H' b=none)
  (there:∀b o,b∉ch→s.heap.get? b=some o→∃o',h'.get? b=some o')
  (tups:∀b xs,H b=some (.tup xs)→H' b=some (.tup xs)) (frzs:∀b o u,H b=some (.frz o u)→H' b=some (.frz o u)) (tbls:∀b ps,H b=some (.tbl ps)→∃more,H' b=some (.tbl (ps++more)))
  (ns:∀m,s.heap.Ns X.env.locals m→h'.Ns X.env.locals m) (hok:HOk X.prog X.w H' h') (hg:AllBare g') :
  Inv X pins σ H' { s with heap:=h',gens:=g',drawn:=d',toks:=t' }:=by
 have neL:∀b o,X.s₀.heap.get? b=some o→b≠X.env.locals:=fun b o e=>Nat.ne_of_lt (Nat.lt_of_lt_of_le (Heap.lt_size e) I.ok.above)
 have neC:∀b o,X.s₀.heap.get? b=some o→b∉X.ex→b∉ch:=fun b o e hx hb=>by
  rcases (hch b hb).1 with z | z
  ·exact hx z
  ·exact absurd (Nat.lt_of_lt_of_le (Heap.lt_size e) z) (Nat.lt_irrefl _)
 have cellK:∀x c,X.env.cells.lookup x=some c→∀v,s.heap.IsCell c v→h'.IsCell c v:=fun x c e v ⟨o,ho,hd⟩=>by
  have nch:c∉ch:=fun z=>(hch c z).2.2.1 x c e rfl
  by_cases hc:c∈X.fs
  ·obtain⟨sl,q⟩:=slot c o (I.cne x c e) hc nch ho (I.freeC x c e)
   exact⟨_,q,hd⟩
  ·exact⟨o,keep c o (I.cne x c e) hc nch ho (I.freeC x c e),hd⟩
 refine⟨I.ok,I.os,hg,⟨fun b o e n hb hx=>?_,fun b o e n hb hx=>?_,fun b o e n hx=>?_,fun b o e hx=>?_,fun b xs e=>tups b xs (I.base.tups b xs e),fun b o xs e=>frzs b o xs (I.base.frzs b o xs e),fun b ps e=>?_⟩,?_,fun x c e=>?_,?_,fun x c e=>?_,fun p hp=>?_,hok,I.len⟩
 ·exact keep b o (neL b o e) hb (neC b o e hx) (I.base.keep b o e n hb hx) (I.base.free b o e n hx)
 ·obtain⟨sl,e1⟩:=I.base.slot b o e n hb hx
  obtain⟨sl',e2⟩:=slot b _ (neL b o e) hb (neC b o e hx) e1 (I.base.free b o e n hx)
  exact⟨sl',e2⟩
 ·obtain⟨o',e1⟩:=I.base.there b o e hx
  exact free b o' (neC b o e hx) e1 (I.base.free b o e n hx)
 ·obtain⟨o',e1⟩:=I.base.there b o e hx
  exact there b o' (neC b o e hx) e1
 ·obtain⟨m1,e1⟩:=I.base.tbls b ps e
  obtain⟨m2,e2⟩:=tbls b _ e1
  exact⟨m1++m2,by rw[e2,Array.append_assoc]⟩
 ·obtain⟨m,hn,hl⟩:=I.loc
  refine⟨m,ns m hn,fun i x v e1 e2 e3=>?_⟩
  obtain⟨u,r,l⟩:=hl i x v e1 e2 e3
  refine⟨u,r,?_⟩
  rcases l with l | ⟨k,c,e,z⟩
  ·exact .inl l
  ·exact .inr ⟨k,c,e,cellK x c e _ z⟩
 ·obtain⟨v,z⟩:=I.cell x c e
  exact⟨v,cellK x c e v z⟩
 ·obtain⟨m,⟨o,_,_,ho,_⟩,_⟩:=I.loc
  exact free _ o (fun z=>(hch _ z).2.1 rfl) ho I.free
 ·obtain⟨v,o,ho,hd⟩:=I.cell x c e
  exact free c o (fun z=>(hch c z).2.2.1 x c e rfl) ho (I.freeC x c e)
 ·obtain⟨e,n,ne,nf,d⟩:=I.pin p hp
  have nch:p.1∉ch:=fun z=>(hch p.1 z).2.2.2 p hp rfl
  exact⟨keep p.1 p.2 ne nf nch e n,free p.1 p.2 nch e n,ne,nf,d⟩
theorem Inv.un {t':Nat} (I:Inv X pins σ H s) (u:Un X.fs [] H H' s.heap h') (hok:HOk X.prog X.w H' h'):Inv X pins σ H' { s with heap:=h',toks:=t' }:=by
 obtain⟨m,⟨o,es,ep,ho,r⟩,_⟩:=id I.loc
 obtain⟨sl,hL⟩:=u.any ho I.free (by simp)
 exact I.step (g':=s.gens) (d':=s.drawn) (ch:=[]) (fun _ z=>nomatch z) (fun b o _ hb _ e n=>u.keep b o e n hb (by simp)) (fun b o _ hb _ e n=>u.slot b o e n hb (by simp)) (fun b o _ e n=>u.free b o e n (by simp)) (fun b o _ e=>u.there b o e (by simp)) u.tups u.frzs u.tbls (fun m' hm=>by
  obtain⟨o',es',ep',ho',r'⟩:=hm
  rw[ho] at ho';cases ho'
  exact⟨_,es',ep',hL,r'⟩) hok I.bare
theorem Inv.call {g':Array GenState} {t':Nat} {d':Drawn} {ch:List Addr} (I:Inv X pins σ H s) (u:Un (frs X.stack) ch H H' s.heap h') (hok:HOk X.prog X.w H' h') (hg:AllBare g')
  (hch:∀b∈ch,(b∈X.ex∨X.s₀.heap.objs.size≤b)∧b≠X.env.locals∧(∀x c,X.env.cells.lookup x=some c→c≠b)∧∀p∈X.pn++pins,p.1≠b) :
  Inv X pins σ H' { s with heap:=h',gens:=g',drawn:=d',toks:=t' }:=by
 obtain⟨m,⟨o,es,ep,ho,r⟩,_⟩:=id I.loc
 obtain⟨sl,hL⟩:=u.any ho I.free fun z=>(hch _ z).2.1 rfl
 exact I.step (ch:=ch) hch (fun b o hL hb hc e n=>u.keep b o e n (fun z=>(List.mem_cons.mp (I.stkSub b z)).elim hL hb) hc) (fun b o _ _ hc e n=>u.any e n hc) (fun b o hc e n=>u.free b o e n hc) (fun b o hc e=>u.there b o e hc) u.tups u.frzs u.tbls (fun m' hm=>by
  obtain⟨o',es',ep',ho',r'⟩:=hm
  rw[ho] at ho';cases ho'
  exact⟨_,es',ep',hL,r'⟩) hok hg
theorem Inv.turned {t':Nat} {it:Addr} (I:Inv X pins σ H s) (k:∀b o,b≠it→s.heap.get? b=some o→h'.get? b=some o) (hn:H it=none) (hL:it≠X.env.locals)
  (h1:it∈X.ex∨X.s₀.heap.objs.size≤it) (h2:∀x c,X.env.cells.lookup x=some c→c≠it) (h3:∀p∈X.pn++pins,p.1≠it):Inv X pins σ H { s with heap:=h',toks:=t' }:=by
 have nit:∀b u,H b=some u→b≠it:=fun b u e z=>by rw[z,hn] at e;cases e
 refine I.step (g':=s.gens) (d':=s.drawn) (ch:=[it]) (fun b hb=>?_) (fun b o _ _ hc e _=>k b o (fun z=>hc (by simp[z])) e) (fun b o _ _ hc e _=>⟨o.slots,k b o (fun z=>hc (by simp[z])) e⟩) (fun _ _ _ _ n=>n)
  (fun b o hc e=>⟨o,k b o (fun z=>hc (by simp[z])) e⟩) (fun _ _ e=>e) (fun _ _ _ e=>e) (fun b ps e=>⟨#[],by rw[e];simp⟩) (fun m hm=>?_) (fun b u e=>?_) I.bare
 ·have e:b=it:=by simpa using hb
  subst e
  exact⟨h1,hL,h2,h3⟩
 ·obtain⟨o,es,ep,ho,r⟩:=hm
  exact⟨o,es,ep,k _ o (Ne.symm hL) ho,r⟩
 ·refine(I.hok b u e).stay (fun c v hc q=>k c v ?_ q) (fun _ q=>q) fun _ _ q=>q
  rcases hc with z | z
  ·rw[z];exact nit b u e
  ·exact nit c _ z
theorem Inv.tok (I:Inv X pins σ H s) (t:Nat):Inv X pins σ H { s with toks:=t }:=I.un (h':=s.heap) (t':=t) Un.refl I.hok
theorem Inv.kept {t':Nat} (I:Inv X pins σ H s) (k:∀b u,s.heap.get? b=some u→h'.get? b=some u):Inv X pins σ H { s with heap:=h',toks:=t' }:=I.un (Un.kept k) (I.hok.kept k)
theorem Inv.laid {a:Addr} {o:HO} {t':Nat} (I:Inv X pins σ H s) (k:∀b u,s.heap.get? b=some u→h'.get? b=some u) (hp:s.heap.objs.size≤a) (new:dI X.prog X.w (upd H a o) h' a o) :
  Inv X pins σ (upd H a o) { s with heap:=h',toks:=t' }:=I.un (Un.laid k hp (I.hok.fresh hp)) (I.hok.laid k hp new)
theorem Inv.write {x e:Addr} {o:HO} {t':Nat} (I:Inv X pins σ H s) (mu:Mut (H x)) (he:e=x∨H e=some (.own x)) (k:∀b u,b≠e→s.heap.get? b=some u→h'.get? b=some u) (heo:∃u,h'.get? e=some u)
  (new:dI X.prog X.w (upd H x o) h' x o):Inv X pins σ (upd H x o) { s with heap:=h',toks:=t' }:=I.un (Un.write mu he k heo) (I.hok.write mu he k heo new)
theorem Inv.weak {σ':List (Option V)} (I:Inv X pins σ H s) (hl:σ'.length=σ.length) (w:∀(i:Nat) v,σ'[i]?=some (some v)→σ[i]?=some (some v)):Inv X pins σ' H s:=
 ⟨I.ok,I.os,I.bare,I.base,let ⟨m,hn,hl'⟩:=I.loc;⟨m,hn,fun i x v e1 e2 e3=>hl' i x v e1 (w i v e2) e3⟩,I.cell,I.free,I.freeC,I.pin,I.hok,hl.trans I.len⟩
theorem Inv.pins_of {pins':List (Addr × Obj)} (I:Inv X pins σ H s) (h:∀p∈pins',s.heap.get? p.1=some p.2∧H p.1=none∧p.1≠X.env.locals∧p.1∉X.fs∧∀v,p.2.data≠.cell v):Inv X pins' σ H s:=
 ⟨I.ok,I.os,I.bare,I.base,I.loc,I.cell,I.free,I.freeC,fun p hp=>(List.mem_append.mp hp).elim (fun z=>I.pin p (List.mem_append_left _ z)) (h p),I.hok,I.len⟩
theorem Ae {N:List Str} (hN:N.Nodup) {i j:Nat} {x:Str} (a:N[i]?=some x) (b:N[j]?=some x):i=j:=by
 obtain⟨h1,e1⟩:=List.getElem?_eq_some_iff.mp a
 obtain⟨h2,e2⟩:=List.getElem?_eq_some_iff.mp b
 exact(List.getElem_inj hN).mp (e1.trans e2.symm)
theorem vZ {M:Model} {A:Around} {E:Value→Shared→Prop} {i:Nat} {x:Str} {v:V} {u:Value} {Q:Unit→Shared→Prop} (I:Inv X pins σ H s) (hN:X.N.Nodup) (hi:X.N[i]?=some x) (hx:Loc X.env.scope x) (r:cF v u)
  (h:∀s',Inv X pins (σ.set i (some v)) H s'→(∃a,Heap.SameBut a s.heap s'.heap∧(a=X.env.locals∨X.env.cells.lookup x=some a))→Q () s') (hf:X.fn x=true∨X.env.scope.names.lookup x=some .local:=by first | exact .inl rfl | exact .inr rfl | assumption):wpAny M A (storeName X.env x u) Q E s:=by
 obtain⟨m,hn,hl⟩:=id I.loc
 have hcls:(X.env.scope.kind == .class || (X.env.scope.kind == .module && X.env.locals != X.env.globals))=false:=by rw[I.ok.kind];rfl
 have hiσ:i < σ.length:=by rw[I.len];exact(List.getElem?_eq_some_iff.mp hi).1
 have cne:=I.cne
 have tracked:∀{a:Addr} {h':Heap},(∃o,s.heap.get? a=some o∧H a=none)→Heap.SameBut a s.heap h'→HOk X.prog X.w H h':=fun {a h'} ha hs b ob e=>by
  obtain⟨_,_,hfree⟩:=ha
  refine(I.hok b ob e).stay (fun c w' hc q=>(hs.2 c ?_).trans q) (fun _ q=>q) fun _ _ q=>q
  rintro rfl
  rcases hc with rfl | hc
  ·rw[hfree] at e;cases e
  ·rw[hfree] at hc;cases hc
 rcases hx with hk | hk
 ·refine wpAny_storeName_local hk hn (fun h' hn' hs=>?_) hcls
  obtain⟨oL,_,_,hoL,_⟩:=id hn
  refine h _ ⟨I.ok,I.os,I.bare,⟨fun b o e n hb hx=>?_,fun b o e n hb hx=>?_,I.base.free,fun b o e hx=>?_,I.base.tups,I.base.frzs,I.base.tbls⟩,⟨_,hn',fun j y v' e1 e2 e3=>?_⟩,fun y c e=>?_,I.free,I.freeC,fun p hp=>?_,tracked ⟨oL,hoL,I.free⟩ hs,by simpa using I.len⟩ ⟨_,hs,.inl rfl⟩
  ·exact(hs.2 b (Nat.ne_of_lt (Nat.lt_of_lt_of_le (Heap.lt_size e) I.ok.above))).trans (I.base.keep b o e n hb hx)
  ·obtain⟨sl,e1⟩:=I.base.slot b o e n hb hx
   exact⟨sl,(hs.2 b (Nat.ne_of_lt (Nat.lt_of_lt_of_le (Heap.lt_size e) I.ok.above))).trans e1⟩
  ·obtain⟨o',e1⟩:=I.base.there b o e hx
   exact⟨o',(hs.2 b (Nat.ne_of_lt (Nat.lt_of_lt_of_le (Heap.lt_size e) I.ok.above))).trans e1⟩
  ·by_cases hj:j=i
   ·subst hj
    rw[hi] at e1;cases e1
    rw[List.getElem?_set_self hiσ] at e2
    cases e2
    exact⟨u,r,.inl ⟨hk,by simp⟩⟩
   ·rw[List.getElem?_set_ne (Ne.symm hj)] at e2
    obtain⟨u',r',q⟩:=hl j y v' e1 e2 e3
    refine⟨u',r',?_⟩
    rcases q with ⟨k,e⟩ | ⟨k,c,e,z⟩
    ·refine .inl ⟨k,?_⟩
     have:y≠x:=fun e=>hj (Ae hN e1 (e ▸ hi))
     simp[this,e]
    ·exact .inr ⟨k,c,e,z.sameBut hs (cne y c e)⟩
  ·obtain⟨w',z⟩:=I.cell y c e
   exact⟨w',z.sameBut hs (cne y c e)⟩
  ·obtain⟨e,n,ne,nf,d⟩:=I.pin p hp
   exact⟨(hs.2 p.1 ne).trans e,n,ne,nf,d⟩
 ·have hfn:X.fn x=true:=by
   rcases hf with z | z
   ·exact z
   ·rw[z] at hk;cases hk
  obtain⟨c,hc⟩:=I.ok.has x (.inl hk)
  obtain⟨w',z⟩:=I.cell x c hc
  refine wpAny_storeName_cell I.ok.kind hk hc z (fun h' hc' hs=>?_)
  obtain⟨oc,hoc,hocd⟩:=id z
  refine h { s with heap:=h' } ⟨I.ok,I.os,I.bare,⟨fun b o e n hb hx=>?_,fun b o e n hb hx=>?_,I.base.free,fun b o e hx=>?_,I.base.tups,I.base.frzs,I.base.tbls⟩,⟨m,hn.sameBut hs (Ne.symm (cne x c hc)),fun j y v' e1 e2 e3=>?_⟩,fun y c' e=>?_,I.free,I.freeC,fun p hp=>?_,tracked ⟨oc,hoc,I.freeC x c hc⟩ hs,by simpa using I.len⟩ ⟨c,hs,.inr hc⟩
  ·exact(hs.2 b (Nat.ne_of_lt (Nat.lt_of_lt_of_le (Heap.lt_size e) (I.ok.cab x c hfn hc)))).trans (I.base.keep b o e n hb hx)
  ·obtain⟨sl,e1⟩:=I.base.slot b o e n hb hx
   exact⟨sl,(hs.2 b (Nat.ne_of_lt (Nat.lt_of_lt_of_le (Heap.lt_size e) (I.ok.cab x c hfn hc)))).trans e1⟩
  ·obtain⟨o',e1⟩:=I.base.there b o e hx
   exact⟨o',(hs.2 b (Nat.ne_of_lt (Nat.lt_of_lt_of_le (Heap.lt_size e) (I.ok.cab x c hfn hc)))).trans e1⟩
  ·by_cases hj:j=i
   ·subst hj
    rw[hi] at e1;cases e1
    rw[List.getElem?_set_self hiσ] at e2
    cases e2
    exact⟨u,r,.inr ⟨.inl hk,c,hc,hc'⟩⟩
   ·rw[List.getElem?_set_ne (Ne.symm hj)] at e2
    obtain⟨u',r',q⟩:=hl j y v' e1 e2 e3
    refine⟨u',r',?_⟩
    rcases q with q | ⟨k,c',e,z'⟩
    ·exact .inl q
    ·refine .inr ⟨k,c',e,z'.sameBut hs ?_⟩
     rintro rfl
     exact hj (Ae hN e1 (I.ok.inj _ _ _ e hc ▸ hi))
  ·by_cases hcc:c'=c
   ·subst hcc;exact⟨_,hc'⟩
   ·obtain⟨w2,z2⟩:=I.cell y c' e
    exact⟨w2,z2.sameBut hs hcc⟩
  ·obtain⟨e,n,ne,nf,d⟩:=I.pin p hp
   refine⟨(hs.2 p.1 ?_).trans e,n,ne,nf,d⟩
   intro q
   rw[q,hoc] at e
   have q':oc=p.2:=Option.some.inj e
   exact d w' (by rw[← q'];exact hocd)
theorem kM {M:Model} {A:Around} {E:Value→Shared→Prop} {i:Nat} {x:Str} {v:V} {u:Value} {Q:Unit→Shared→Prop} (I:Inv X pins σ H s) (hN:X.N.Nodup) (hi:X.N[i]?=some x) (hx:Loc X.env.scope x) (r:cF v u)
  (h:∀s',Inv X pins (σ.set i (some v)) H s'→Q () s') (hf:X.fn x=true∨X.env.scope.names.lookup x=some .local:=by first | exact .inl rfl | exact .inr rfl | assumption):wpAny M A (storeName X.env x u) Q E s:=
 vZ I hN hi hx r (fun s' I' _=>h s' I') hf
theorem Inv.call' {s':Shared} {ch:List Addr} (I:Inv X pins σ H s) (ho:s'.os=s.os) (u:Un (frs X.stack) ch H H' s.heap s'.heap) (hok:HOk X.prog X.w H' s'.heap) (hg:AllBare s'.gens)
  (hch:∀b∈ch,(b∈X.ex∨X.s₀.heap.objs.size≤b)∧b≠X.env.locals∧(∀x c,X.env.cells.lookup x=some c→c≠b)∧∀p∈X.pn++pins,p.1≠b):Inv X pins σ H' s':=by
 obtain⟨h',g',d',t',o'⟩:=s'
 have e:o'=s.os:=ho
 subst e
 exact I.call (g':=g') (t':=t') (d':=d') u hok hg hch
end
abbrev XK:=Value→Option Addr→Hp→Prop
abbrev St:=List (Option V)
abbrev VK:=V→Hp→Prop
abbrev TE:=St→Hp→VK→Prop
abbrev TT:=St→Hp→(Bool→Hp→Prop)→Prop
abbrev TA:=St→Hp→(List V→Hp→Prop)→Prop
structure mC where
 nx:St→Hp→Prop
 rt:VK
 bk:St→Hp→Prop:=fun _ _=>False
 ct:St→Hp→Prop:=fun _ _=>False
abbrev TS:=mC→St→Hp→Prop
def EP (X:Cx) (pins:List (Addr × Obj)) (σ:St) (Q:VK) (u:Value) (s':Shared):Prop:=∃v H',Inv X pins σ H' s'∧cF v u∧Q v H'
def TP (X:Cx) (pins:List (Addr × Obj)) (σ:St) (Q:Bool→Hp→Prop) (b:Bool) (s':Shared):Prop:=∃H',Inv X pins σ H' s'∧Q b H'
def AP (X:Cx) (pins:List (Addr × Obj)) (σ:St) (Q:List V→Hp→Prop) (us:List Value) (s':Shared):Prop:=∃vs H',Inv X pins σ H' s'∧bX vs us∧Q vs H'
def SP (X:Cx) (pins:List (Addr × Obj)) (D:mC) (f:Flow) (s':Shared):Prop:=
 match f with
 | .next=>∃σ' H',Inv X pins σ' H' s'∧D.nx σ' H'
 | .brk=>∃σ' H',Inv X pins σ' H' s'∧D.bk σ' H'
 | .cont=>∃σ' H',Inv X pins σ' H' s'∧D.ct σ' H'
 | .ret u=>∃v σ' H',Inv X pins σ' H' s'∧cF v u∧D.rt v H'
def PE (X:Cx) (e:Expr) (t:TE):Prop:=
 ∀(pins:List (Addr × Obj)) (s:Shared) (σ:St) (H:Hp) (Q:VK),Inv X pins σ H s→t σ H Q→wpAny (model X.prog X.w) X.A (eval e X.env) (EP X pins σ Q) X.xe s
def PT (X:Cx) (e:Expr) (t:TT):Prop:=
 ∀(pins:List (Addr × Obj)) (s:Shared) (σ:St) (H:Hp) (Q:Bool→Hp→Prop),Inv X pins σ H s→t σ H Q→wpAny (model X.prog X.w) X.A (isTrue e X.env (eval e X.env)) (TP X pins σ Q) X.xe s
def PW (X:Cx) (e:Expr) (t:TT):Prop:=
 ∀(whole:Sem Value) (pins:List (Addr × Obj)) (s:Shared) (σ:St) (H:Hp) (Q:Bool→Hp→Prop),Inv X pins σ H s→t σ H Q→wpAny (model X.prog X.w) X.A (isTrue e X.env whole) (TP X pins σ Q) X.xe s
theorem PW.pt {X:Cx} {e:Expr} {t:TT} (h:PW X e t):PT X e t:=h _
def PA (X:Cx) (es:List Expr) (t:TA):Prop:=
 ∀(pos:Pos) (pins:List (Addr × Obj)) (s:Shared) (σ:St) (H:Hp) (Q:List V→Hp→Prop),Inv X pins σ H s→t σ H Q→wpAny (model X.prog X.w) X.A (spliced (backTo pos (starEach es X.env))) (AP X pins σ Q) X.xe s
def PS (X:Cx) (st:Stmt) (t:TS):Prop:=
 ∀(pins:List (Addr × Obj)) (s:Shared) (σ:St) (H:Hp) (D:mC),Inv X pins σ H s→t D σ H→wpAny (model X.prog X.w) X.A (exec st X.env) (SP X pins D) X.xe s
def PSs (X:Cx) (st:List Stmt) (t:TS):Prop:=
 ∀(pins:List (Addr × Obj)) (s:Shared) (σ:St) (H:Hp) (D:mC),Inv X pins σ H s→t D σ H→wpAny (model X.prog X.w) X.A (execs st X.env) (SP X pins D) X.xe s
theorem thn {α:Type} {t:Sem α} {Q Q':α→Shared→Prop} {M:Model} {A:Around} {E:Value→Shared→Prop} {s:Shared} (h:wpAny M A t Q E s) (hQ:∀a s,Q a s→Q' a s):wpAny M A t Q' E s:=wpAny_mono h hQ fun _ _ x=>x
section
variable {X:Cx}
def Qf (i:Nat):TE:=fun σ H Q=>∃v,σ[i]?=some (some v)∧Q v H
def tC (v:V):TE:=fun _ H Q=>Q v H
theorem Ko {i:Nat} {x:Str} {pos:Pos} (hN:X.N[i]?=some x) (hv:Vis X.env.scope x) (hd:(x == ("__debug__":Str))=false:=by decide) (hcd:(x == ("__classdict__":Str))=false:=by decide):PE X (.Name x pos) (Qf i):=by
 intro pins s σ H Q I h
 obtain⟨v,e,h⟩:=h
 obtain⟨m,hn,hl⟩:=I.loc
 obtain⟨u,r,l⟩:=hl i x v hN e hv
 have fin:EP X pins σ Q u s:=⟨v,H,I,r,h⟩
 rcases l with ⟨hk,hm⟩ | ⟨hk,c,hc,hcell⟩
 ·exact wpAny_Name (wpAny_loadName_local I.ok.kind hk hn hm fin) hd
 ·rcases hk with hk | hk
  ·exact wpAny_Name (wpAny_loadName_cell I.ok.kind hk hc hcell fin) hd
  ·exact wpAny_Name (wpAny_loadName_free I.ok.kind hk hc hcell fin hcd) hd
theorem aF {i j pos}:PE X (.Constant (.int i) j pos) (tC (.int i)):=fun _ _ _ H _ I h=>wpAny_Constant_int ⟨.int i,H,I.tok _,⟨_,rfl⟩,h⟩
theorem jW {b j pos}:PE X (.Constant (.bool b) j pos) (tC (.bl b)):=fun _ _ _ H _ I h=>Constant_bool ⟨.bl b,H,I,rfl,h⟩
theorem Uq {j pos}:PE X (.Constant .none j pos) (tC .non):=fun _ _ _ H _ I h=>Constant_none ⟨.non,H,I,rfl,h⟩
theorem cI {x j pos}:PE X (.Constant (.str x) j pos) (tC (.str x)):=fun _ _ _ H _ I h=>Calls.Constant_str ⟨.str x,H,I.tok _,⟨_,rfl⟩,h⟩
def Gl (X:Cx) (x:Str):Prop:=X.env.kindOf x=some .globalImplicit
theorem yI {E:Value→Shared→Prop} {pins:List (Addr × Obj)} {s:Shared} {σ:St} {H:Hp} {x:Str} {u:Value} {pos:Pos} {Q:Value→Shared→Prop} (I:Inv X pins σ H s) (hg:Gl X x) (hm:X.mg x=some u) (h:Q u s)
  (hd:(x == ("__debug__":Str))=false:=by decide):wpAny (model X.prog X.w) X.A (eval (.Name x pos) X.env) Q E s:=
 Calls.Name_function_global I.ok.kind hg (Calls.loadGlobal_global (by rw[I.ok.glob];exact I.mod.glob.keeps I.bk) hm h) hd
theorem jH {E:Value→Shared→Prop} {pins:List (Addr × Obj)} {s:Shared} {σ:St} {H:Hp} {x:Str} {u:Value} {pos:Pos} {Q:Value→Shared→Prop} (I:Inv X pins σ H s) (hg:Gl X x) (hm:X.mg x=none) (hv:bootBuiltins x=some u) (h:Q u s)
  (hn:x≠"__name__":=by decide) (hd:(x == ("__debug__":Str))=false:=by decide):wpAny (model X.prog X.w) X.A (eval (.Name x pos) X.env) Q E s:=by
 obtain⟨mb,h1,h2⟩:=I.mod.blt
 exact Calls.Name_function_global I.ok.kind hg (Calls.loadGlobal_builtin (by rw[I.ok.glob];exact I.mod.glob.keeps I.bk) hm (by rw[I.ok.blt];exact h1.keeps I.bk) ((h2 x hn).trans hv) h) hd
theorem dA {x:Str} {v:V} {u:Value} {pos:Pos} (hg:Gl X x) (hm:X.mg x=some u) (r:cF v u) (hd:(x == ("__debug__":Str))=false:=by decide):PE X (.Name x pos) (tC v):=
 fun _ _ _ H _ I h=>yI I hg hm ⟨v,H,I,r,h⟩ hd
theorem Pq {x:Str} {v:V} {u:Value} {pos:Pos} (hg:Gl X x) (hm:X.mg x=none) (hv:bootBuiltins x=some u) (r:cF v u) (hn:x≠"__name__":=by decide) (hd:(x == ("__debug__":Str))=false:=by decide):PE X (.Name x pos) (tC v):=
 fun _ _ _ H _ I h=>jH I hg hm hv ⟨v,H,I,r,h⟩ hn hd
variable {a b:Expr} {ta tb:TE} {pos:Pos}
def PC (X:Cx) (op:CmpOp) (a b:Expr) (t:TE):Prop:=
 ∀(pins:List (Addr × Obj)) (s:Shared) (σ:St) (H:Hp) (Q:VK),Inv X pins σ H s→t σ H Q→
  wpAny (model X.prog X.w) X.A (eval a X.env) (fun v s₁=>wpAny (model X.prog X.w) X.A (eval b X.env) (fun u s₂=>wpAny (model X.prog X.w) X.A (compareOp op v u) (EP X pins σ Q) X.xe s₂) X.xe s₁) X.xe s
theorem Ma (b:Expr) {op:CmpOp} (h:op≠.In) (h2:op≠.NotIn):behindInMarks op b=false:=by
 have e1:(op == CmpOp.In)=false:=by cases op<;>first | rfl | exact absurd rfl h
 have e2:(op == CmpOp.NotIn)=false:=by cases op<;>first | rfl | exact absurd rfl h2
 cases b<;>simp[behindInMarks,e1,e2]
def Ym (ta:TE):TE:=fun σ H Q=>ta σ H fun x H1=>Q (.bl (decide (x=.non))) H1
theorem cF.none_iff {x:V} {v:Value} (r:cF x v):(v == Value.none)=decide (x=.non):=by
 cases x with
 |non=>cases r;rfl
 |bl _=>cases r;rfl
 |int _=>obtain⟨t,rfl⟩:=r;rfl
 |str _=>obtain⟨t,rfl⟩:=r;rfl
 |byt _=>obtain⟨t,rfl⟩:=r;rfl
 |flt _=>obtain⟨t,rfl⟩:=r;rfl
 |ref _=>cases r;rfl
 |ty _=>cases r;rfl
theorem Da {j pos'} (ha:PE X a ta):PC X .Is a (.Constant .none j pos') (Ym ta):=by
 intro pins s σ H Q I h
 refine thn (ha pins s σ H _ I h) fun v s1 ⟨x,H1,I1,r1,q1⟩=>?_
 exact Constant_none (is_none_gen ⟨.bl _,H1,I1,by rw[r1.none_iff];rfl,q1⟩)
def tB (t:TE):TT:=fun σ H Q=>t σ H fun x H1=>∃c,x=.bl c∧Q c H1
theorem xY {op:CmpOp} {t:TE} (h:PC X op a b t) (h1:behindInMarks op b=false:=by first | exact Ma _ (by decide) (by decide) | rfl):PT X (.Compare a [op] [b] pos) (tB t):=by
 intro pins s σ H Q I hw
 refine wpAny_isTrue_Compare1 (thn (h pins s σ H _ I hw) fun v s1 h1=>thn h1 fun u s2 h2=>thn h2 fun c s3 ⟨x,H1,I1,r1,q1⟩=>?_) h1
 obtain⟨d,rfl,q⟩:=q1
 cases r1
 exact wpAny_truthy_bool ⟨H1,I1,q⟩
theorem dD {e:Expr} {t:TE} (h:PE X e t) (he:∀whole,isTrue e X.env whole=(do let v ← whole;standAt e.pos;holding [v] (truthy v)):=by intro _;rfl):PT X e (tB t):=by
 intro pins s σ H Q I hw
 refine isTrue_plain (thn (h pins s σ H _ I hw) fun v s1 ⟨x,H1,I1,r1,q1⟩=>?_) (he _)
 obtain⟨d,rfl,q⟩:=q1
 cases r1
 exact wpAny_truthy_bool ⟨H1,I1,q⟩
variable {tA tB':TT} {rest:List Expr}
def Yd (t u:TT):TT:=fun σ H Q=>t σ H fun c H1=>if c=true then u σ H1 Q else Q false H1
def tOr (t u:TT):TT:=fun σ H Q=>t σ H fun c H1=>if c=true then Q true H1 else u σ H1 Q
def Yx (t:TT):TT:=fun σ H Q=>t σ H fun c H1=>Q (!c) H1
theorem rA (ha:PT X a tA):PW X (.BoolOp .And [a] pos) tA:=by
 intro wh pins s σ H Q I h
 refine isTrue_and (thn (ha pins s σ H Q I h) fun c s1 e=>?_)
 cases c with
 |true=>exact isTrue_and_nil e
 |false=>exact e
theorem jS (ha:PT X a tA):PW X (.BoolOp .Or [a] pos) tA:=by
 intro wh pins s σ H Q I h
 refine isTrue_or (thn (ha pins s σ H Q I h) fun c s1 e=>?_)
 cases c with
 |false=>exact isTrue_or_nil e
 |true=>exact e
theorem yS (ha:PT X a tA) (hb:PW X (.BoolOp .And (b :: rest) pos) tB'):PW X (.BoolOp .And (a :: b :: rest) pos) (Yd tA tB'):=by
 intro wh pins s σ H Q I h
 refine isTrue_and (thn (ha pins s σ H _ I h) fun c s1 ⟨H1,I1,q1⟩=>?_)
 cases c with
 |true=>exact hb wh pins s1 σ H1 Q I1 q1
 |false=>exact⟨H1,I1,q1⟩
theorem kL (ha:PT X a tA) (hb:PW X (.BoolOp .Or (b :: rest) pos) tB'):PW X (.BoolOp .Or (a :: b :: rest) pos) (tOr tA tB'):=by
 intro wh pins s σ H Q I h
 refine isTrue_or (thn (ha pins s σ H _ I h) fun c s1 ⟨H1,I1,q1⟩=>?_)
 cases c with
 |true=>exact⟨H1,I1,q1⟩
 |false=>exact hb wh pins s1 σ H1 Q I1 q1
theorem fM (ha:PT X a tA):PT X (.UnaryOp .Not a pos) (Yx tA):=by
 intro pins s σ H Q I h
 exact isTrue_not (ha pins s σ H (fun c H1=>Q (!c) H1) I h)
def Vw (ta tb:TE):TE:=fun σ H Q=>ta σ H fun x H1=>∃c,x=.bl c∧if c=true then tb σ H1 Q else Q (.bl false) H1
def Xs (ta:TE):TE:=fun σ H Q=>ta σ H fun x H1=>∃c,x=.bl c∧Q (.bl (!c)) H1
theorem xE {op} {t:TE} (h:PE X a t):PE X (.BoolOp op [a] pos) t:=fun pins s σ H Q I hw=>BoolOp_one (h pins s σ H Q I hw)
theorem sX (ha:PE X a ta) (hb:PE X (.BoolOp .And (b :: rest) pos) tb):PE X (.BoolOp .And (a :: b :: rest) pos) (Vw ta tb):=by
 intro pins s σ H Q I h
 refine BoolOp_and (thn (ha pins s σ H _ I h) fun v s1 ⟨x,H1,I1,r1,q1⟩=>?_)
 obtain⟨c,rfl,q1⟩:=q1
 cases r1
 refine wpAny_truthy_bool ?_
 cases c with
 |true=>exact hb pins s1 σ H1 Q I1 q1
 |false=>exact⟨.bl false,H1,I1,rfl,q1⟩
theorem Tz (ha:PE X a ta):PE X (.UnaryOp .Not a pos) (Xs ta):=by
 intro pins s σ H Q I h
 refine UnaryOp_ (thn (ha pins s σ H _ I h) fun v s1 ⟨x,H1,I1,r1,q1⟩=>?_)
 obtain⟨c,rfl,q1⟩:=q1
 cases r1
 exact not_of (wpAny_truthy_bool ⟨.bl (!c),H1,I1,rfl,q1⟩)
def tIf (t:TT) (ta tb:TE):TE:=fun σ H Q=>t σ H fun c H1=>if c=true then ta σ H1 Q else tb σ H1 Q
theorem oO {c:Expr} (hc:PT X c tA) (ha:PE X a ta) (hb:PE X b tb):PE X (.IfExp c a b pos) (tIf tA ta tb):=by
 intro pins s σ H Q I h
 refine wpAny_IfExp (thn (hc pins s σ H _ I h) fun d s1 ⟨H1,I1,q1⟩=>?_)
 cases d with
 |true=>exact ha pins s1 σ H1 Q I1 q1
 |false=>exact hb pins s1 σ H1 Q I1 q1
end
def SqL (K:PySem.W.Frag) (H:Hp) (a:Addr) (xs:List V):Prop:=
 Rd H a (.lst xs)∨
  ∃(o:Obj) (its:Array Value) (n:Nat),K.lookup a=some o∧o.cls=.type "list"∧o.dict=none∧o.data=.seq its n∧its.size≤sizeLine∧bX xs its.toList
def SqT (K:PySem.W.Frag) (H:Hp) (a:Addr) (xs:List V):Prop:=
 Rd H a (.tup xs)∨
  ∃(o:Obj) (its:Array Value) (n:Nat),K.lookup a=some o∧o.cls=.type "tuple"∧o.data=.seq its n∧its.size≤sizeLine∧bX xs its.toList
def Yu:Value→Option V
 | .none=>some .non
 | .bool b=>some (.bl b)
 | .int i _=>some (.int i)
 | .str x _=>some (.str x)
 | .bytes b _=>some (.byt b)
 | .float b _=>some (.flt b)
 | .ref a=>some (.ref a)
 | .type n=>some (.ty n)
 |_=>none
theorem cF.abs {x:V} {u:Value} (r:cF x u):Yu u=some x:=by
 cases x with
 |non=>cases r;rfl
 |bl _=>cases r;rfl
 |int _=>obtain⟨t,rfl⟩:=r;rfl
 |str _=>obtain⟨t,rfl⟩:=r;rfl
 |byt _=>obtain⟨t,rfl⟩:=r;rfl
 |flt _=>obtain⟨t,rfl⟩:=r;rfl
 |ref _=>cases r;rfl
 |ty _=>cases r;rfl
theorem cF.inj {x y:V} {u:Value} (r:cF x u) (q:cF y u):x=y:=Option.some.inj (r.abs.symm.trans q.abs)
theorem bX.inj:∀{xs ys:List V} {us:List Value},bX xs us→bX ys us→xs=ys
 |_,_,_,.nil,.nil=>rfl
 |_,_,_,.cons r t,.cons r' t'=>by rw[r.inj r',bX.inj t t']
section
variable {X:Cx} {pins:List (Addr × Obj)} {σ:St} {H:Hp} {s:Shared} {a:Addr} {xs ys:List V}
theorem SqL.of {K:PySem.W.Frag} (h:H a=some (.lst xs)):SqL K H a xs:=.inl (.inl h)
theorem SqT.of {K:PySem.W.Frag} (h:H a=some (.tup xs)):SqT K H a xs:=.inl (.inl h)
theorem Inv.list (I:Inv X pins σ H s) (h:SqL X.K H a xs):∃its:List Value,bX xs its∧PlainL s.heap a its.toArray∧xs.length≤sizeLine:=by
 rcases h with h | ⟨o,its,n,hk,hc,hd,hs,hz,r⟩
 ·obtain⟨z,its,n,r,e⟩:=h.ok I.hok
  exact⟨its,r,⟨_,n,e,rfl,rfl,rfl⟩,z⟩
 ·refine⟨its.toList,r,⟨o,n,I.kIn a o hk,hc,hd,by simpa using hs⟩,?_⟩
  have e:=r.length
  simp only[Array.length_toList] at e
  omega
theorem Inv.tuple (I:Inv X pins σ H s) (h:SqT X.K H a xs):∃its:List Value,bX xs its∧IsTup s.heap a its.toArray∧xs.length≤sizeLine:=by
 rcases h with h | ⟨o,its,n,hk,hc,hs,hz,r⟩
 ·obtain⟨z,its,r,p⟩:=h.ok I.hok
  exact⟨its,r,p,z⟩
 ·refine⟨its.toList,r,⟨o,I.kIn a o hk,hc,n,by simpa using hs⟩,?_⟩
  have e:=r.length
  simp only[Array.length_toList] at e
  omega
theorem Inv.list_inj (I:Inv X pins σ H s) (h:SqL X.K H a xs) (h':SqL X.K H a ys):xs=ys:=by
 obtain⟨its,r,⟨o,n,e,_,_,d⟩,_⟩:=I.list h
 obtain⟨its',r',⟨o',n',e',_,_,d'⟩,_⟩:=I.list h'
 rw[e] at e';cases e'
 rw[d] at d'
 injection d' with d1 _
 have:its=its':=by simpa using congrArg Array.toList d1
 subst this
 exact r.inj r'
theorem Inv.tuple_inj (I:Inv X pins σ H s) (h:SqT X.K H a xs) (h':SqT X.K H a ys):xs=ys:=by
 obtain⟨its,r,⟨o,e,_,n,d⟩,_⟩:=I.tuple h
 obtain⟨its',r',⟨o',e',_,n',d'⟩,_⟩:=I.tuple h'
 rw[e] at e';cases e'
 rw[d] at d'
 injection d' with d1 _
 have:its=its':=by simpa using congrArg Array.toList d1
 subst this
 exact r.inj r'
end
abbrev Cx.wish (X:Cx) (E:Value→Shared→Prop):Cx:={ X with xe:=E }
abbrev Cx.nox (X:Cx):Cx:=X.wish fun _ _=>False
theorem Cx.Ok.wish {X:Cx} (ok:X.Ok) (E:Value→Shared→Prop):(X.wish E).Ok:=
 ⟨ok.mod,ok.kind,ok.glob,ok.blt,ok.above,ok.inj,ok.has,ok.cab,ok.hd,ok.frames,ok.stk,ok.exf,ok.bs,ok.bsz,ok.noex,ok.exfs,ok.funs,ok.frf⟩
theorem Cx.Ok.unwish {X:Cx} {E:Value→Shared→Prop} (ok:(X.wish E).Ok):X.Ok:=
 ⟨ok.mod,ok.kind,ok.glob,ok.blt,ok.above,ok.inj,ok.has,ok.cab,ok.hd,ok.frames,ok.stk,ok.exf,ok.bs,ok.bsz,ok.noex,ok.exfs,ok.funs,ok.frf⟩
section
variable {X:Cx} {pins:List (Addr × Obj)} {σ:St} {H:Hp} {s:Shared} {E:Value→Shared→Prop}
theorem Inv.wish (I:Inv X pins σ H s) (E:Value→Shared→Prop):Inv (X.wish E) pins σ H s:=⟨I.ok.wish E,I.os,I.bare,I.base,I.loc,I.cell,I.free,I.freeC,I.pin,I.hok,I.len⟩
theorem Inv.unwish (I:Inv (X.wish E) pins σ H s):Inv X pins σ H s:=⟨I.ok.unwish,I.os,I.bare,I.base,I.loc,I.cell,I.free,I.freeC,I.pin,I.hok,I.len⟩
theorem SP.unwish {D:mC} {f:Flow} {s':Shared} (h:SP (X.wish E) pins D f s'):SP X pins D f s':=by
 cases f with
 |next=>obtain⟨σ',H',I,q⟩:=h;exact⟨σ',H',I.unwish,q⟩
 |brk=>obtain⟨σ',H',I,q⟩:=h;exact⟨σ',H',I.unwish,q⟩
 |cont=>obtain⟨σ',H',I,q⟩:=h;exact⟨σ',H',I.unwish,q⟩
 |ret u=>obtain⟨v,σ',H',I,r,q⟩:=h;exact⟨v,σ',H',I.unwish,r,q⟩
theorem PSs.nox {st:List Stmt} {t:TS} (h:PSs X.nox st t):PSs X st t:=fun pins s σ H D I hw=>
 wpAny_mono (h pins s σ H D (I.wish _) hw) (fun _ _ q=>q.unwish) fun _ _ z=>False.elim z
end
section
variable {X:Cx} {st:Stmt} {rest:List Stmt} {t u:TS} {e:Expr} {te:TE} {pos:Pos}
def Xy:TS:=fun D σ H=>D.nx σ H
def iO (t u:TS):TS:=fun D σ H=>t { D with nx:=u D } σ H
theorem bK:PSs X [] Xy:=fun _ _ σ H _ I h=>wpAny_execs_nil ⟨σ,H,I,h⟩
theorem aB (h1:PS X st t) (h2:PSs X rest u):PSs X (st :: rest) (iO t u):=by
 intro pins s σ H D I h
 refine wpAny_execs_cons (thn (h1 pins s σ H { D with nx:=u D } I h) fun f s1 q=>?_)
 cases f with
 |next=>
  obtain⟨σ',H',I',q⟩:=q
  exact h2 pins s1 σ' H' D I' q
 |ret v=>exact q
 |brk=>exact q
 |cont=>exact q
theorem aG (h1:PS X st t):PSs X [st] t:=by
 intro pins s σ H D I h
 refine wpAny_execs_cons (thn (h1 pins s σ H D I h) fun f s1 q=>?_)
 cases f with
 |next=>exact wpAny_execs_nil q
 |ret v=>exact q
 |brk=>exact q
 |cont=>exact q
def Xh:TS:=fun D σ H=>D.ct σ H
theorem An:PS X (.Continue pos) Xh:=fun _ _ σ H _ I h=>wpAny_Continue ⟨σ,H,I,h⟩
theorem Inv.quiet {pins:List (Addr × Obj)} {σ:St} {H:Hp} {s:Shared} (I:Inv X pins σ H s):interactive X.env=false:=by simp[interactive,I.ok.kind]
def Ws (te:TE):TS:=fun D σ H=>te σ H fun _ H1=>D.nx σ H1
theorem bQ (he:PE X e te) (hs:swapsWith e none pos.line X.env=pure false:=by rfl):PS X (.Expr e pos) (Ws te):=by
 intro pins s σ H D I h
 exact wpAny_Expr_any (thn (he pins s σ H _ I h) fun v s1 ⟨x,H1,I1,r1,q1⟩=>⟨σ,H1,I1,q1⟩) I.quiet hs
def Yl (te:TE):TS:=fun D σ H=>te σ H D.rt
theorem aY (he:PE X e te):PS X (.Return (some e) pos) (Yl te):=by
 intro pins s σ H D I h
 exact wpAny_Return_some (thn (he pins s σ H _ I h) fun v s1 ⟨x,H1,I1,r1,q1⟩=>⟨x,σ,H1,I1,r1,q1⟩)
def Yf (c:TT) (t u:TS):TS:=fun D σ H=>c σ H fun b H1=>if b=true then t D σ H1 else u D σ H1
theorem cD {c:Expr} {a b:List Stmt} {tc:TT} (hc:PT X c tc) (ha:PSs X a t) (hb:PSs X b u):PS X (.If c a b pos) (Yf tc t u):=by
 intro pins s σ H D I h
 refine wpAny_If (thn (hc pins s σ H _ I h) fun d s1 ⟨H1,I1,q1⟩=>?_)
 cases d with
 |true=>exact ha pins s1 σ H1 D I1 q1
 |false=>exact hb pins s1 σ H1 D I1 q1
def Ki:TS:=fun _ _ _=>False
theorem fE:PS X st Ki:=fun _ _ _ _ _ _ h=>h.elim
theorem Id {sts:List Stmt}:PSs X sts Ki:=fun _ _ _ _ _ _ h=>h.elim
end
abbrev TG:=V→St→Hp→(St→Hp→Prop)→Prop
abbrev TGs:=List V→St→Hp→(St→Hp→Prop)→Prop
def PG (X:Cx) (target:Expr) (t:TG):Prop:=
 ∀(pins:List (Addr × Obj)) (s:Shared) (σ:St) (H:Hp) (v:V) (u:Value) (Q:St→Hp→Prop),Inv X pins σ H s→cF v u→t v σ H Q→
  wpAny (model X.prog X.w) X.A (assign target X.env u) (fun _ s'=>∃σ' H',Inv X pins σ' H' s'∧Q σ' H') X.xe s
def PGs (X:Cx) (ts:List Expr) (t:TGs):Prop:=
 ∀(pins:List (Addr × Obj)) (s:Shared) (σ:St) (H:Hp) (vs:List V) (us:List Value) (Q:St→Hp→Prop),Inv X pins σ H s→bX vs us→t vs σ H Q→
  wpAny (model X.prog X.w) X.A (assignInOrder ((assignEach ts X.env).map (·.2)) us) (fun _ s'=>∃σ' H',Inv X pins σ' H' s'∧Q σ' H') X.xe s
abbrev Tj:=V→V→V→Hp→(Hp→Prop)→Prop
def Xx (X:Cx) (t:Tj):Prop:=
 ∀(pins:List (Addr × Obj)) (s:Shared) (σ:St) (H:Hp) (o i v:V) (ov iv u:Value) (Q:Hp→Prop),Inv X pins σ H s→cF o ov→cF i iv→cF v u→t o i v H Q→
  wpAny (model X.prog X.w) X.A (setItem ov iv u) (fun _ s'=>∃H',Inv X pins σ H' s'∧Q H') X.xe s
abbrev TIp:=V→V→Hp→VK→Prop
def PIp (X:Cx) (op:Operator) (t:TIp):Prop:=
 ∀(pins:List (Addr × Obj)) (s:Shared) (σ:St) (H:Hp) (x y:V) (v u:Value) (Q:VK),Inv X pins σ H s→cF x v→cF y u→t x y H Q→
  wpAny (model X.prog X.w) X.A (inplaceOp op v u) (EP X pins σ Q) X.xe s
section
variable {X:Cx} {pos:Pos}
def kT (i:Nat):TG:=fun v σ H Q=>Q (σ.set i (some v)) H
theorem bF {i:Nat} {x:Str} (hN:X.N.Nodup) (hi:X.N[i]?=some x) (hx:Loc X.env.scope x) (hf:X.fn x=true∨X.env.scope.names.lookup x=some .local:=by first | exact .inl rfl | exact .inr rfl | assumption):PG X (.Name x pos) (kT i):=by
 intro pins s σ H v u Q I r h
 exact wpAny_assign_Name (kM I hN hi hx r (fun s' I'=>⟨_,H,I',h⟩) hf)
def Mz:TGs:=fun vs σ H Q=>vs=[]∧Q σ H
def oI (t:TG) (u:TGs):TGs:=fun vs σ H Q=>∃v r,vs=v :: r∧t v σ H fun σ' H'=>u r σ' H' Q
theorem iR:PGs X [] Mz:=by
 intro pins s σ H vs us Q I r h
 obtain⟨e,h⟩:=h
 subst e
 cases r
 exact assignInOrder_nil ⟨σ,H,I,h⟩
theorem cJ {e:Expr} {es:List Expr} {t:TG} {u:TGs} (h1:PG X e t) (h2:PGs X es u)
  (hs:(assignEach (e :: es) X.env).map (·.2)=assign e X.env :: (assignEach es X.env).map (·.2):=by rfl):PGs X (e :: es) (oI t u):=by
 intro pins s σ H vs us Q I r h
 obtain⟨v,vr,e1,h⟩:=h
 subst e1
 cases r with
 |cons r rr=>
  rw[hs]
  refine assignInOrder_cons (thn (h1 pins s σ H _ _ _ I r h) fun _ s1 ⟨σ1,H1,I1,q1⟩=>?_)
  exact h2 pins s1 σ1 H1 _ _ Q I1 rr q1
def Nq (K:PySem.W.Frag) (n:Nat) (t:TGs):TG:=fun v σ H Q=>∃a xs,v=.ref a∧SqT K H a xs∧xs.length=n∧t xs σ H Q
theorem kX {es:List Expr} {k:Nat} {t:TGs} {n:Nat} (hc:X.calm=true) (h:PGs X es t)
  (hn:(assignEach es X.env).length=n:=by rfl) (hst:(assignEach es X.env).findIdx? (·.1)=none:=by rfl):PG X (.Tuple es k pos) (Nq X.K n t):=by
 intro pins s σ H v u Q I r hw
 obtain⟨a,xs,e1,hq,hl,hw⟩:=hw
 subst e1
 cases r
 obtain⟨its,rv,ht,hz⟩:=I.tuple hq
 refine assign_Tuple_tuple (I.ok.hd hc) ht (by simp[hn,← hl,rv.length]) hst fun h' hx=>?_
 have I1:Inv X pins σ H { s with heap:=h' }:=I.kept (t':=s.toks) fun b o e=>hx b o (Nat.ne_of_lt (Heap.lt_size e)) e
 exact h pins _ σ H xs _ Q I1 (by simpa using rv) hw
def Yg (to ti:TE) (t:Tj):TG:=fun v σ H Q=>to σ H fun o H1=>ti σ H1 fun i H2=>t o i v H2 fun H3=>Q σ H3
theorem pA {o i:Expr} {to ti:TE} {t:Tj} (ho:PE X o to) (hi:PE X i ti) (hs:Xx X t)
  (ha:∀v,assign (.Subscript o i pos) X.env v=(do
   let ov ← holding [v] (eval o X.env)
   let iv ← holding [v,ov] (eval i X.env)
   standAt pos
   holding [v,ov,iv] (setItem ov iv v)
   release [v,ov,iv] []):=by intro _;rfl):PG X (.Subscript o i pos) (Yg to ti t):=by
 intro pins s σ H v u Q I r h
 rw[ha]
 refine wpAny_bind (wpAny_holding (thn (ho pins s σ H _ I h) fun ov s1 ⟨x,H1,I1,r1,q1⟩=>?_))
 refine wpAny_bind (wpAny_holding (thn (hi pins s1 σ H1 _ I1 q1) fun iv s2 ⟨y,H2,I2,r2,q2⟩=>?_))
 refine wpAny_bind (wpAny_standAt (wpAny_bind (wpAny_holding (thn (hs pins s2 σ H2 x y v ov iv u _ I2 r1 r2 r q2) fun _ s3 ⟨H3,I3,q3⟩=>?_))))
 exact wpAny_release ⟨σ,H3,I3,q3⟩
def Sr (te:TE) (g:TG):TS:=fun D σ H=>te σ H fun x H1=>g x σ H1 D.nx
theorem pJ {tg e:Expr} {te:TE} {g:TG} (he:PE X e te) (hg:PG X tg g) (hs:swapsWithSole [tg] e pos.line X.env=pure false:=by rfl) (hw:swappedStores [tg] e X.env=pure none:=by rfl)
  (h1:(assignEach [tg] X.env).map (·.2)=[assign tg X.env]:=by rfl):PS X (.Assign [tg] e pos) (Sr te g):=by
 intro pins s σ H D I h
 refine wpAny_Assign_stores (thn (he pins s σ H _ I h) fun v s1 ⟨x,H1,I1,r1,q1⟩=>?_) hs hw
 rw[h1]
 exact thn (hg pins s1 σ H1 x v _ I1 r1 q1) fun _ s2 q=>q
theorem aT {i:Nat} {x:Str} {e:Expr} {te:TE} {pos':Pos} (hN:X.N.Nodup) (hi:X.N[i]?=some x) (hx:Loc X.env.scope x) (he:PE X e te) (hs:swapsWith e (some (.Name x pos')) pos.line X.env=pure false:=by rfl) (hf:X.fn x=true∨X.env.scope.names.lookup x=some .local:=by first | exact .inl rfl | exact .inr rfl | assumption) :
  PS X (.Assign [.Name x pos'] e pos) (Sr te (kT i)):=by
 intro pins s σ H D I h
 refine wpAny_Assign_Name (thn (he pins s σ H _ I h) fun v s1 ⟨y,H1,I1,r1,q1⟩=>?_) hs
 exact kM I1 hN hi hx r1 (fun s2 I2=>⟨_,H1,I2,q1⟩) hf
def Yz (i j:Nat) (ta:TA):TS:=fun D σ H=>ta σ H fun vs H1=>∃v w,vs=[v,w]∧D.nx ((σ.set i (some v)).set j (some w)) H1
theorem Mw {i j:Nat} {x y:Str} {a b:Expr} {ta:TA} {px py pt:Pos} {kt k2 pt2} (hc:X.calm=true) (hN:X.N.Nodup) (hi:X.N[i]?=some x) (hj:X.N[j]?=some y) (hij:i≠j)
  (hx:X.env.scope.names.lookup x=some .local) (hy:X.env.scope.names.lookup y=some .local) (ha:PA X [a,b] ta)
  (hw:swappedStores [.Tuple [.Name x px,.Name y py] kt pt] (.Tuple [a,b] k2 pt2) X.env=pure (some [x,y]))
  (hs:swapsWithSole [.Tuple [.Name x px,.Name y py] kt pt] (.Tuple [a,b] k2 pt2) pos.line X.env=pure false:=by rfl) :
  PS X (.Assign [.Tuple [.Name x px,.Name y py] kt pt] (.Tuple [a,b] k2 pt2) pos) (Yz i j ta):=by
 intro pins s σ H D I h
 rw[exec_Assign_arm]
 refine wpAny_bind (wpAny_standAt ?_)
 rw[hs]
 refine wpAny_bind (wpAny_pure ?_)
 rw[if_neg (by decide)]
 refine wpAny_bind (Tuple_ (thn (ha _ pins s σ H _ I h) fun us s1 ⟨vs,H1,I1,r1,q1⟩=>?_))
 obtain⟨v,w,e1,q1⟩:=q1
 subst e1
 obtain⟨u1,u2,rfl,rv,rw'⟩:∃u1 u2,us=[u1,u2]∧cF v u1∧cF w u2:=by
  cases r1 with
  |cons p q=>
   cases q with
   |cons p' q'=>
    cases q'
    exact⟨_,_,rfl,p,p'⟩
 refine wpAny_newObj_type ?_ (by show 2≤sizeLine;decide)
 have I2:Inv X pins σ H1 { s1 with heap:=s1.heap.push { cls:=.type "tuple",data:=.seq [u1,u2].toArray } }:=I1.kept (t':=s1.toks) fun b o e=>Heap.get?_push_of_some _ e
 rw[hw]
 refine wpAny_bind (wpAny_pure ?_)
 show wpAny (model X.prog X.w) X.A (do rule "assign.swapped-stores";let items ← unpackItems (.ref s1.heap.objs.size) 2 none;assignInOrder [fun v=>bindName X.env y v,fun v=>bindName X.env x v] items.reverse;pure Flow.next) _ _ _
 refine wpAny_bind (wpAny_rule (wpAny_bind (unpackItems_tuple (items:=#[u1,u2]) (I.ok.hd hc) (IsTup.new s1.heap _) fun h' hx'=>?_)))
 have I3:=I2.kept (h':=h') (t':=s1.toks) fun b o e=>hx' b o (Nat.ne_of_lt (Heap.lt_size e)) e
 show wpAny _ _ (assignInOrder [fun v=>bindName X.env y v,fun v=>bindName X.env x v] [u2,u1] >>= fun _=>pure Flow.next) _ _ _
 refine wpAny_bind (assignInOrder_cons (wpAny_bindName (kM I3 hN hj (.inl hy) rw' (fun s2 I4=>?_) (.inr hy))))
 refine assignInOrder_cons (wpAny_bindName (kM I4 hN hi (.inl hx) rv (fun s3 I5=>assignInOrder_nil (wpAny_pure ?_)) (.inr hx)))
 rw[List.set_comm _ _ (Ne.symm hij)] at I5
 exact⟨_,H1,I5,q1⟩
def Zk (i:Nat) (te:TE) (ti:TIp):TS:=fun D σ H=>∃x,σ[i]?=some (some x)∧te σ H fun y H1=>ti x y H1 fun z H2=>D.nx (σ.set i (some z)) H2
theorem Cs {i:Nat} {x:Str} {e:Expr} {te:TE} {op:Operator} {ti:TIp} {pos':Pos} (hN:X.N.Nodup) (hi:X.N[i]?=some x) (hx:Loc X.env.scope x) (he:PE X e te) (ho:PIp X op ti) (hf:X.fn x=true∨X.env.scope.names.lookup x=some .local:=by first | exact .inl rfl | exact .inr rfl | assumption) :
  PS X (.AugAssign (.Name x pos') op e pos) (Zk i te ti):=by
 intro pins s σ H D I h
 obtain⟨v,e1,h⟩:=h
 obtain⟨m,hn,hl⟩:=I.loc
 have vis:Vis X.env.scope x:=by rcases hx with k | k;exact .inl k;exact .inr (.inl k)
 obtain⟨u,r,l⟩:=hl i x v hi e1 vis
 refine wpAny_AugAssign_Name ?_
 have go:wpAny (model X.prog X.w) X.A (eval e X.env) (fun w s₂=>wpAny (model X.prog X.w) X.A (inplaceOp op u w) (fun r s₃=>wpAny (model X.prog X.w) X.A (storeName X.env x r) (fun _=>SP X pins D .next) X.xe s₃) X.xe s₂) X.xe s:=by
  refine thn (he pins s σ H _ I h) fun w s1 ⟨y,H1,I1,r1,q1⟩=>?_
  refine thn (ho pins s1 σ H1 v y u w _ I1 r r1 q1) fun z s2 ⟨zv,H2,I2,r2,q2⟩=>?_
  exact kM I2 hN hi hx r2 (fun s3 I3=>⟨_,H2,I3,q2⟩) hf
 rcases l with ⟨hk,hm⟩ | ⟨hk,c,hc,hcell⟩
 ·exact wpAny_loadName_local I.ok.kind hk hn hm go
 ·rcases hk with hk | hk
  ·exact wpAny_loadName_cell I.ok.kind hk hc hcell go
  ·rcases hx with k | k
   ·have:X.env.scope.names.lookup x=some .free:=hk
    rw[k] at this;cases this
   ·have:X.env.scope.names.lookup x=some .free:=hk
    rw[k] at this;cases this
def ipI (f:Int→Int→Int):TIp:=fun x y H Q=>∃i j,x=.int i∧y=.int j∧Q (.int (f i j)) H
theorem Cr:PIp X .Add (ipI fun i j=>i+j):=by
 intro pins s σ H x y v u Q I r1 r2 h
 obtain⟨i,j,e1,e2,q⟩:=h
 subst e1;subst e2
 obtain⟨t,rfl⟩:=r1
 obtain⟨t',rfl⟩:=r2
 exact iadd_int ⟨.int _,H,I.tok _,⟨_,rfl⟩,q⟩
def Jj (c:TT) (tb:TS):TS:=fun D σ H=>∃W:Nat→St→Hp→Prop,(∃m,W m σ H)∧∀m σ H,W m σ H→
 c σ H fun b H1=>if b=true then ∃N:St→Hp→Prop,(∀σ' H',N σ' H'→∃m',m' < m∧W m' σ' H')∧tb { D with nx:=N,ct:=N,bk:=D.nx } σ H1 else D.nx σ H1
theorem sV {c:Expr} {body:List Stmt} {tc:TT} {tb:TS} (hp:PassesOwn (model X.prog X.w) X.A X.env X.xe) (hc:PT X c tc) (hb:PSs X body tb):PS X (.While c body [] pos) (Jj tc tb):=by
 intro pins s σ H D I h
 obtain⟨W,⟨m0,w0⟩,turn⟩:=h
 refine wpAny_While (codeAny_whileLoop (fun n s'=>∃σ' H',Inv X pins σ' H' s'∧W n σ' H') ?_ m0 ⟨σ,H,I,w0⟩)
 rintro n s1 ⟨σ1,H1,I1,w1⟩
 refine wpAny_passesOwn hp (thn (hc pins s1 σ1 H1 _ I1 (turn n σ1 H1 w1)) fun b s2 ⟨H2,I2,q2⟩=>?_)
 cases b with
 |true=>
  obtain⟨N,hN,q2⟩:=q2
  rw[if_pos rfl]
  refine wpAny_passesOwn hp (thn (hb pins s2 σ1 H2 _ I2 q2) fun f s3 q3=>?_)
  cases f with
  |next=>
   obtain⟨σ3,H3,I3,n3⟩:=q3
   obtain⟨m',hm,w3⟩:=hN σ3 H3 n3
   exact⟨m',hm,σ3,H3,I3,w3⟩
  |cont=>
   obtain⟨σ3,H3,I3,n3⟩:=q3
   obtain⟨m',hm,w3⟩:=hN σ3 H3 n3
   exact⟨m',hm,σ3,H3,I3,w3⟩
  |brk=>exact q3
  |ret v=>exact q3
 |false=>
  rw[if_neg Bool.false_ne_true]
  exact wpAny_execs_nil ⟨σ1,H2,I2,q2⟩
end
structure It where
 go:Nat→Hp→Prop
 yld:Nat→Hp→V→Hp→Prop
 stop:Nat→Hp→Prop
def mD (X:Cx) (pins:List (Addr × Obj)) (H:Hp) (b:Addr):Prop:=
 H b=none∧b≠X.env.locals∧b∉X.fs∧(b∈X.ex∨X.s₀.heap.objs.size≤b)∧(∀x c,X.env.cells.lookup x=some c→c≠b)∧∀p∈X.pn++pins,p.1≠b
theorem Inv.fpOk {X:Cx} {pins:List (Addr × Obj)} {σ:St} {H H':Hp} {s:Shared} {b:Addr} (I:Inv X pins σ H s) (hb:s.heap.objs.size≤b) (hn:H' b=none):mD X pins H' b:=by
 refine⟨hn,Nat.ne_of_gt (Nat.lt_of_lt_of_le I.lt hb),I.nofs hb,.inr (Nat.le_trans I.sz hb),fun x c e z=>?_,fun p hp z=>?_⟩
 ·obtain⟨v,q⟩:=I.cell x c e
  exact absurd (Nat.lt_of_lt_of_le q.lt (by rw[z];exact hb)) (Nat.lt_irrefl _)
 ·exact absurd (Nat.lt_of_lt_of_le (Heap.lt_size (I.pin p hp).1) (by rw[z];exact hb)) (Nat.lt_irrefl _)
structure Iv (P:Program) (w:World) (K:PySem.W.Frag) (tg:Expr) (J:It) (fp:List Addr) (it:Addr) (tn:Nat→Heap→Prop):Prop where
 mem:it∈fp
 obj:∀i h,tn i h→∀b∈fp,∃o,h.get? b=some o∧∀v,o.data≠.cell v
 keep:∀i h h',tn i h→(∀b∈fp,∀o,h.get? b=some o→h'.get? b=some o)→tn i h'
 item:∀(X:Cx),X.prog=P→X.w=w→X.K=K→X.calm=true→∀(i:Nat) (pins:List (Addr × Obj)) (s:Shared) (σ:St) (H:Hp) (E:Value→Shared→Prop),Inv X pins σ H s→(∀b∈fp,mD X pins H b)→tn i s.heap→J.go i H→
  wpAny (model P w) X.A (pyNext (.ref it)) (fun r s1=>∃u,r=some u∧
   wpAny (model P w) X.A (letOwnedTupleGo tg (.ref it) u) (fun _ s2=>∃x H',Inv X pins σ H' s2∧cF x u∧J.yld i H x H'∧tn (i+1) s2.heap∧∀b∈fp,H' b=none) E s1) E s
 done:∀(X:Cx),X.prog=P→X.w=w→X.K=K→X.calm=true→∀(i:Nat) (pins:List (Addr × Obj)) (s:Shared) (σ:St) (H:Hp) (E:Value→Shared→Prop),Inv X pins σ H s→(∀b∈fp,mD X pins H b)→tn i s.heap→J.stop i H→
  wpAny (model P w) X.A (pyNext (.ref it)) (fun r s1=>r=none∧Inv X pins σ H s1) E s
 self:∀(A:Around) (i:Nat) (s:Shared) (Q:Value→Shared→Prop) (E:Value→Shared→Prop),tn i s.heap→Q (.ref it) s→wpAny (model P w) A (pyIter (.ref it)) Q E s
abbrev TI:=St→Hp→(It→Hp→Prop)→Prop
def PIE (X:Cx) (pins:List (Addr × Obj)) (σ:St) (tg:Expr) (R:It→Hp→Prop) (itv:Value) (s2:Shared):Prop:=
 ∃(it:Addr) (fp:List Addr) (tn:Nat→Heap→Prop) (J:It) (H':Hp),itv=.ref it∧Inv X pins σ H' s2∧Iv X.prog X.w X.K tg J fp it tn∧tn 0 s2.heap∧(∀b∈fp,mD X pins H' b)∧R J H'
def PI (X:Cx) (tg iter:Expr) (wi:TI):Prop:=
 ∀(pins:List (Addr × Obj)) (s:Shared) (σ:St) (H:Hp) (R:It→Hp→Prop),Inv X pins σ H s→wi σ H R→
  wpAny (model X.prog X.w) X.A (eval iter X.env) (fun v s1=>wpAny (model X.prog X.w) X.A (pyIter v) (PIE X pins σ tg R) X.xe s1) X.xe s
theorem Lb {M : Model} {A : Around} {E : Value → Shared → Prop} {s : Shared} {tg : Expr} {it : Addr} {u : Value} {o : Obj} {n : String} {vs : Array Value} {Q : Unit → Shared → Prop} (ho : s.heap.get? it = some o) (hc : o.cls = .type n) (hd : o.data = .fields vs)
    (hn : ["enumerate", "zip", "dict_itemiterator", "dict_reverseitemiterator", "odict_iterator", "itertools.zip_longest", "itertools.pairwise"].contains n = false) (hQ : Q () s) : wpAny M A (letOwnedTupleGo tg (.ref it) u) Q E s := by
  unfold letOwnedTupleGo
  cases tg <;> first
    | exact wpAny_pure hQ
    | (cases u <;> first
        | exact wpAny_pure hQ
        | (refine wpAny_bind (wpAny_load ho ?_)
           rw [hc, hd]
           show wpAny M A (if (["enumerate", "zip", "dict_itemiterator", "dict_reverseitemiterator", "odict_iterator", "itertools.zip_longest", "itertools.pairwise"].contains n && vs[0]? == some (rawInt _)) = true then _ else _) Q E s
           rw [if_neg (by intro h; rw [hn, Bool.false_and] at h; cases h)]
           exact wpAny_pure hQ))
def Itl (K:PySem.W.Frag) (a:Addr):It:=
 ⟨fun i H=>∃xs x,SqL K H a xs∧xs[i]?=some x,fun i H x H'=>H'=H∧∀xs,SqL K H a xs→xs[i]?=some x,fun i H=>∃xs,SqL K H a xs∧xs.length≤i⟩
def Itt (K:PySem.W.Frag) (a:Addr):It:=
 ⟨fun i H=>∃xs x,SqT K H a xs∧xs[i]?=some x,fun i H x H'=>H'=H∧∀xs,SqT K H a xs→xs[i]?=some x,fun i H=>∃xs,SqT K H a xs∧xs.length≤i⟩
def Itr (lo:Int) (n:Nat):It:=⟨fun i _=>i < n,fun i H x H'=>H'=H∧x=.int (lo+i),fun i _=>n≤i⟩
theorem Gx {P:Program} {w:World} {K:PySem.W.Frag} {tg:Expr} (a it:Addr):Iv P w K tg (Itl K a) [it] it (fun i h=>h.IsListIter it a i) where
 mem:=by simp
 obj:=fun i h st b hb=>by
  have e:b=it:=by simpa using hb
  subst e
  obtain⟨o,e,c,d⟩:=st
  exact⟨o,e,fun v z=>by rw[d] at z;cases z⟩
 keep:=fun i h h' st k=>st.at fun o e=>k it (by simp) o e
 item:=by
  intro X hP hw hK hc i pins s σ H E I hf st hg
  subst hP hw hK
  obtain⟨xs,x,hq,hx⟩:=hg
  obtain⟨its,rv,p,hz⟩:=I.list hq
  obtain⟨u,hu,ru⟩:=rv.get hx
  obtain⟨f0,f1,f2,f3,f4,f5⟩:=hf it (by simp)
  refine wpAny_pyNext_list_item st p.isList (x:=u) (by simpa using hu) fun h' st' sb=>?_
  have I1:Inv X pins σ H { s with heap:=h' }:=I.turned (t':=s.toks) (fun b o hb e=>(sb.2 b hb).trans e) f0 f1 f3 f4 f5
  obtain⟨o,e,c,d⟩:=id st'
  exact⟨u,rfl,Lb (s:={ s with heap:=h' }) e c d (by decide) ⟨x,H,I1,ru,⟨rfl,fun ys hy=>by rw[I.list_inj hy hq];exact hx⟩,st',fun b hb=>(hf b hb).1⟩⟩
 done:=by
  intro X hP hw hK hc i pins s σ H E I hf st hg
  subst hP hw hK
  obtain⟨xs,hq,hx⟩:=hg
  obtain⟨its,rv,p,hz⟩:=I.list hq
  obtain⟨f0,f1,f2,f3,f4,f5⟩:=hf it (by simp)
  have hl:=rv.length
  exact wpAny_pyNext_list_end (I.ok.hd hc) st p.isList (by simp;omega) fun h' eb=>⟨rfl,I.turned (t':=s.toks) (fun b o hb e=>eb b o hb e) f0 f1 f3 f4 f5⟩
 self:=fun _ _ _ _ _ st h=>wpAny_pyIter_listiter st h
theorem Cv {P:Program} {w:World} {K:PySem.W.Frag} {tg:Expr} (a it:Addr):Iv P w K tg (Itt K a) [it] it (fun i h=>h.IsTupleIter it a i) where
 mem:=by simp
 obj:=fun i h st b hb=>by
  have e:b=it:=by simpa using hb
  subst e
  obtain⟨o,e,c,d⟩:=st
  exact⟨o,e,fun v z=>by rw[d] at z;cases z⟩
 keep:=fun i h h' st k=>st.at fun o e=>k it (by simp) o e
 item:=by
  intro X hP hw hK hc i pins s σ H E I hf st hg
  subst hP hw hK
  obtain⟨xs,x,hq,hx⟩:=hg
  obtain⟨its,rv,p,hz⟩:=I.tuple hq
  obtain⟨u,hu,ru⟩:=rv.get hx
  obtain⟨f0,f1,f2,f3,f4,f5⟩:=hf it (by simp)
  refine wpAny_pyNext_tuple_item st (show s.heap.IsTuple a its.toArray from p) (x:=u) (by simpa using hu) fun h' st' sb=>?_
  have I1:Inv X pins σ H { s with heap:=h' }:=I.turned (t':=s.toks) (fun b o hb e=>(sb.2 b hb).trans e) f0 f1 f3 f4 f5
  obtain⟨o,e,c,d⟩:=id st'
  exact⟨u,rfl,Lb (s:={ s with heap:=h' }) e c d (by decide) ⟨x,H,I1,ru,⟨rfl,fun ys hy=>by rw[I.tuple_inj hy hq];exact hx⟩,st',fun b hb=>(hf b hb).1⟩⟩
 done:=by
  intro X hP hw hK hc i pins s σ H E I hf st hg
  subst hP hw hK
  obtain⟨xs,hq,hx⟩:=hg
  obtain⟨its,rv,p,hz⟩:=I.tuple hq
  obtain⟨f0,f1,f2,f3,f4,f5⟩:=hf it (by simp)
  have hl:=rv.length
  exact wpAny_pyNext_tuple_end (I.ok.hd hc) st (show s.heap.IsTuple a its.toArray from p) (by simp;omega) fun h' eb=>⟨rfl,I.turned (t':=s.toks) (fun b o hb e=>eb b o hb e) f0 f1 f3 f4 f5⟩
 self:=fun _ _ _ _ _ st h=>wpAny_pyIter_tupleiter st h
theorem Cy {P:Program} {w:World} {K:PySem.W.Frag} {tg:Expr} (it:Addr) (lo:Int) (n:Nat):Iv P w K tg (Itr lo n) [it] it (fun i h=>IsRangeIter h it (lo+(i:Nat)*1) ((n:Int) - (i:Nat)) 1) where
 mem:=by simp
 obj:=fun i h st b hb=>by
  have e:b=it:=by simpa using hb
  subst e
  exact⟨_,st,fun v z=>by
   have z':Data.fields _=Data.cell v:=z
   cases z'⟩
 keep:=fun i h h' st k=>k it (by simp) _ st
 item:=by
  intro X hP hw hK hc i pins s σ H E I hf st hg
  subst hP hw hK
  obtain⟨f0,f1,f2,f3,f4,f5⟩:=hf it (by simp)
  have W:=Walks.range (prog:=X.prog) (w:=X.w) (I.ok.hd hc) it lo 1 n
  refine W.item i s _ _ hg st fun v h' tk hv st' kk=>?_
  obtain⟨t,rfl⟩:=hv
  have I1:Inv X pins σ H { s with heap:=h',toks:=tk }:=I.turned (fun b o hb e=>kk b o (by simpa using hb) e) f0 f1 f3 f4 f5
  refine⟨_,rfl,Lb (s:={ s with heap:=h',toks:=tk }) (n:="range_iterator") st' rfl rfl (by decide) ⟨.int (lo+i),H,I1,⟨t,?_⟩,⟨rfl,rfl⟩,st',fun b hb=>(hf b hb).1⟩⟩
  rw[Int.mul_one]
 done:=by
  intro X hP hw hK hc i pins s σ H E I hf st hg
  subst hP hw hK
  obtain⟨f0,f1,f2,f3,f4,f5⟩:=hf it (by simp)
  exact wpAny_pyNext_range_end (I.ok.hd hc) st (by have:n≤i:=hg;omega) fun h' eb=>⟨rfl,I.turned (t':=s.toks) (fun b o hb e=>eb b o hb e) f0 f1 f3 f4 f5⟩
 self:=fun _ _ _ _ _ st h=>wpAny_pyIter_rangeiter st h
section
variable {X:Cx} {tg:Expr}
def Wo (K:PySem.W.Frag) (tl:TE):TI:=fun σ H R=>tl σ H fun x H1=>∃a,x=.ref a∧(∃xs,SqL K H1 a xs)∧R (Itl K a) H1
def Yp (K:PySem.W.Frag) (tl:TE):TI:=fun σ H R=>tl σ H fun x H1=>∃a,x=.ref a∧(∃xs,SqT K H1 a xs)∧R (Itt K a) H1
theorem cY {l:Expr} {tl:TE} (hl:PE X l tl):PI X tg l (Wo X.K tl):=by
 intro pins s σ H R I h
 refine thn (hl pins s σ H _ I h) fun v s1 ⟨x,H1,I1,r1,q1⟩=>?_
 obtain⟨a,e,⟨xs,hq⟩,q⟩:=q1
 subst e
 cases r1
 obtain⟨its,rv,p,hz⟩:=I1.list hq
 refine wpAny_pyIter_list p.isList ?_
 refine⟨s1.heap.objs.size,[s1.heap.objs.size],_,_,H1,rfl,I1.kept (t':=s1.toks) fun b o e=>Heap.get?_push_of_some _ e,Gx a _,⟨_,Heap.get?_push_size _ rfl,rfl,rfl⟩,fun b hb=>?_,q⟩
 have e:b=s1.heap.objs.size:=by simpa using hb
 subst e
 exact I1.fpOk (Nat.le_refl _) (I1.hok.fresh (Nat.le_refl _))
theorem Tm {l:Expr} {tl:TE} (hl:PE X l tl):PI X tg l (Yp X.K tl):=by
 intro pins s σ H R I h
 refine thn (hl pins s σ H _ I h) fun v s1 ⟨x,H1,I1,r1,q1⟩=>?_
 obtain⟨a,e,⟨xs,hq⟩,q⟩:=q1
 subst e
 cases r1
 obtain⟨its,rv,p,hz⟩:=I1.tuple hq
 refine wpAny_pyIter_tuple (show s1.heap.IsTuple a its.toArray from p) ?_
 refine⟨s1.heap.objs.size,[s1.heap.objs.size],_,_,H1,rfl,I1.kept (t':=s1.toks) fun b o e=>Heap.get?_push_of_some _ e,Cv a _,⟨_,Heap.get?_push_size _ rfl,rfl,rfl⟩,fun b hb=>?_,q⟩
 have e:b=s1.heap.objs.size:=by simpa using hb
 subst e
 exact I1.fpOk (Nat.le_refl _) (I1.hok.fresh (Nat.le_refl _))
theorem Ar {pins:List (Addr × Obj)} {σ:St} {H:Hp} {s:Shared} {R:It→Hp→Prop} {E:Value→Shared→Prop} {lo hi:Int} {t u v:Tok} {tk:Nat} (I:Inv X pins σ H s) (h1:-(2 ^ 62)≤lo) (h2:lo < 2 ^ 62) (h3:-(2 ^ 62)≤hi) (h4:hi < 2 ^ 62)
  (q:R (Itr lo (hi - lo).toNat) H):wpAny (model X.prog X.w) X.A (pyIter (.ref s.heap.objs.size)) (PIE X pins σ tg R) E { s with heap:=s.heap.push { cls:=.type "range",data:=.fields #[.int lo t,.int hi u,.int 1 v] },toks:=tk }:=by
 refine wpAny_pyIter_range (IsRange.new ..) (small_one h1 h2 h3 h4) ?_
 have I1:Inv X pins σ H { s with heap:=s.heap.push { cls:=.type "range",data:=.fields #[.int lo t,.int hi u,.int 1 v] },toks:=tk }:=I.kept fun b o e=>Heap.get?_push_of_some _ e
 refine⟨(s.heap.push { cls:=.type "range",data:=.fields #[.int lo t,.int hi u,.int 1 v] }).objs.size,[(s.heap.push { cls:=.type "range",data:=.fields #[.int lo t,.int hi u,.int 1 v] }).objs.size],_,_,H,rfl,
  I1.kept (t':=tk) fun b o e=>Heap.get?_push_of_some _ e,Cy _ lo (hi - lo).toNat,?_,fun b hb=>?_,q⟩
 ·have e1:lo+((0:Nat):Int)*1=lo:=by simp
  have e2:(((hi - lo).toNat:Nat):Int) - ((0:Nat):Int)=Builtin.Range.rangeSize lo hi 1:=by rw[rangeSize_one];split<;>omega
  show IsRangeIter _ _ (lo+((0:Nat):Int)*1) ((((hi - lo).toNat:Nat):Int) - ((0:Nat):Int)) 1
  rw[e1,e2]
  exact Heap.get?_push_size _ rfl
 ·have e:b=(s.heap.push { cls:=.type "range",data:=.fields #[.int lo t,.int hi u,.int 1 v] }).objs.size:=by simpa using hb
  subst e
  exact I1.fpOk (Nat.le_refl _) (I1.hok.fresh (Nat.le_refl _))
def Xq (ta:TA):TI:=fun σ H R=>ta σ H fun vs H1=>∃j:Int,vs=[.int j]∧-(2 ^ 62)≤j∧j < 2 ^ 62∧R (Itr 0 j.toNat) H1
def Xd (ta:TA):TI:=fun σ H R=>ta σ H fun vs H1=>∃i j:Int,vs=[.int i,.int j]∧(-(2 ^ 62)≤i∧i < 2 ^ 62∧-(2 ^ 62)≤j∧j < 2 ^ 62)∧R (Itr i (j - i).toNat) H1
theorem iC {a:Expr} {ta:TA} {p pos:Pos} (hg:Gl X "range") (hm:X.mg "range"=none) (ha:PA X [a] ta) (hs:starEach [a] X.env=[(false,eval a X.env)]:=by rfl):PI X tg (.Call (.Name "range" p) [a] [] pos) (Xq ta):=by
 intro pins s σ H R I h
 refine Call_ (jH I hg hm boot_range (PyProof.Rows.callWith_type1 (thn (ha pos pins s σ H _ I h) fun us s1 ⟨vs,H1,I1,r1,q1⟩=>?_) hs rfl))
 obtain⟨j,e,q1,q2,q⟩:=q1
 subst e
 cases r1 with
 |cons r rr=>
  cases rr
  obtain⟨t,rfl⟩:=r
  exact call_range_1 (Ar I1 (by omega) (by omega) q1 q2 (by simpa using q))
theorem vG {a b:Expr} {ta:TA} {p pos:Pos} (hg:Gl X "range") (hm:X.mg "range"=none) (ha:PA X [a,b] ta) (hs:starEach [a,b] X.env=[(false,eval a X.env),(false,eval b X.env)]:=by rfl) (hs2:starEach [b] X.env=[(false,eval b X.env)]:=by rfl) :
  PI X tg (.Call (.Name "range" p) [a,b] [] pos) (Xd ta):=by
 intro pins s σ H R I h
 refine Call_ (jH I hg hm boot_range (PyProof.Rows.callWith_type1 (thn (ha pos pins s σ H _ I h) fun us s1 ⟨vs,H1,I1,r1,q1⟩=>?_) (by rw[hs,hs2]) (by rw[hs2];rfl)))
 obtain⟨i,j,e,⟨q1,q2,q3,q4⟩,q⟩:=q1
 subst e
 cases r1 with
 |cons r rr=>
  cases rr with
  |cons r' rr=>
   cases rr
   obtain⟨t,rfl⟩:=r
   obtain⟨t',rfl⟩:=r'
   exact call_range_2 (Ar I1 q1 q2 q3 q4 q)
def Zg (wi:TI) (g:TG) (tb:TS):TS:=fun D σ H=>wi σ H fun J H1=>∃W:Nat→Nat→St→Hp→Prop,(∃m,W 0 m σ H1)∧∀i m σ H,W i m σ H→
 (J.stop i H∧D.nx σ H)∨(J.go i H∧∃N:St→Hp→Prop,(∀σ' H',N σ' H'→∃m',m' < m∧W (i+1) m' σ' H')∧∀x H',J.yld i H x H'→g x σ H' fun σ2 H2=>tb { D with nx:=N,ct:=N,bk:=D.nx } σ2 H2)
def tG (fp:List Addr) (h:Heap):List (Addr × Obj):=fp.filterMap fun b=>(h.get? b).map fun o=>(b,o)
theorem jP {fp:List Addr} {h:Heap} {b:Addr} {o:Obj} (hb:b∈fp) (e:h.get? b=some o):(b,o)∈tG fp h:=List.mem_filterMap.mpr ⟨b,hb,by rw[e];rfl⟩
theorem Hk {fp:List Addr} {h:Heap} {p:Addr × Obj} (hp:p∈tG fp h):p.1∈fp∧h.get? p.1=some p.2:=by
 obtain⟨b,hb,e⟩:=List.mem_filterMap.mp hp
 cases q:h.get? b with
 |none=>rw[q] at e;cases e
 |some o=>
  rw[q] at e
  have e':(b,o)=p:=Option.some.inj e
  subst e'
  exact⟨hb,q⟩
theorem Inv.pinned {pins:List (Addr × Obj)} {σ:St} {H:Hp} {s:Shared} {fp:List Addr} (I:Inv X pins σ H s) (hf:∀b∈fp,mD X pins H b) (ho:∀b∈fp,∃o,s.heap.get? b=some o∧∀v,o.data≠.cell v):Inv X (pins++tG fp s.heap) σ H s:=
 I.pins_of fun p hp=>(List.mem_append.mp hp).elim (fun z=>I.pin p (List.mem_append_right _ z)) fun z=>by
  obtain⟨hb,e⟩:=Hk z
  obtain⟨f0,f1,f2,_⟩:=hf p.1 hb
  obtain⟨o,e',d⟩:=ho p.1 hb
  rw[e] at e';cases e'
  exact⟨e,f0,f1,f2,d⟩
theorem Inv.unpinned {pins pl:List (Addr × Obj)} {σ:St} {H:Hp} {s:Shared} (I:Inv X (pins++pl) σ H s):Inv X pins σ H s:=I.pins_of fun p hp=>I.pin p (List.mem_append_right _ (List.mem_append_left _ hp))
theorem dW {iter:Expr} {body:List Stmt} {wi:TI} {g:TG} {tb:TS} {pos:Pos} (hp:PassesOwn (model X.prog X.w) X.A X.env X.xe) (hc:X.calm=true) (hi:PI X tg iter wi) (hg:PG X tg g) (hb:PSs X body tb)
  (hs:∀x,foldedSetIterable iter X.env x=pure x:=by intro _;rfl):PS X (.For tg iter body [] pos) (Zg wi g tb):=by
 intro pins s σ H D I h
 refine wpAny_For (thn (hi pins s σ H _ I h) fun v s1 h1=>thn h1 fun itv s2 h2=>?_) hs
 obtain⟨it,fp,tn,J,H2,e,I2,T,st2,f2,W,⟨m0,w0⟩,turn⟩:=h2
 subst e
 have stat:∀{H':Hp},(∀b∈fp,H' b=none)→∀b∈fp,mD X pins H' b:=fun hn b hb=>⟨hn b hb,(f2 b hb).2⟩
 refine codeAny_forLoop_any (fun n s'=>∃i σ' H',Inv X pins σ' H' s'∧tn i s'.heap∧(∀b∈fp,H' b=none)∧W i n σ' H') ?_ m0 ⟨0,σ,H2,I2,st2,fun b hb=>(f2 b hb).1,w0⟩
 rintro n s3 ⟨i,σ3,H3,I3,st3,fr3,w3⟩
 rcases turn i n σ3 H3 w3 with ⟨stop,qn⟩ | ⟨go,N,hN,step⟩
 ·refine wpAny_passesOwn hp (thn (T.done X rfl rfl rfl hc i pins s3 σ3 H3 X.xe I3 (stat fr3) st3 stop) fun r s4 ⟨hr,I4⟩=>?_)
  subst hr
  exact wpAny_execs_nil ⟨σ3,H3,I4,qn⟩
 ·refine wpAny_passesOwn hp (thn (T.item X rfl rfl rfl hc i pins s3 σ3 H3 X.xe I3 (stat fr3) st3 go) fun r s4 ⟨u,hr,h4⟩=>?_)
  subst hr
  refine wpAny_passesOwn hp (thn h4 fun _ s5 ⟨x,H5,I5,r5,y5,st5,fr5⟩=>?_)
  have I5':=I5.pinned (stat fr5) (T.obj _ _ st5)
  refine wpAny_passesOwn hp (thn (hg _ s5 σ3 H5 x u _ I5' r5 (step x H5 y5)) fun _ s6 ⟨σ6,H6,I6,q6⟩=>?_)
  refine wpAny_passesOwn hp (thn (hb _ s6 σ6 H6 _ I6 q6) fun f s7 q7=>?_)
  have again:∀{σ7:St} {H7:Hp},Inv X (pins++tG fp s5.heap) σ7 H7 s7→N σ7 H7→∃m,m < n∧∃i σ' H',Inv X pins σ' H' s7∧tn i s7.heap∧(∀b∈fp,H' b=none)∧W i m σ' H':=fun {σ7 H7} I7 n7=>by
   obtain⟨m',hm,w7⟩:=hN σ7 H7 n7
   refine⟨m',hm,i+1,σ7,H7,I7.unpinned,T.keep _ _ _ st5 fun b hb o e=>(I7.pin (b,o) (List.mem_append_right _ (List.mem_append_right _ (jP hb e)))).1,fun b hb=>?_,w7⟩
   obtain⟨o,e,d⟩:=T.obj _ _ st5 b hb
   exact(I7.pin (b,o) (List.mem_append_right _ (List.mem_append_right _ (jP hb e)))).2.1
  cases f with
  |next=>obtain⟨σ7,H7,I7,n7⟩:=q7;exact again I7 n7
  |cont=>obtain⟨σ7,H7,I7,n7⟩:=q7;exact again I7 n7
  |brk=>obtain⟨σ7,H7,I7,q7⟩:=q7;exact⟨σ7,H7,I7.unpinned,q7⟩
  |ret v=>obtain⟨x7,σ7,H7,I7,r7,q7⟩:=q7;exact⟨x7,σ7,H7,I7.unpinned,r7,q7⟩
end
theorem fH {K:PySem.W.Frag} {a:Addr} {xs:List V} {g:TG} {tb:TS} {D:mC} {σ:St} {H:Hp} (Pv:Nat→St→Hp→Prop) (h0:Pv 0 σ H) (hl:∀i σ H,i≤xs.length→Pv i σ H→SqL K H a xs)
  (hs:∀i x σ H,xs[i]?=some x→Pv i σ H→g x σ H fun σ2 H2=>tb { D with nx:=Pv (i+1),ct:=Pv (i+1),bk:=D.nx } σ2 H2) (hd:∀σ H,Pv xs.length σ H→D.nx σ H) :
  ∃W:Nat→Nat→St→Hp→Prop,(∃m,W 0 m σ H)∧∀i m σ H,W i m σ H→
   ((Itl K a).stop i H∧D.nx σ H)∨((Itl K a).go i H∧∃N:St→Hp→Prop,(∀σ' H',N σ' H'→∃m',m' < m∧W (i+1) m' σ' H')∧∀x H',(Itl K a).yld i H x H'→g x σ H' fun σ2 H2=>tb { D with nx:=N,ct:=N,bk:=D.nx } σ2 H2):=by
 refine⟨fun i m σ H=>m=xs.length - i∧i≤xs.length∧Pv i σ H,⟨xs.length,by simp,Nat.zero_le _,h0⟩,?_⟩
 rintro i m σ H ⟨rfl,hi,p⟩
 have q:=hl i σ H hi p
 by_cases hlt:i < xs.length
 ·refine .inr ⟨⟨xs,xs[i],q,by simp[hlt]⟩,Pv (i+1),fun σ' H' p'=>⟨xs.length - (i+1),by omega,rfl,hlt,p'⟩,fun x H' y=>?_⟩
  obtain⟨e,y⟩:=y
  subst e
  exact hs i x σ _ (y xs q) p
 ·have e:i=xs.length:=by omega
  subst e
  exact .inl ⟨⟨xs,q,Nat.le_refl _⟩,hd σ H p⟩
theorem Qg {K:PySem.W.Frag} {a:Addr} {xs:List V} {g:TG} {tb:TS} {D:mC} {σ:St} {H:Hp} (Pv:Nat→St→Hp→Prop) (h0:Pv 0 σ H) (hl:∀i σ H,i≤xs.length→Pv i σ H→SqT K H a xs)
  (hs:∀i x σ H,xs[i]?=some x→Pv i σ H→g x σ H fun σ2 H2=>tb { D with nx:=Pv (i+1),ct:=Pv (i+1),bk:=D.nx } σ2 H2) (hd:∀σ H,Pv xs.length σ H→D.nx σ H) :
  ∃W:Nat→Nat→St→Hp→Prop,(∃m,W 0 m σ H)∧∀i m σ H,W i m σ H→
   ((Itt K a).stop i H∧D.nx σ H)∨((Itt K a).go i H∧∃N:St→Hp→Prop,(∀σ' H',N σ' H'→∃m',m' < m∧W (i+1) m' σ' H')∧∀x H',(Itt K a).yld i H x H'→g x σ H' fun σ2 H2=>tb { D with nx:=N,ct:=N,bk:=D.nx } σ2 H2):=by
 refine⟨fun i m σ H=>m=xs.length - i∧i≤xs.length∧Pv i σ H,⟨xs.length,by simp,Nat.zero_le _,h0⟩,?_⟩
 rintro i m σ H ⟨rfl,hi,p⟩
 have q:=hl i σ H hi p
 by_cases hlt:i < xs.length
 ·refine .inr ⟨⟨xs,xs[i],q,by simp[hlt]⟩,Pv (i+1),fun σ' H' p'=>⟨xs.length - (i+1),by omega,rfl,hlt,p'⟩,fun x H' y=>?_⟩
  obtain⟨e,y⟩:=y
  subst e
  exact hs i x σ _ (y xs q) p
 ·have e:i=xs.length:=by omega
  subst e
  exact .inl ⟨⟨xs,q,Nat.le_refl _⟩,hd σ H p⟩
theorem gM {lo:Int} {n:Nat} {g:TG} {tb:TS} {D:mC} {σ:St} {H:Hp} (Pv:Nat→St→Hp→Prop) (h0:Pv 0 σ H)
  (hs:∀i σ H,i < n→Pv i σ H→g (.int (lo+i)) σ H fun σ2 H2=>tb { D with nx:=Pv (i+1),ct:=Pv (i+1),bk:=D.nx } σ2 H2) (hd:∀σ H,Pv n σ H→D.nx σ H) :
  ∃W:Nat→Nat→St→Hp→Prop,(∃m,W 0 m σ H)∧∀i m σ H,W i m σ H→
   ((Itr lo n).stop i H∧D.nx σ H)∨((Itr lo n).go i H∧∃N:St→Hp→Prop,(∀σ' H',N σ' H'→∃m',m' < m∧W (i+1) m' σ' H')∧∀x H',(Itr lo n).yld i H x H'→g x σ H' fun σ2 H2=>tb { D with nx:=N,ct:=N,bk:=D.nx } σ2 H2):=by
 refine⟨fun i m σ H=>m=n - i∧i≤n∧Pv i σ H,⟨n,by simp,Nat.zero_le _,h0⟩,?_⟩
 rintro i m σ H ⟨rfl,hi,p⟩
 by_cases hlt:i < n
 ·refine .inr ⟨hlt,Pv (i+1),fun σ' H' p'=>⟨n - (i+1),by omega,rfl,hlt,p'⟩,fun x H' y=>?_⟩
  obtain⟨e,y⟩:=y
  subst e y
  exact hs i σ _ hlt p
 ·have e:i=n:=by omega
  subst e
  exact .inl ⟨Nat.le_refl _,hd σ H p⟩
theorem sS {c:TT} {tb:TS} {D:mC} {σ:St} {H:Hp} (Pv:St→Hp→Prop) (μ:St→Hp→Nat) (h0:Pv σ H)
  (hs:∀σ H,Pv σ H→c σ H fun b H1=>if b=true then tb { D with nx:=fun σ' H'=>Pv σ' H'∧μ σ' H' < μ σ H,ct:=fun σ' H'=>Pv σ' H'∧μ σ' H' < μ σ H,bk:=D.nx } σ H1 else D.nx σ H1)
  (mono:∀σ H Q Q',(∀b H1,Q b H1→Q' b H1)→c σ H Q→c σ H Q'):Jj c tb D σ H:=by
 refine⟨fun m σ H=>m=μ σ H∧Pv σ H,⟨_,rfl,h0⟩,?_⟩
 rintro m σ H ⟨rfl,p⟩
 refine mono σ H _ _ (fun b H1 q=>?_) (hs σ H p)
 cases b with
 |true=>exact⟨_,fun σ' H' ⟨p',l⟩=>⟨_,l,rfl,p'⟩,q⟩
 |false=>exact q
abbrev R2:=V→V→Hp→VK→Prop
def OpR (X:Cx) (f:Value→Value→Sem Value) (r:R2):Prop:=
 ∀(pins:List (Addr × Obj)) (s:Shared) (σ:St) (H:Hp) (x y:V) (v u:Value) (Q:VK),Inv X pins σ H s→cF x v→cF y u→r x y H Q→
  wpAny (model X.prog X.w) X.A (f v u) (EP X pins σ Q) X.xe s
def UnR (X:Cx) (f:Value→Sem Value) (r:V→Hp→VK→Prop):Prop:=
 ∀(pins:List (Addr × Obj)) (s:Shared) (σ:St) (H:Hp) (x:V) (v:Value) (Q:VK),Inv X pins σ H s→cF x v→r x H Q→
  wpAny (model X.prog X.w) X.A (f v) (EP X pins σ Q) X.xe s
def rY (X:Cx) (f:Value) (r:List V→Hp→VK→Prop):Prop:=
 ∀(pins:List (Addr × Obj)) (s:Shared) (σ:St) (H:Hp) (xs:List V) (us:List Value) (Q:VK),Inv X pins σ H s→bX xs us→r xs H Q→
  wpAny (model X.prog X.w) X.A (call f us) (EP X pins σ Q) X.xe s
def tOp (r:R2) (ta tb:TE):TE:=fun σ H Q=>ta σ H fun x H1=>tb σ H1 fun y H2=>r x y H2 Q
def tUn (r:V→Hp→VK→Prop) (ta:TE):TE:=fun σ H Q=>ta σ H fun x H1=>r x H1 Q
def rI (C:Int→Int→Prop) (g:Int→Int→V):R2:=fun x y H Q=>∃i j,x=.int i∧y=.int j∧C i j∧Q (g i j) H
def rI0 (g:Int→Int→V):R2:=fun x y H Q=>∃i j,x=.int i∧y=.int j∧Q (g i j) H
def rU (g:Int→V):V→Hp→VK→Prop:=fun x H Q=>∃i,x=.int i∧Q (g i) H
section
variable {X:Cx} {a b c:Expr} {ta tb tc:TE} {pos:Pos}
theorem Uu (ha:PE X a ta) (hb:PE X b tb) {pins:List (Addr × Obj)} {s:Shared} {σ:St} {H:Hp} {R:V→V→Hp→Prop} (I:Inv X pins σ H s)
  (h:ta σ H fun x H1=>tb σ H1 fun y H2=>R x y H2) {Q:Value→Shared→Prop} {f:Value→Value→Sem Value}
  (hf:∀v u s2 x y H2,Inv X pins σ H2 s2→cF x v→cF y u→R x y H2→wpAny (model X.prog X.w) X.A (f v u) Q X.xe s2) :
  wpAny (model X.prog X.w) X.A (eval a X.env) (fun v s₁=>wpAny (model X.prog X.w) X.A (eval b X.env) (fun u s₂=>wpAny (model X.prog X.w) X.A (f v u) Q X.xe s₂) X.xe s₁) X.xe s:=by
 refine thn (ha pins s σ H _ I h) fun v s1 ⟨x,H1,I1,r1,q1⟩=>?_
 refine thn (hb pins s1 σ H1 _ I1 q1) fun u s2 ⟨y,H2,I2,r2,q2⟩=>?_
 exact hf v u s2 x y H2 I2 r1 r2 q2
theorem aV {op:Operator} {r:R2} (ho:OpR X (binaryOp op) r) (ha:PE X a ta) (hb:PE X b tb):PE X (.BinOp a op b pos) (tOp r ta tb):=by
 intro pins s σ H Q I h
 exact wpAny_BinOp (Uu ha hb I h fun v u s2 x y H2 I2 rx ry q=>ho pins s2 σ H2 x y v u Q I2 rx ry q)
theorem Ji {op:UnaryOp} {r:V→Hp→VK→Prop} (ho:UnR X (unaryOp op) r) (ha:PE X a ta):PE X (.UnaryOp op a pos) (tUn r ta):=by
 intro pins s σ H Q I h
 exact UnaryOp_ (thn (ha pins s σ H _ I h) fun v s1 ⟨x,H1,I1,r1,q1⟩=>ho pins s1 σ H1 x v Q I1 r1 q1)
theorem opI {f:Value→Value→Sem Value} {C:Int→Int→Prop} {g:Int→Int→Int}
  (rule:∀(i j:Int) (t u:Tok) (s:Shared) (Q:Value→Shared→Prop) (E:Value→Shared→Prop),C i j→Q (.int (g i j) s.toks) { s with toks:=s.toks+1 }→wpAny (model X.prog X.w) X.A (f (.int i t) (.int j u)) Q E s) :
  OpR X f (rI C fun i j=>.int (g i j)):=by
 intro pins s σ H x y v u Q I rx ry h
 obtain⟨i,j,rfl,rfl,hc,q⟩:=h
 obtain⟨t,rfl⟩:=rx
 obtain⟨t',rfl⟩:=ry
 exact rule i j t t' s _ _ hc ⟨.int (g i j),H,I.tok _,⟨_,rfl⟩,q⟩
theorem Xl {f:Value→Value→Sem Value} {g:Int→Int→Int}
  (rule:∀(i j:Int) (t u:Tok) (s:Shared) (Q:Value→Shared→Prop) (E:Value→Shared→Prop),Q (.int (g i j) s.toks) { s with toks:=s.toks+1 }→wpAny (model X.prog X.w) X.A (f (.int i t) (.int j u)) Q E s) :
  OpR X f (rI0 fun i j=>.int (g i j)):=by
 intro pins s σ H x y v u Q I rx ry h
 obtain⟨i,j,rfl,rfl,q⟩:=h
 obtain⟨t,rfl⟩:=rx
 obtain⟨t',rfl⟩:=ry
 exact rule i j t t' s _ _ ⟨.int (g i j),H,I.tok _,⟨_,rfl⟩,q⟩
theorem Uy {f:Value→Value→Sem Value} {g:Int→Int→Bool}
  (rule:∀(i j:Int) (t u:Tok) (s:Shared) (Q:Value→Shared→Prop) (E:Value→Shared→Prop),Q (.bool (g i j)) s→wpAny (model X.prog X.w) X.A (f (.int i t) (.int j u)) Q E s) :
  OpR X f (rI0 fun i j=>.bl (g i j)):=by
 intro pins s σ H x y v u Q I rx ry h
 obtain⟨i,j,rfl,rfl,q⟩:=h
 obtain⟨t,rfl⟩:=rx
 obtain⟨t',rfl⟩:=ry
 exact rule i j t t' s _ _ ⟨.bl (g i j),H,I,rfl,q⟩
def Zm (i j:Int):Prop:=0 < j∧j < 1073741824
def Zf (i j:Int):Prop:=0≤j∧j≤1000000∧i.natAbs < 2 ^ 64
def Vh (i j:Int):Prop:=(-(2 ^ 64) < i∧i < 2 ^ 64)∨(-(2 ^ 64) < j∧j < 2 ^ 64)
theorem Vh.ok {i j:Int} (h:Vh i j):IntMulOk i j:=by
 rcases h with ⟨h1,h2⟩ | ⟨h1,h2⟩
 ·exact .of_left (intBits_le_64 h1 h2)
 ·exact .of_right (intBits_le_64 h1 h2)
theorem dC:OpR X (binaryOp .Add) (rI0 fun i j=>.int (i+j)):=Xl fun _ _ _ _ _ _ _ q=>add_int q
theorem iI:OpR X (binaryOp .Sub) (rI0 fun i j=>.int (i - j)):=Xl fun _ _ _ _ _ _ _ q=>sub_int q
theorem kU:OpR X (binaryOp .Mult) (rI Vh fun i j=>.int (i*j)):=opI fun _ _ _ _ _ _ _ hc q=>mul_int q hc.ok
theorem jK:OpR X (binaryOp .FloorDiv) (rI Zm fun i j=>.int (i / j)):=opI fun i j _ _ _ _ _ hc q=>by
 have h1:(0:Int) < j:=hc.1
 have h2:j < 1073741824:=hc.2
 exact floordiv_int (by omega) (by rw[Int.fdiv_eq_ediv_of_nonneg i (by omega)];exact q) (.inl (PyProof.noPylong_small (by omega)))
theorem iV:OpR X (binaryOp .Mod) (rI (fun _ j=>0 < j) fun i j=>.int (i % j)):=opI fun i j _ _ _ _ _ hc q=>by
 have h1:(0:Int) < j:=hc
 exact mod_int' (by omega) (by rw[Int.fmod_eq_emod_of_nonneg i (by omega)];exact q)
theorem jT:OpR X (binaryOp .Mod) (rI (fun _ j=>j≠0) fun i j=>.int (i.fmod j)):=opI fun _ _ _ _ _ _ _ hc q=>mod_int' hc q
theorem iU:OpR X (binaryOp .Pow) (rI Zf fun i j=>.int (i ^ j.toNat)):=opI fun _ _ _ _ _ _ _ hc q=>pow_int_small hc.1 hc.2.1 hc.2.2 q
theorem unI {f:Value→Sem Value} {g:Int→Int}
  (rule:∀(i:Int) (t:Tok) (s:Shared) (Q:Value→Shared→Prop) (E:Value→Shared→Prop),Q (.int (g i) s.toks) { s with toks:=s.toks+1 }→wpAny (model X.prog X.w) X.A (f (.int i t)) Q E s) :
  UnR X f (rU fun i=>.int (g i)):=by
 intro pins s σ H x v Q I rx h
 obtain⟨i,rfl,q⟩:=h
 obtain⟨t,rfl⟩:=rx
 exact rule i t s _ _ ⟨.int (g i),H,I.tok _,⟨_,rfl⟩,q⟩
theorem Df:UnR X (unaryOp .USub) (rU fun i=>.int (-i)):=unI fun _ _ _ _ _ q=>neg_int q
end
def Wv:V→V→Bool
 | .non,.non=>true | .non,.int _=>true | .int _,.non=>true | .non,.bl _=>true | .bl _,.non=>true | .non,.str _=>true | .str _,.non=>true
 | .int _,.int _=>true | .bl _,.bl _=>true | .str _,.str _=>true | .byt _,.byt _=>true
 | .int _,.str _=>true | .str _,.int _=>true | .bl _,.str _=>true | .str _,.bl _=>true
 |_,_=>false
def rEq:R2:=fun x y H Q=>Wv x y=true∧Q (.bl (decide (x=y))) H
def rNe:R2:=fun x y H Q=>Wv x y=true∧Q (.bl (!decide (x=y))) H
theorem Fm {i j:Int}:decide (V.int i=V.int j)=(i == j):=by
 rw[Bool.eq_iff_iff]
 simp
theorem Mt {i j:Bool}:decide (V.bl i=V.bl j)=(i == j):=by
 rw[Bool.eq_iff_iff]
 simp
theorem Ge {i j:Str}:decide (V.str i=V.str j)=(i == j):=by
 rw[Bool.eq_iff_iff]
 simp
theorem Er {i j:Array UInt8}:decide (V.byt i=V.byt j)=(i.toList == j.toList):=by
 rw[Bool.eq_iff_iff]
 cases i
 cases j
 simp
section
variable {X:Cx} {a b c:Expr} {ta tb tc:TE} {pos:Pos}
theorem cP {pins:List (Addr × Obj)} {σ:St} {H:Hp} {s:Shared} {Q:VK} {k k':Bool} (I:Inv X pins σ H s) (q:Q (.bl k) H) (e:k=k'):EP X pins σ Q (.bool k') s:=by
 subst e
 exact⟨.bl k,H,I,rfl,q⟩
theorem eQ:OpR X (compareOp .Eq) rEq:=by
 intro pins s σ H x y v u Q I rx ry h
 obtain⟨hs,q⟩:=h
 cases x with
 |non=>
  cases rx
  cases y with
  |non=>cases ry;exact PySem.EqNone.eq_none_none (cP I q (by simp))
  |bl j=>cases ry;exact PySem.EqNone.eq_none_bool (cP I q (by simp))
  |int j=>obtain⟨t',rfl⟩:=ry;exact PySem.EqNone.eq_none_int (cP I q (by simp))
  |str j=>obtain⟨t',rfl⟩:=ry;exact PySem.EqNone.eq_none_str (cP I q (by simp))
  |_=>exact absurd (show false=true from hs) Bool.false_ne_true
 |bl i=>
  cases rx
  cases y with
  |non=>cases ry;exact PySem.EqNone.eq_bool_none (cP I q (by simp))
  |bl j=>cases ry;exact eq_bool (cP I q Mt)
  |str j=>obtain⟨t',rfl⟩:=ry;exact PySem.EqMixed.eq_bool_str (cP I q (by simp))
  |_=>exact absurd (show false=true from hs) Bool.false_ne_true
 |int i=>
  obtain⟨t,rfl⟩:=rx
  cases y with
  |non=>cases ry;exact PySem.EqNone.eq_int_none (cP I q (by simp))
  |int j=>obtain⟨t',rfl⟩:=ry;exact eq_int (cP I q Fm)
  |str j=>obtain⟨t',rfl⟩:=ry;exact PySem.EqMixed.eq_int_str (cP I q (by simp))
  |_=>exact absurd (show false=true from hs) Bool.false_ne_true
 |str i=>
  obtain⟨t,rfl⟩:=rx
  cases y with
  |non=>cases ry;exact PySem.EqNone.eq_str_none (cP I q (by simp))
  |bl j=>cases ry;exact PySem.EqMixed.eq_str_bool (cP I q (by simp))
  |int j=>obtain⟨t',rfl⟩:=ry;exact PySem.EqMixed.eq_str_int (cP I q (by simp))
  |str j=>obtain⟨t',rfl⟩:=ry;exact eq_str (cP I q Ge)
  |_=>exact absurd (show false=true from hs) Bool.false_ne_true
 |byt i=>
  obtain⟨t,rfl⟩:=rx
  cases y with
  |byt j=>obtain⟨t',rfl⟩:=ry;exact PySem.W.eq_bytes (cP I q Er)
  |_=>exact absurd (show false=true from hs) Bool.false_ne_true
 |_=>cases y<;>exact absurd (show false=true from hs) Bool.false_ne_true
theorem mO:OpR X (compareOp .NotEq) rNe:=by
 intro pins s σ H x y v u Q I rx ry h
 obtain⟨hs,q⟩:=h
 cases x with
 |non=>
  cases rx
  cases y with
  |non=>cases ry;exact PySem.EqNone.ne_none_none (cP I q (by simp))
  |bl j=>cases ry;exact PySem.EqNone.ne_none_bool (cP I q (by simp))
  |int j=>obtain⟨t',rfl⟩:=ry;exact PySem.EqNone.ne_none_int (cP I q (by simp))
  |str j=>obtain⟨t',rfl⟩:=ry;exact PySem.EqNone.ne_none_str (cP I q (by simp))
  |_=>exact absurd (show false=true from hs) Bool.false_ne_true
 |bl i=>
  cases rx
  cases y with
  |non=>cases ry;exact PySem.EqNone.ne_bool_none (cP I q (by simp))
  |bl j=>cases ry;exact ne_bool (cP I q (congrArg not Mt))
  |str j=>obtain⟨t',rfl⟩:=ry;exact PySem.EqMixed.ne_bool_str (cP I q (by simp))
  |_=>exact absurd (show false=true from hs) Bool.false_ne_true
 |int i=>
  obtain⟨t,rfl⟩:=rx
  cases y with
  |non=>cases ry;exact PySem.EqNone.ne_int_none (cP I q (by simp))
  |int j=>obtain⟨t',rfl⟩:=ry;exact ne_int (cP I q (congrArg not Fm))
  |str j=>obtain⟨t',rfl⟩:=ry;exact PySem.EqMixed.ne_int_str (cP I q (by simp))
  |_=>exact absurd (show false=true from hs) Bool.false_ne_true
 |str i=>
  obtain⟨t,rfl⟩:=rx
  cases y with
  |non=>cases ry;exact PySem.EqNone.ne_str_none (cP I q (by simp))
  |bl j=>cases ry;exact PySem.EqMixed.ne_str_bool (cP I q (by simp))
  |int j=>obtain⟨t',rfl⟩:=ry;exact PySem.EqMixed.ne_str_int (cP I q (by simp))
  |str j=>obtain⟨t',rfl⟩:=ry;exact ne_str (cP I q (congrArg not Ge))
  |_=>exact absurd (show false=true from hs) Bool.false_ne_true
 |byt i=>
  obtain⟨t,rfl⟩:=rx
  cases y with
  |byt j=>obtain⟨t',rfl⟩:=ry;exact PySem.W.ne_bytes (cP I q (congrArg not Er))
  |_=>exact absurd (show false=true from hs) Bool.false_ne_true
 |_=>cases y<;>exact absurd (show false=true from hs) Bool.false_ne_true
theorem uT:OpR X (compareOp .Lt) (rI0 fun i j=>.bl (decide (i < j))):=Uy fun _ _ _ _ _ _ _ q=>lt_int q
theorem Aj:OpR X (compareOp .Gt) (rI0 fun i j=>.bl (decide (j < i))):=Uy fun _ _ _ _ _ _ _ q=>gt_int q
theorem Jn:OpR X (compareOp .GtE) (rI0 fun i j=>.bl (decide (j≤i))):=Uy fun _ _ _ _ _ _ _ q=>ge_int q
theorem bL (b:Expr) {op:CmpOp} (h:op≠.In:=by decide) (h2:op≠.NotIn:=by decide):behindInMarks op b=false:=by
 have e1:(op == CmpOp.In)=false:=by cases op<;>first | rfl | exact absurd rfl h
 have e2:(op == CmpOp.NotIn)=false:=by cases op<;>first | rfl | exact absurd rfl h2
 cases b<;>simp[behindInMarks,e1,e2]
theorem hV {op:CmpOp} {r:R2} (ho:OpR X (compareOp op) r) (ha:PE X a ta) (hb:PE X b tb) (hm:behindInMarks op b=false):PE X (.Compare a [op] [b] pos) (tOp r ta tb):=by
 intro pins s σ H Q I h
 exact wpAny_Compare1 (Uu ha hb I h fun v u s2 x y H2 I2 rx ry q=>ho pins s2 σ H2 x y v u Q I2 rx ry q) hm
def Xp (t:TE):TT:=fun σ H Q=>t σ H fun x H'=>∃k,x=.bl k∧Q k H'
theorem bG {op:CmpOp} {r:R2} (ho:OpR X (compareOp op) r) (ha:PE X a ta) (hb:PE X b tb) (hm:behindInMarks op b=false):PT X (.Compare a [op] [b] pos) (Xp (tOp r ta tb)):=by
 intro pins s σ H Q I h
 refine wpAny_isTrue_Compare1 (thn (ha pins s σ H _ I h) fun v s1 ⟨x,H1,I1,r1,q1⟩=>thn (hb pins s1 σ H1 _ I1 q1) fun u s2 ⟨y,H2,I2,r2,q2⟩=>
  thn (ho pins s2 σ H2 x y v u _ I2 r1 r2 q2) fun c s3 ⟨z,H3,I3,r3,k,e,q3⟩=>?_) hm
 subst e
 cases r3
 exact wpAny_truthy_bool ⟨H3,I3,q3⟩
theorem yE:(sizeLine:Nat) < 2 ^ 63:=by rw[sizeLine_eq];decide
theorem Aa {x:V} {us:List Value} (r:bX [x] us):∃u,us=[u]∧cF x u:=by
 cases r with
 |cons r1 r2=>cases r2;exact⟨_,rfl,r1⟩
theorem Kp {x y:V} {us:List Value} (r:bX [x,y] us):∃u w',us=[u,w']∧cF x u∧cF y w':=by
 cases r with
 |cons r1 r2=>
  cases r2 with
  |cons r3 r4=>cases r4;exact⟨_,_,rfl,r1,r3⟩
theorem tF:rY X (.builtin "abs") (fun xs H Q=>∃i,xs=[.int i]∧Q (.int (if i < 0 then -i else i)) H):=by
 intro pins s σ H xs us Q I r h
 obtain⟨i,rfl,q⟩:=h
 obtain⟨u,rfl,t,rfl⟩:=Aa r
 exact call_abs_int fun u tk=>⟨.int (if i < 0 then -i else i),H,I.tok _,⟨_,rfl⟩,q⟩
end
structure De (h:Heap) (x dx C:Addr) (mA:Str→Option Value):Prop where
 obj:h.get? x=some (PySem.W.instObj C dx)
 ns:h.Ns1 dx mA
 ne:dx≠x
theorem Ib {h:Heap} {dx:Addr} {mA:Str→Option Value} (n:h.Ns1 dx mA):∃od,h.get? dx=some od∧∀name,PySem.W.lookIn name od=some (mA name):=by
 obtain⟨o,es,ep,ho,hd,hk,_,hm⟩:=n
 refine⟨o,ho,fun name=>?_⟩
 have e:=hm name
 unfold nsFind findBy at e
 rw[← Array.find?_toList] at e
 unfold PySem.W.lookIn
 rw[hd]
 dsimp only
 split
 ·rename_i y q
  rw[q] at e
  exact congrArg some e
 ·rename_i q
  rw[q] at e
  have a:es.toList.any (·.refKey)=false:=by
   rw[List.any_eq_false]
   intro y hy
   obtain⟨z,t,hkey⟩:=hk y (Array.mem_toList_iff.mp hy)
   simp[DictEntry.refKey,hkey]
  have a':¬es.toList.any (·.refKey)=true:=by rw[a];exact Bool.false_ne_true
  rw[if_neg a']
  exact congrArg some e
theorem De.look {h:Heap} {x dx C:Addr} {mA:Str→Option Value} (I:De h x dx C mA):∃od,PySem.W.InstAt h x (PySem.W.instObj C dx) C (some od)∧∀name,PySem.W.lookIn name od=some (mA name):=
 let ⟨od,ho,hl⟩:=Ib I.ns
 ⟨od,⟨I.obj,rfl,rfl,ho⟩,hl⟩
section
variable {prog:Program} {w:World} {A:Around} {E:Value→Shared→Prop} {s:Shared} {K:PySem.W.Frag} {x dx C f:Addr} {mA:Str→Option Value} {name:Str} {v:Value}
theorem Pe {expr:Bool} {Q:Value→Shared→Prop} (X:K.In s.heap) (I:De s.heap x dx C mA) (hg:PySem.W.plainGet K C name=true) (hh:PySem.W.hasDictIn K C=true)
  (ha:PySem.W.findIn K (.ref C) name=some none) (hv:mA name=some v) (hv':PySem.W.handedIn v=true) (h:Q v { s with toks:=s.toks+1 }) :
  wpAny (model prog w) A (getAttr (.ref x) name expr) Q E s:=by
 obtain⟨od,J,hl⟩:=I.look
 exact PySem.W.get_value X J (PySem.W.plainGet_of hg).1 (PySem.W.findObj_own hh ha rfl (by rw[hl,hv])) hv' h
theorem No {pl:Sem Bool} {Q:Value × List Value→Shared→Prop} (X:K.In s.heap) (I:De s.heap x dx C mA) (hg:PySem.W.plainGet K C name=true)
  (hf:PySem.W.findIn K (.ref C) name=some (some (.ref f))) (ht:PySem.W.isFn K (.ref f)=true) (hv:mA name=none) (h:Q (.ref f,[.ref x]) s) :
  wpAny (model prog w) A (getMethod (.ref x) name pl) Q E s:=by
 obtain⟨od,J,hl⟩:=I.look
 exact PySem.W.method_fn X J (PySem.W.plainGet_of hg).1 (PySem.W.plainGet_of hg).2 hf (beq_iff_eq.mp ht) (by show (PySem.W.lookIn name od).map (·.isSome)=some false;rw[hl,hv];rfl) h
theorem Rl {ns:List Str} {Q:Unit→Shared→Prop} (X:K.In s.heap) (I:De s.heap x dx C mA)
  (hs:PySem.W.findIn K (.ref C) "__setattr__"=some (some (.builtin "object.__setattr__"))) (hp:PySem.W.plainOver K C=true) (ht:PySem.W.takerIn K C name=some none) (hh:PySem.W.hasDictIn K C=true)
  (hw:PySem.Within mA ns) (hsz:ns.length≤sizeLine)
  (h:∀h',De h' x dx C (fun y=>if y=name then some v else mA y)→Heap.SameBut dx s.heap h'→Q () { s with heap:=h',toks:=s.toks+2 }) :
  wpAny (model prog w) A (setAttr (.ref x) name v) Q E s:=by
 obtain⟨od,J,hl⟩:=I.look
 refine PySem.W.set_plain X J hs (PySem.W.osa_open (s:={ s with toks:=s.toks+1 }) (r:=none) X J hp ht fun b=>?_)
 obtain⟨cd,hc,hd'⟩:=PySem.W.any_some hh
 have hx:s.heap.get? x=some ⟨.ref C,some dx,.plain,#[]⟩:=I.obj
 refine wpAny_bind (wpAny_pure (wpAny_bind (wpAny_bind (wpAny_loadPart hx (wpAny_bind (PySem.W.Looks.here (s:={ s with toks:=s.toks+1 }) (PySem.W.looks_clsIn X hc) ?_))))))
 rw[hd']
 refine wpAny_pure (a:=some dx) (wpAny_bind (wpAny_pure (wpAny_bind ?_)))
 refine wpAny_nsSet1 (s:={ s with toks:=s.toks+1 }) I.ns fun h' hn2 hs2=>?_
 obtain⟨oD,esD,epD,hoD,hdD,hcD⟩:=hn2.count (PySem.Within.cons name v hw)
 refine wpAny_bind (wpAny_lookBehind hoD (by rw[hdD];exact pastItsLine_dict (Nat.le_trans hcD (by rw[List.length_cons];omega))) ?_)
 exact wpAny_pure (h _ ⟨(hs2.2 _ (Ne.symm I.ne)).trans I.obj,hn2,I.ne⟩ hs2)
theorem Kt {R:Result→Shared→Prop} {vs:List Value} {kw:List (Str × Value)} (X:K.In s.heap) (hm:PySem.W.makesIn K C=true)
  (hi:PySem.W.findIn K (.ref C) "__init__"=some (some (.ref f))) (hf:PySem.W.typeIn K (.ref f)=some (.type "function"))
  (h:codeAny (model prog w) (A.under (.builtin "type.__call__" ⟨.ref C :: vs,kw⟩)) (.call (.ref f) ⟨.ref (s.heap.objs.size+1) :: vs,kw⟩) (PySem.W.InitBack (s.heap.objs.size+1) R)
   { s with heap:=(s.heap.push PySem.W.emptyDict).push (PySem.W.instObj C s.heap.objs.size) }) :
  codeAny (model prog w) A (.call (.ref C) ⟨vs,kw⟩) R s:=by
 obtain⟨hh,g,d,t,os⟩:=s
 exact PySem.W.make_core (PySem.W.makes_of X hm) (PySem.W.looks_findIn X hi) (fun self=>PySem.W.bind_fn X self hf) (.inl rfl) h
end
def dY (f:Str) (v:V):List (Str × V)→List (Str × V)
 | []=>[(f,v)]
 | (g,x) :: r=>if g=f then (g,v) :: r else (g,x) :: dY f v r
theorem bM (f g:Str) (v:V):∀fs:List (Str × V),(dY f v fs).lookup g=if g=f then some v else fs.lookup g
 | []=>by
  show List.lookup g [(f,v)]=_
  by_cases h:g=f
  ·have hb:(g == f)=true:=beq_iff_eq.mpr h
   simp only[List.lookup,hb,if_pos h]
  ·have hb:(g == f)=false:=beq_eq_false_iff_ne.mpr h
   simp only[List.lookup,hb,if_neg h]
 | (k,x) :: r=>by
  have ih:=bM f g v r
  rw[show dY f v ((k,x) :: r)=(if k=f then (k,v) :: r else (k,x) :: dY f v r) from rfl]
  by_cases hk:k=f
  ·rw[if_pos hk]
   by_cases h:g=k
   ·have hb:(g == k)=true:=beq_iff_eq.mpr h
    simp only[List.lookup,hb,if_pos (h.trans hk)]
   ·have hb:(g == k)=false:=beq_eq_false_iff_ne.mpr h
    simp only[List.lookup,hb,if_neg (fun e:g=f=>h (e.trans hk.symm))]
  ·rw[if_neg hk]
   by_cases h:g=k
   ·have hb:(g == k)=true:=beq_iff_eq.mpr h
    simp only[List.lookup,hb,if_neg (fun e:g=f=>hk (h.symm.trans e))]
   ·have hb:(g == k)=false:=beq_eq_false_iff_ne.mpr h
    simp only[List.lookup,hb]
    exact ih
theorem pG (f:Str) (v:V):∀fs:List (Str × V),f∈(dY f v fs).map (·.1)∧∀g,g∈fs.map (·.1)→g∈(dY f v fs).map (·.1)
 | []=>⟨by simp[dY],fun g h=>by simp at h⟩
 | (k,x) :: r=>by
  obtain⟨i1,i2⟩:=pG f v r
  rw[show dY f v ((k,x) :: r)=(if k=f then (k,v) :: r else (k,x) :: dY f v r) from rfl]
  by_cases hk:k=f
  ·rw[if_pos hk]
   subst hk
   exact⟨by simp,fun g h=>by simpa using h⟩
  ·rw[if_neg hk]
   refine⟨?_,fun g h=>?_⟩
   ·rw[List.map_cons]
    exact List.mem_cons_of_mem _ i1
   ·rw[List.map_cons] at h ⊢
    rcases List.mem_cons.mp h with e | e
    ·exact List.mem_cons.mpr (.inl e)
    ·exact List.mem_cons_of_mem _ (i2 g e)
theorem eP (f:Str) (v:V):∀fs:List (Str × V),(dY f v fs).length≤fs.length+1
 | []=>by simp[dY]
 | (k,x) :: r=>by
  have ih:=eP f v r
  rw[show dY f v ((k,x) :: r)=(if k=f then (k,v) :: r else (k,x) :: dY f v r) from rfl]
  by_cases hk:k=f
  ·rw[if_pos hk,List.length_cons,List.length_cons];omega
  ·rw[if_neg hk,List.length_cons,List.length_cons];omega
theorem jZ.some_of {v:V} {o:Option Value} (r:jZ (some v) o):∃u,o=some u∧cF v u:=by
 cases o with
 |none=>exact(show False from r).elim
 |some u=>exact⟨u,rfl,r⟩
theorem jZ.none_of {o:Option Value} (r:jZ none o):o=none:=by
 cases o with
 |none=>rfl
 |some u=>exact(show False from r).elim
theorem Ha {v:V} {u:Value} (r:cF v u):PySem.W.handedIn u=true:=by
 cases v with
 |non=>cases (show u=Value.none from r);rfl
 |bl b=>cases (show u=Value.bool b from r);rfl
 |int i=>obtain⟨t,e⟩:=(show ∃t,u=Value.int i t from r);cases e;rfl
 |str x=>obtain⟨t,e⟩:=(show ∃t,u=Value.str x t from r);cases e;rfl
 |byt b=>obtain⟨t,e⟩:=(show ∃t,u=Value.bytes b t from r);cases e;rfl
 |flt b=>obtain⟨t,e⟩:=(show ∃t,u=Value.float b t from r);cases e;rfl
 |ref a=>cases (show u=Value.ref a from r);rfl
 |ty n=>cases (show u=Value.type n from r);rfl
section
variable {P:Program} {w:World} {H H':Hp} {h h':Heap} {a C dx:Addr} {fs fs':List (Str × V)}
theorem rL (hok:HOk P w H h) (e:H a=some (.ins C dx fs)):∃mA,De h a dx C mA∧(∀f,jZ (fs.lookup f) (mA f))∧PySem.Within mA (fs.map (·.1))∧fs.length≤1000∧H dx=some (.own a):=by
 obtain⟨d,z,ne,ob,mA,n,r,q⟩:=(show dI P w H h a (.ins C dx fs) from hok a _ e)
 exact⟨mA,⟨ob,n,ne⟩,r,q,z,d⟩
end
structure Cls (K:PySem.W.Frag) (C:Addr):Prop where
 pg:PySem.W.plainGet K C Str.empty=true
 hd:PySem.W.hasDictIn K C=true
 po:PySem.W.plainOver K C=true
 sa:PySem.W.findIn K (.ref C) "__setattr__"=some (some (.builtin "object.__setattr__"))
theorem Cls.get {K:PySem.W.Frag} {C:Addr} (c:Cls K C) (f:Str):PySem.W.plainGet K C f=true:=c.pg
def gE (K:PySem.W.Frag) (C:Addr) (f:Str):Prop:=PySem.W.findIn K (.ref C) f=some none
theorem gE.taker {K:PySem.W.Frag} {C:Addr} {f:Str} (n:gE K C f):PySem.W.takerIn K C f=some none:=by
 unfold PySem.W.takerIn
 rw[show PySem.W.findIn K (.ref C) f=some none from n]
 rfl
structure gD (K:PySem.W.Frag) (C:Addr) (m:Str) (f:Addr):Prop where
 at_:PySem.W.findIn K (.ref C) m=some (some (.ref f))
 fn:PySem.W.isFn K (.ref f)=true
 kp:PySem.W.keepIn K (.ref f)=true
section
variable {X:Cx} {pins:List (Addr × Obj)} {σ:St} {H:Hp} {s:Shared} {a C dx:Addr} {fs:List (Str × V)} {f:Str} {v:V} {A:Around} {E:Value→Shared→Prop}
theorem Ck {b:Bool} {Q:Value→Shared→Prop} (I:Inv X pins σ H s) (e:H a=some (.ins C dx fs)) (c:Cls X.K C) (n:gE X.K C f) (l:fs.lookup f=some v)
  (h:∀u s',Inv X pins σ H s'→cF v u→Q u s'):wpAny (model X.prog X.w) A (getAttr (.ref a) f b) Q E s:=by
 obtain⟨mA,O,r,_,_,_⟩:=rL I.hok e
 obtain⟨u,hu,ru⟩:=jZ.some_of (v:=v) (o:=mA f) (by rw[← l];exact r f)
 exact Pe I.kIn O (c.get f) c.hd n hu (Ha ru) (h u _ (I.tok _) ru)
theorem jR {m:Str} {g:Addr} {pl:Sem Bool} {Q:Value × List Value→Shared→Prop} (I:Inv X pins σ H s) (e:H a=some (.ins C dx fs)) (c:Cls X.K C) (k:gD X.K C m g) (l:fs.lookup m=none)
  (h:Q (.ref g,[.ref a]) s):wpAny (model X.prog X.w) A (getMethod (.ref a) m pl) Q E s:=by
 obtain⟨mA,O,r,_,_,_⟩:=rL I.hok e
 have hn:mA m=none:=jZ.none_of (by rw[← l];exact r m)
 exact No I.kIn O (c.get m) k.at_ k.fn hn h
theorem Bu {y:V} {u:Value} {Q:Unit→Shared→Prop} (I:Inv X pins σ H s) (e:H a=some (.ins C dx fs)) (c:Cls X.K C) (n:gE X.K C f) (hl:fs.length < 1000) (ry:cF y u)
  (h:∀s',Inv X pins σ (upd H a (.ins C dx (dY f y fs))) s'→Q () s'):wpAny (model X.prog X.w) A (setAttr (.ref a) f u) Q E s:=by
 obtain⟨mA,O,r,wi,_,ho⟩:=rL I.hok e
 have hz:(fs.map (·.1)).length≤sizeLine:=by rw[List.length_map,sizeLine_eq];omega
 refine Rl I.kIn O c.sa c.po n.taker c.hd wi hz fun h' O' sb=>h _ ?_
 have hd:∃o,h'.get? dx=some o:=let ⟨o,_,_,e',_⟩:=O'.ns;⟨o,e'⟩
 refine I.write (x:=a) (e:=dx) (by rw[e];exact True.intro) (.inr ho) (fun b q hb z=>(sb.2 b hb).trans z) hd ?_
 refine⟨by rw[aW O.ne];exact ho,?_,O.ne,O'.obj,_,O'.ns,fun g=>?_,fun g hg=>?_⟩
 ·have:=eP f y fs;omega
 ·show jZ ((dY f y fs).lookup g) (if g=f then some u else mA g)
  rw[bM]
  by_cases q:g=f
  ·rw[if_pos q,if_pos q];exact ry
  ·rw[if_neg q,if_neg q];exact r g
 ·by_cases q:g=f
  ·rw[q];exact(pG f y fs).1
  ·refine(pG f y fs).2 g (wi g fun z=>hg ?_)
   show (if g=f then some u else mA g)=none
   rw[if_neg q];exact z
theorem Inv.made (I:Inv X pins σ H s):Inv X pins σ (upd (upd H s.heap.objs.size (.own (s.heap.objs.size+1))) (s.heap.objs.size+1) (.ins C s.heap.objs.size []))
  { s with heap:=(s.heap.push PySem.W.emptyDict).push (PySem.W.instObj C s.heap.objs.size) }:=by
 have e1:(s.heap.push PySem.W.emptyDict).get? s.heap.objs.size=some PySem.W.emptyDict:=Heap.get?_push_size s.heap rfl
 have e2:((s.heap.push PySem.W.emptyDict).push (PySem.W.instObj C s.heap.objs.size)).get? (s.heap.objs.size+1)=some (PySem.W.instObj C s.heap.objs.size):=by
  have:=Heap.get?_push_size (s.heap.push PySem.W.emptyDict) (o:=PySem.W.instObj C s.heap.objs.size) rfl
  rwa [Heap.size_push] at this
 have e3:(s.heap.push PySem.W.emptyDict).Ns s.heap.objs.size (fun _=>none):=⟨PySem.W.emptyDict,#[],_,e1,rfl,(fun e he=>absurd he (by simp)),fun _=>rfl⟩
 have I1:=I.laid (a:=s.heap.objs.size) (o:=.own (s.heap.objs.size+1)) (h':=s.heap.push PySem.W.emptyDict) (t':=s.toks) (fun b u q=>Heap.get?_push_of_some _ q) (Nat.le_refl _) ⟨_,e1⟩
 refine I1.laid (a:=s.heap.objs.size+1) (o:=.ins C s.heap.objs.size []) (t':=s.toks) (fun b u q=>Heap.get?_push_of_some _ q) (Nat.le_of_eq (Heap.size_push _ _)) ?_
 have ne:s.heap.objs.size≠s.heap.objs.size+1:=Nat.ne_of_lt (Nat.lt_succ_self _)
 refine⟨by rw[aW ne,aC],Nat.zero_le _,ne,e2,fun _=>none,(Heap.Ns1.of_empty e3).at fun o q=>Heap.get?_push_of_some _ q,fun _=>True.intro,fun y hy=>absurd rfl hy⟩
theorem Pk {prog:Program} {w:World} {env:Env} {e:Expr} {f:Str} {pos:Pos} {s:Shared} {Q:Value→Shared→Prop} (hb:attributeBase e f env (eval e env)=eval e env)
  (h:wpAny (model prog w) A (eval e env) (fun o s₁=>wpAny (model prog w) A (getAttr o f true) Q E s₁) E s):wpAny (model prog w) A (eval (.Attribute e f pos) env) Q E s:=
 Attribute_any_ h (by rw[arm_eval_Attribute,hb])
end
def Yw (K:PySem.W.Frag) (ta:TE) (f:Str):TE:=fun σ H Q=>ta σ H fun x H1=>∃a C dx fs v,x=.ref a∧H1 a=some (.ins C dx fs)∧Cls K C∧gE K C f∧fs.lookup f=some v∧Q v H1
def Zc (K:PySem.W.Frag) (ta tv:TE) (f:Str):TS:=fun D σ H=>tv σ H fun y H1=>ta σ H1 fun x H2=>∃a C dx fs,x=.ref a∧H2 a=some (.ins C dx fs)∧Cls K C∧gE K C f∧fs.length < 1000∧
 D.nx σ (upd H2 a (.ins C dx (dY f y fs)))
section
variable {X:Cx} {o e value:Expr} {f:Str} {pos pos' tpos:Pos} {ta tv:TE}
theorem bV (he:PE X e ta) (hb:attributeBase e f X.env (eval e X.env)=eval e X.env):PE X (.Attribute e f pos) (Yw X.K ta f):=by
 intro pins s σ H Q I h
 refine Pk hb (thn (he pins s σ H _ I h) fun u s1 ⟨x,H1,I1,rx,a,C,dx,fs,v,ex,ea,c,n,l,q⟩=>?_)
 subst ex
 obtain rfl:u=Value.ref a:=rx
 exact Ck I1 ea c n l fun u' s2 I2 ru=>⟨v,H1,I2,ru,q⟩
theorem kI (ha:PE X o ta) (hv:PE X value tv) (hs:swapsWith value (some (.Attribute o f pos')) pos.line X.env=pure false):PS X (.Assign [.Attribute o f pos'] value pos) (Zc X.K ta tv f):=by
 intro pins s σ H D I h
 refine plainObj_wpAny_Assign_Attribute (thn (hv pins s σ H _ I h) fun u s1 ⟨y,H1,I1,ry,q⟩=>thn (ha pins s1 σ H1 _ I1 q) fun ov s2 ⟨x,H2,I2,rx,a,C,dx,fs,ex,ea,c,n,l,q2⟩=>?_) hs
 subst ex
 obtain rfl:ov=Value.ref a:=rx
 exact Bu I2 ea c n l ry fun s3 I3=>⟨σ,_,I3,q2⟩
end
section
variable {X:Cx} {pins:List (Addr × Obj)} {σ:St} {H:Hp} {s:Shared} {A:Around} {E:Value→Shared→Prop} {Q:Value→Shared→Prop} {c:Value} {b:Bool}
inductive mE (K:PySem.W.Frag) (H:Hp):V→Value→Prop where
 |non:mE K H .non (.type "NoneType")
 |bl (x:Bool):mE K H (.bl x) (.type "bool")
 |int (i:Int):mE K H (.int i) (.type "int")
 |str (x:Str):mE K H (.str x) (.type "str")
 |flt (x:UInt64):mE K H (.flt x) (.type "float")
 |lst {a:Addr} {xs:List V} (e:H a=some (.lst xs)):mE K H (.ref a) (.type "list")
 |frz {a:Addr} {o:Obj} {xs:List V} (e:H a=some (.frz o (.lst xs))):mE K H (.ref a) (.type "list")
 |tup {a:Addr} {xs:List V} (e:H a=some (.tup xs)):mE K H (.ref a) (.type "tuple")
 |dK {a:Addr} {kvs:List (Key × V)} (e:H a=some (.dK kvs)):mE K H (.ref a) (.type "dict")
 |dT {a:Addr} {kvs:List (List Key × V)} (e:H a=some (.dT kvs)):mE K H (.ref a) (.type "dict")
 |ins {a C dx:Addr} {fs:List (Str × V)} (e:H a=some (.ins C dx fs)) (cl:Cls K C) (ha:PySem.W.findIn K (.ref C) "__class__"=some (some (.builtin "object.__class__")))
   (hn:PySem.W.specialIn K (.builtin "object.__class__") "__get__"=some (some (.builtin "getset_descriptor.__get__"))) (htk:PySem.W.takesIn K (.builtin "object.__class__")=some true)
   (hm:PySem.W.mroIn K C (.type "object")=some true):mE K H (.ref a) (.ref C)
theorem Il {x:V} {u t:Value} (I:Inv X pins σ H s) (rx:cF x u) (ty:mE X.K H x t) (e:PySem.W.kitOne X.K t c=some b) (h:∀tk,Q (.bool b) { s with toks:=tk }) :
  wpAny (model X.prog X.w) A (call (.builtin "isinstance") [u,c]) Q E s:=by
 cases ty with
 |non=>cases (show u=Value.none from rx);exact PySem.W.kia_one PySem.W.kitx_none I.kIn True.intro e (fun z=>nomatch z) h
 |bl y=>cases (show u=Value.bool y from rx);exact PySem.W.kia_one PySem.W.kitx_bool I.kIn True.intro e (fun z=>nomatch z) h
 |int i=>obtain⟨t,q⟩:=(show ∃t,u=Value.int i t from rx);cases q;exact PySem.W.kia_one PySem.W.kitx_int I.kIn True.intro e (fun z=>nomatch z) h
 |str y=>obtain⟨t,q⟩:=(show ∃t,u=Value.str y t from rx);cases q;exact PySem.W.kia_one PySem.W.kitx_str I.kIn True.intro e (fun z=>nomatch z) h
 |flt y=>obtain⟨t,q⟩:=(show ∃t,u=Value.float y t from rx);cases q;exact PySem.W.kia_one PySem.W.kitx_float I.kIn True.intro e (fun z=>nomatch z) h
 | @lst a xs ea=>
  cases (show u=Value.ref a from rx)
  obtain⟨_,_,n,_,h1⟩:=(show dI X.prog X.w H s.heap a (.lst xs) from I.hok a _ ea)
  exact PySem.W.kia_one PySem.W.kitx_list I.kIn ⟨_,h1,rfl⟩ e (fun z=>nomatch z) h
 | @frz a ob xs ea=>
  cases (show u=Value.ref a from rx)
  obtain⟨_,_,_,n,_,h1⟩:=(show dI X.prog X.w H s.heap a (.frz ob (.lst xs)) from I.hok a _ ea)
  exact PySem.W.kia_one PySem.W.kitx_list I.kIn ⟨_,h1,rfl⟩ e (fun z=>nomatch z) h
 | @tup a xs ea=>
  cases (show u=Value.ref a from rx)
  obtain⟨_,_,_,p⟩:=(show dI X.prog X.w H s.heap a (.tup xs) from I.hok a _ ea)
  obtain⟨o,h1,h2,_⟩:=p
  exact PySem.W.kia_one PySem.W.kitx_tuple I.kIn ⟨o,h1,h2⟩ e (fun z=>nomatch z) h
 | @dK a kvs ea=>
  cases (show u=Value.ref a from rx)
  obtain⟨_,_,vs,_,p⟩:=(show dI X.prog X.w H s.heap a (.dK kvs) from I.hok a _ ea)
  obtain⟨o,es,ep,h1,h2,_⟩:=p
  exact PySem.W.kia_one PySem.W.kitx_dict I.kIn ⟨o,h1,h2.1⟩ e (fun z=>nomatch z) h
 | @dT a kvs ea=>
  cases (show u=Value.ref a from rx)
  obtain⟨_,_,xs,_,o,es,ep,h1,h2,_⟩:=(show dI X.prog X.w H s.heap a (.dT kvs) from I.hok a _ ea)
  exact PySem.W.kia_one PySem.W.kitx_dict I.kIn ⟨o,h1,h2.1⟩ e (fun z=>nomatch z) h
 | @ins a C dx fs ea cl ha hn htk hm=>
  cases (show u=Value.ref a from rx)
  obtain⟨mA,O,_⟩:=rL I.hok ea
  obtain⟨od,J,_⟩:=O.look
  exact PySem.W.kia_one (PySem.W.kitx_own (cl.get _) cl.hd ha hn htk hm) I.kIn J e (fun z=>nomatch z) h
end
structure gG (k:Nat) (A:Around):Prop where
 hd:A.handled=none
 dp:A.depth+3*k+5 < recursionLimit
 un:A.units+16*k+200 < cLine
theorem gG.mono {j k:Nat} {A:Around} (r:gG k A) (h:j≤k):gG j A:=⟨r.hd,by have:=r.dp;omega,by have:=r.un;omega⟩
theorem gG.deeper {k:Nat} {A:Around} (r:gG (k+1) A) (env:Env):gG k (A.deeper env):=
 ⟨r.hd,by have:=r.dp;show A.depth+1+3*k+5 < _;omega,by have:=r.un;show A.units+3+16*k+200 < _;omega⟩
theorem Co {A:Around} {C:Addr} {us:List Value} {kw:List (Str × Value)}:(A.under (.builtin "type.__call__" ⟨.ref C :: us,kw⟩)).depth=A.depth+1:=by
 first | rfl | simp[Around.under,Code.weight,Code.isCreation,Code.isGuard,Code.isCaller,Code.frames,Code.isFrame,guardIds]
theorem Bh {A:Around} {C:Addr} {us:List Value} {kw:List (Str × Value)}:(A.under (.builtin "type.__call__" ⟨.ref C :: us,kw⟩)).units=A.units+1:=by
 first | rfl | simp[Around.under,Code.cUnits,Code.frames,Code.isFrame]
theorem gG.make {k:Nat} {A:Around} (r:gG (k+1) A) (C:Addr) (us:List Value) (kw:List (Str × Value)):gG k (A.under (.builtin "type.__call__" ⟨.ref C :: us,kw⟩)):=
 ⟨r.hd,by have:=r.dp;rw[Co];omega,by have:=r.un;rw[Bh];omega⟩
theorem gG.depth {k:Nat} {A:Around} (r:gG k A):A.depth < recursionLimit:=by have:=r.dp;omega
theorem gG.units {k:Nat} {A:Around} (r:gG k A):A.units+64 < cLine:=by have:=r.un;omega
def Ta:TA:=fun _ H Q=>Q [] H
def Wk (ta:TE) (tr:TA):TA:=fun σ H Q=>ta σ H fun x H1=>tr σ H1 fun xs H2=>Q (x :: xs) H2
section
variable {X:Cx} {e:Expr} {es:List Expr} {te:TE} {t:TA} {pos:Pos}
theorem aE:PA X [] Ta:=fun _ _ _ _ H Q I h=>Calls.spliced_nil ⟨[],H,I,.nil,h⟩
theorem aA (ha:PE X e te) (hr:PA X es t) (hs:starEach (e :: es) X.env=(false,eval e X.env) :: starEach es X.env:=by rfl):PA X (e :: es) (Wk te t):=by
 intro pos pins s σ H Q I h
 rw[hs]
 show wpAny _ _ (spliced ((false,eval e X.env) :: backTo pos (starEach es X.env))) _ _ s
 refine Calls.spliced_cons (thn (ha pins s σ H _ I h) fun u s1 ⟨x,H1,I1,r1,q1⟩=>?_)
 exact thn (hr pos pins s1 σ H1 _ I1 q1) fun us s2 ⟨xs,H2,I2,r2,q2⟩=>⟨x :: xs,H2,I2,.cons r1 r2,q2⟩
def Xg (t:TA):TE:=fun σ H Q=>t σ H fun xs H1=>xs.length≤sizeLine∧∀p,H1 p=none→Q (.ref p) (upd H1 p (.tup xs))
def Zj (t:TA):TE:=fun σ H Q=>t σ H fun xs H1=>xs.length≤sizeLine∧∀p,H1 p=none→Q (.ref p) (upd H1 p (.lst xs))
theorem cW {x1} (h:PA X es t):PE X (.Tuple es x1 pos) (Xg t):=by
 intro pins s σ H Q I hq
 refine wpAny_Tuple_spliced (thn (h pos pins s σ H _ I hq) fun us s1 ⟨xs,H1,I1,r,z,q⟩=>⟨by rw[← r.length];exact z,?_⟩)
 have hf:H1 s1.heap.objs.size=none:=I1.hok.fresh (Nat.le_refl _)
 refine⟨.ref s1.heap.objs.size,upd H1 s1.heap.objs.size (.tup xs),I1.laid (t':=s1.toks) (fun b u e=>Heap.get?_push_of_some _ e) (Nat.le_refl _) ?_,rfl,q _ hf⟩
 exact⟨z,us,r,⟨_,Heap.get?_push_size _ rfl,rfl,_,rfl⟩⟩
theorem cS (h:PA X es t):PE X (.List es pos) (Zj t):=by
 intro pins s σ H Q I hq
 refine wpAny_List_spliced (thn (h pos pins s σ H _ I hq) fun us s1 ⟨xs,H1,I1,r,z,q⟩=>⟨by rw[← r.length];exact z,?_⟩)
 have hf:H1 s1.heap.objs.size=none:=I1.hok.fresh (Nat.le_refl _)
 refine⟨.ref s1.heap.objs.size,upd H1 s1.heap.objs.size (.lst xs),I1.laid (t':=s1.toks) (fun b u e=>Heap.get?_push_of_some _ e) (Nat.le_refl _) ?_,rfl,q _ hf⟩
 exact⟨z,us,0,r,Heap.get?_push_size _ rfl⟩
end
abbrev Sp:=List V→Hp→VK→XK→Prop
abbrev CXT:=List Env→Hp→Shared→XK→Value→Shared→Prop
structure Cm (P:Program) (w:World) (K:PySem.W.Frag) (mg:Str→Option Value) (base:Heap) (A:Around) (outer:List Env) (s:Shared) (H:Hp):Prop where
 frames:A.frames=some outer
 mod:Mod K mg base
 bs:∀b o,base.get? b=some o→s.heap.get? b=some o∧H b=none
 bsz:base.objs.size≤s.heap.objs.size
 funs:s.heap.FunFrames base outer
 frf:∀b∈frs outer,H b=none
 hok:HOk P w H s.heap
 bare:AllBare s.gens
def CE (outer:List Env) (P:Program) (w:World) (H:Hp) (s:Shared) (Q:VK) (u:Value) (s':Shared):Prop:=
 ∃v H',s'.os=s.os∧AllBare s'.gens∧Un (frs outer) [] H H' s.heap s'.heap∧HOk P w H' s'.heap∧cF v u∧Q v H'
def CR (CX:CXT) (outer:List Env) (P:Program) (w:World) (H:Hp) (s:Shared) (Q:VK) (E:XK) (r:Result) (s':Shared):Prop:=
 match r with
 | .ok (.ret u)=>CE outer P w H s Q u s'
 | .ok _=>False
 | .error e=>CX outer H s E e s'
structure aP (P:Program) (w:World) (K:PySem.W.Frag) (mg:Str→Option Value) (base:Heap) (CX:CXT) (k:Nat) (f:Addr) (fd:FuncData) (ps:List Str) (sp:Sp):Prop where
 len:∀vs H Q E,sp vs H Q E→vs.length=ps.length
 run:∀(A:Around) (outer:List Env) (s:Shared) (H:Hp) (args:Args) (us:List Value) (vs:List V) (Q:VK) (E:XK),gG k A→Cm P w K mg base A outer s H→BindsTo s fd args (ps.zip us)→bX vs us→sp vs H Q E→
  codeAny (model P w) A (.call (.ref f) args) (CR CX outer P w H s Q E) s
theorem Cm.make {P:Program} {w:World} {K:PySem.W.Frag} {mg:Str→Option Value} {base:Heap} {A:Around} {outer:List Env} {s:Shared} {H:Hp} (e:Cm P w K mg base A outer s H) (C:Addr) (us:List Value) (kw:List (Str × Value)) :
  Cm P w K mg base (A.under (.builtin "type.__call__" ⟨.ref C :: us,kw⟩)) outer s H:=⟨by first | exact e.frames | (simpa[Around.under,Code.envs,Code.isFrame,pushEnvs] using e.frames),e.mod,e.bs,e.bsz,e.funs,e.frf,e.hok,e.bare⟩
section
variable {X:Cx} {pins:List (Addr × Obj)} {σ:St} {H:Hp} {s s':Shared}
theorem Inv.env0 (I:Inv X pins σ H s):Cm X.prog X.w X.K X.mg X.base X.A X.stack s H:=
 ⟨I.ok.frames,I.ok.mod,I.bs,Nat.le_trans I.ok.bsz I.sz,I.stack,I.stkFree,I.hok,I.bare⟩
theorem Inv.after {Q:VK} {u:Value} (I:Inv X pins σ H s) (h:CE X.stack X.prog X.w H s Q u s'):EP X pins σ Q u s':=by
 obtain⟨v,H',os,bare,un,hok,r,q⟩:=h
 obtain⟨hh,g,d,t,os'⟩:=s'
 obtain rfl:os'=s.os:=os
 exact⟨v,H',I.call (h':=hh) (g':=g) (d':=d) (t':=t) (ch:=[]) un hok bare (fun b z=>absurd z (by simp)),r,q⟩
end
def Wc (sp:Sp) (dvs:List V) (E:XK) (t:TA):TE:=fun σ H Q=>t σ H fun vs H1=>sp (vs++dvs) H1 Q E
def Si (C:Addr) (m:Str) (sp:Sp) (dvs:List V) (E:XK) (ta:TE) (t:TA):TE:=fun σ H Q=>ta σ H fun x H1=>∃a dx fs,x=.ref a∧H1 a=some (.ins C dx fs)∧fs.lookup m=none∧
 t σ H1 fun vs H2=>sp (x :: (vs++dvs)) H2 Q E
def Xc (C:Addr) (sp:Sp) (dvs:List V) (E:XK) (t:TA):TE:=fun σ H Q=>t σ H fun vs H1=>∀x dx,H1 x=none→H1 dx=none→dx≠x→
 sp (.ref x :: (vs++dvs)) (upd (upd H1 dx (.own x)) x (.ins C dx [])) (fun v H2=>v=.non∧Q (.ref x) H2) E
def aR (K:PySem.W.Frag) (fd:FuncData) (ps:List Str) (ds:List Value):Prop:=
 ∀(s:Shared) (us:List Value),K.In s.heap→(us++ds).length=ps.length→BindsTo s fd ⟨us,[]⟩ (ps.zip (us++ds))
theorem aR.all {K:PySem.W.Frag} {fd:FuncData} {ps:List Str} (h:∀us:List Value,us.length=ps.length→bindArgs fd ⟨us,[]⟩=pure (ps.zip us)):aR K fd ps []:=fun s us _ hl=>by
 rw[List.append_nil] at hl ⊢
 exact .of_eq (h us hl)
def jJ (CX:CXT) (X:Cx) (E:XK):Prop:=∀(pins:List (Addr × Obj)) (σ:St) (H:Hp) (s:Shared) (e:Value) (s':Shared),Inv X pins σ H s→CX X.stack H s E e s'→X.xe e s'
section
variable {X:Cx} {CX:CXT} {k:Nat} {f C:Addr} {fd:FuncData} {ps:List Str} {sp:Sp} {dvs:List V} {ds:List Value} {E:XK} {x m:Str} {p pos apos:Pos} {e o:Expr} {es:List Expr} {ta:TE} {t:TA}
theorem sR {pins:List (Addr × Obj)} {σ:St} {H:Hp} {s:Shared} {Q:VK} {us:List Value} {vs:List V} (F:aP X.prog X.w X.K X.mg X.base CX k f fd ps sp) (hr:gG k X.A) (hb:aR X.K fd ps ds) (hd:bX dvs ds) (hx:jJ CX X E)
  (I:Inv X pins σ H s) (r:bX vs us) (h:sp (vs++dvs) H Q E):wpAny (model X.prog X.w) X.A (call (.ref f) us) (EP X pins σ Q) X.xe s:=by
 have r2:bX (vs++dvs) (us++ds):=r.append hd
 have hl:(us++ds).length=ps.length:=by rw[← r2.length];exact F.len _ _ _ _ h
 refine wpAny_call (codeAny_mono (F.run X.A X.stack s H ⟨us,[]⟩ (us++ds) (vs++dvs) Q E hr I.env0 (hb s us I.kIn hl) r2 h) fun r s' hq=>?_)
 cases r with
 |error e=>exact hx pins σ H s e s' I hq
 |ok fl=>
  cases fl with
  |ret u=>exact I.after hq
  |next=>exact False.elim hq
  |brk=>exact False.elim hq
  |cont=>exact False.elim hq
theorem aI (F:aP X.prog X.w X.K X.mg X.base CX k f fd ps sp) (hr:gG k X.A) (hg:Gl X x) (hm:X.mg x=some (.ref f)) (hk:PySem.W.keepIn X.K (.ref f)=true) (hb:aR X.K fd ps ds) (hd:bX dvs ds) (hx:jJ CX X E)
  (ha:PA X (e :: es) t) (hdb:(x == ("__debug__":Str))=false:=by decide) (he:starEach (e :: es) X.env=(false,eval e X.env) :: starEach es X.env:=by rfl) (hpl:(backTo pos (starEach es X.env)).any (·.1)=false:=by rfl) :
  PE X (.Call (.Name x p) (e :: es) [] pos) (Wc sp dvs E t):=by
 intro pins s σ H Q I h
 refine wpAny_Call_Name_kw (yI I hg hm ?_ hdb)
 refine PySem.W.callWith_K (h₀:=X.base) I.ok.mod.kin hk (thn (ha pos pins s σ H _ I h) fun us s1 ⟨vs,H1,I1,r,q⟩=>⟨I1.kIn,?_⟩) he hpl
 exact sR F hr hb hd hx I1 r q
theorem wU {pl:Sem Bool} (he:PE X o ta) (c:Cls X.K C) (hm:gD X.K C m f) (F:aP X.prog X.w X.K X.mg X.base CX k f fd ps sp) (hr:gG k X.A) (hb:aR X.K fd ps ds) (hd:bX dvs ds) (hx:jJ CX X E) (ha:PA X (e :: es) t)
  (hst:starEach (e :: es) X.env=(false,eval e X.env) :: starEach es X.env:=by rfl) (hpl:(backTo pos (starEach es X.env)).any (·.1)=false:=by rfl)
  (ht:eval (.Call (.Attribute o m apos) (e :: es) [] pos) X.env=(do
   let ov ← eval o X.env
   standAt apos.atName
   let (f,first) ← holding [ov] (getMethod ov m pl)
   callWith pos f first (backTo pos (starEach (e :: es) X.env)) (backToKw pos (keywordEach [] X.env))):=by rfl) :
  PE X (.Call (.Attribute o m apos) (e :: es) [] pos) (Si C m sp dvs E ta t):=by
 intro pins s σ H Q I h
 refine PySem.W.methodCall_KW (pl:=pl) (thn (he pins s σ H _ I h) fun u s1 ⟨x,H1,I1,rx,a,dx,fs,ex,ea,l,q⟩=>?_) ht
 subst ex
 obtain rfl:u=Value.ref a:=rx
 refine jR I1 ea c hm l ?_
 refine PySem.W.callWith_K (first:=[.ref a]) (h₀:=X.base) I.ok.mod.kin hm.kp (thn (ha pos pins s1 σ H1 _ I1 q) fun us s2 ⟨vs,H2,I2,r,q2⟩=>⟨I2.kIn,?_⟩) hst hpl
 exact sR (us:=.ref a :: us) (vs:=.ref a :: vs) F hr hb hd hx I2 (.cons rfl r) q2
theorem fF {pl:Sem Bool} (he:PE X o ta) (c:Cls X.K C) (hm:gD X.K C m f) (F:aP X.prog X.w X.K X.mg X.base CX k f fd ps sp) (hr:gG k X.A) (hb:aR X.K fd ps ds) (hd:bX dvs ds) (hx:jJ CX X E)
  (ht:eval (.Call (.Attribute o m apos) [] [] pos) X.env=(do
   let ov ← eval o X.env
   standAt apos.atName
   let (f,first) ← holding [ov] (getMethod ov m pl)
   callWith pos f first (backTo pos (starEach [] X.env)) (backToKw pos (keywordEach [] X.env))):=by rfl) :
  PE X (.Call (.Attribute o m apos) [] [] pos) (Si C m sp dvs E ta Ta):=by
 intro pins s σ H Q I h
 refine PySem.W.methodCall_KW (pl:=pl) (thn (he pins s σ H _ I h) fun u s1 ⟨x,H1,I1,rx,a,dx,fs,ex,ea,l,q⟩=>?_) ht
 subst ex
 obtain rfl:u=Value.ref a:=rx
 refine jR I1 ea c hm l ?_
 exact PySem.W.callWith_K0 (first:=[.ref a]) I1.kIn hm.kp (sR (us:=[.ref a]) (vs:=[.ref a]) F hr hb hd hx I1 (.cons rfl .nil) q)
structure Mk (K:PySem.W.Frag) (C f:Addr):Prop where
 makes:PySem.W.makesIn K C=true
 init:PySem.W.findIn K (.ref C) "__init__"=some (some (.ref f))
 fn:PySem.W.isFn K (.ref f)=true
 kp:PySem.W.keepIn K (.ref C)=true
theorem Jh {pins:List (Addr × Obj)} {σ:St} {H:Hp} {s:Shared} {Q:VK} {us:List Value} {vs:List V} (M:Mk X.K C f) (F:aP X.prog X.w X.K X.mg X.base CX k f fd ps sp) (hr:gG (k+1) X.A) (hb:aR X.K fd ps ds) (hd:bX dvs ds)
  (hx:jJ CX X E) (I:Inv X pins σ H s) (r:bX vs us)
  (h:∀x dx,H x=none→H dx=none→dx≠x→sp (.ref x :: (vs++dvs)) (upd (upd H dx (.own x)) x (.ins C dx [])) (fun v H2=>v=.non∧Q (.ref x) H2) E) :
  wpAny (model X.prog X.w) X.A (call (.ref C) us) (EP X pins σ Q) X.xe s:=by
 have hq:=h (s.heap.objs.size+1) s.heap.objs.size (I.hok.fresh (Nat.le_succ _)) (I.hok.fresh (Nat.le_refl _)) (Nat.ne_of_lt (Nat.lt_succ_self _))
 have I2:=Inv.made (C:=C) I
 have r2:bX (V.ref (s.heap.objs.size+1) :: (vs++dvs)) (Value.ref (s.heap.objs.size+1) :: (us++ds)):=.cons rfl (r.append hd)
 have hl:(Value.ref (s.heap.objs.size+1) :: us++ds).length=ps.length:=by
  have e:=r2.length
  rw[F.len _ _ _ _ hq] at e
  exact e.symm
 refine wpAny_call (Kt (f:=f) I.kIn M.makes M.init (beq_iff_eq.mp M.fn) (codeAny_mono (F.run _ X.stack _ _ ⟨Value.ref (s.heap.objs.size+1) :: us,[]⟩ (Value.ref (s.heap.objs.size+1) :: (us++ds)) _ _ E (hr.make C us [])
  (I2.env0.make C us []) (hb _ (Value.ref (s.heap.objs.size+1) :: us) I2.kIn hl) r2 hq) fun r s' hq'=>?_))
 cases r with
 |error e=>exact hx pins σ _ _ e s' I2 hq'
 |ok fl=>
  cases fl with
  |ret u=>
   obtain⟨v,H',I3,rv,ev,q3⟩:=I2.after hq'
   subst ev
   exact⟨rv,⟨V.ref (s.heap.objs.size+1),H',I3,rfl,q3⟩⟩
  |next=>exact False.elim hq'
  |brk=>exact False.elim hq'
  |cont=>exact False.elim hq'
theorem lK (M:Mk X.K C f) (F:aP X.prog X.w X.K X.mg X.base CX k f fd ps sp) (hr:gG (k+1) X.A) (hg:Gl X x) (hm:X.mg x=some (.ref C)) (hb:aR X.K fd ps ds) (hd:bX dvs ds) (hx:jJ CX X E)
  (ha:PA X (e :: es) t) (hdb:(x == ("__debug__":Str))=false:=by decide) (he:starEach (e :: es) X.env=(false,eval e X.env) :: starEach es X.env:=by rfl) (hpl:(backTo pos (starEach es X.env)).any (·.1)=false:=by rfl) :
  PE X (.Call (.Name x p) (e :: es) [] pos) (Xc C sp dvs E t):=by
 intro pins s σ H Q I h
 refine wpAny_Call_Name_kw (yI I hg hm ?_ hdb)
 refine PySem.W.callWith_K (h₀:=X.base) I.ok.mod.kin M.kp (thn (ha pos pins s σ H _ I h) fun us s1 ⟨vs,H1,I1,r,q⟩=>⟨I1.kIn,?_⟩) he hpl
 exact Jh M F hr hb hd hx I1 r q
end
structure aS (N P:List Str) (sc:Scope):Prop where
 kind:sc.kind=.function
 co:sc.isCoroutine=false
 gen:sc.isGenerator=false
 nd:N.Nodup
 pre:N.take P.length=P
 par:∀x∈P,sc.names.lookup x=some .local∨sc.names.lookup x=some .cell
 nofree:∀y∈sc.names,y.2≠.free
theorem uM {kindOf:Str→Option NameKind} {x:Str}:∀{binds:List (Str × Value)} {m:Str→Option Value},(∀v,(x,v)∉binds)→bindL kindOf binds m x=m x
 | [],_,_=>rfl
 | (n,v) :: r,m,h=>by
  unfold bindL
  rw[uM fun w hw=>h w (List.mem_cons_of_mem _ hw)]
  split
  ·have:x≠n:=by rintro rfl;exact h v List.mem_cons_self
   simp[this]
  ·rfl
theorem vD {kindOf:Str→Option NameKind} {x:Str}:∀{binds:List (Str × Value)} {m:Str→Option Value},(∀v,(x,v)∉binds)→bindC kindOf binds m x=m x
 | [],_,_=>rfl
 | (n,v) :: r,m,h=>by
  unfold bindC
  rw[vD fun w hw=>h w (List.mem_cons_of_mem _ hw)]
  split
  ·rfl
  ·have:x≠n:=by rintro rfl;exact h v List.mem_cons_self
   simp[this]
theorem uS {kindOf:Str→Option NameKind} {x:Str} {v:Value}:∀{P:List Str} {vs:List Value} {i:Nat} {m:Str→Option Value},P.Nodup→P[i]?=some x→vs[i]?=some v→kindOf x=some .local→
  bindL kindOf (P.zip vs) m x=some v
 | [],_,_,_,_,h,_,_=>by simp at h
 |_ :: _,[],_,_,_,_,h,_=>by simp at h
 |p :: P,w :: vs,0,m,nd,h1,h2,hk=>by
  simp at h1 h2;subst h1;subst h2
  show bindL kindOf ((p,w) :: P.zip vs) m p=_
  unfold bindL
  rw[uM fun v hv=>(List.nodup_cons.mp nd).1 (List.of_mem_zip hv).1,if_pos hk]
  simp
 |p :: P,w :: vs,i+1,m,nd,h1,h2,hk=>by
  show bindL kindOf ((p,w) :: P.zip vs) m x=_
  unfold bindL
  exact uS (i:=i) (List.nodup_cons.mp nd).2 (by simpa using h1) (by simpa using h2) hk
theorem vV {kindOf:Str→Option NameKind} {x:Str} {v:Value}:∀{P:List Str} {vs:List Value} {i:Nat} {m:Str→Option Value},P.Nodup→P[i]?=some x→vs[i]?=some v→kindOf x≠some .local→
  bindC kindOf (P.zip vs) m x=some v
 | [],_,_,_,_,h,_,_=>by simp at h
 |_ :: _,[],_,_,_,_,h,_=>by simp at h
 |p :: P,w :: vs,0,m,nd,h1,h2,hk=>by
  simp at h1 h2;subst h1;subst h2
  show bindC kindOf ((p,w) :: P.zip vs) m p=_
  unfold bindC
  rw[vD fun v hv=>(List.nodup_cons.mp nd).1 (List.of_mem_zip hv).1,if_neg hk]
  simp
 |p :: P,w :: vs,i+1,m,nd,h1,h2,hk=>by
  show bindC kindOf ((p,w) :: P.zip vs) m x=_
  unfold bindC
  exact vV (i:=i) (List.nodup_cons.mp nd).2 (by simpa using h1) (by simpa using h2) hk
def start (N:List Str) (vs:List V):St:=vs.map some++List.replicate (N.length - vs.length) none
def Bv (CX:CXT) (P:Program) (w:World) (K:PySem.W.Frag) (mg:Str→Option Value) (base:Heap) (N:List Str) (qual:Str) (scope:Scope) (f:Addr) (cd:Value) (A:Around) (outer:List Env) (s:Shared) (H:Hp) (E:XK):Cx where
 prog:=P
 w:=w
 K:=K
 mg:=mg
 base:=base
 A:=A.deeper (envOfC qual scope s.heap.objs.size f cd)
 N:=N
 s₀:=s
 H₀:=H
 env:=envOfC qual scope s.heap.objs.size f cd
 outer:=outer
 stack:=envOfC qual scope s.heap.objs.size f cd :: outer
 ex:=[]
 calm:=true
 fn:=fun _=>true
 pn:=[]
 xe:=fun e s'=>wpAny (model P w) (A.deeper (envOfC qual scope s.heap.objs.size f cd)) (leaving (envOfC qual scope s.heap.objs.size f cd) e) (fun _ s''=>CX outer H s E e s'') (fun e' s''=>CX outer H s E e' s'') s'
theorem Ad {sc:Scope} {n:Nat} {x:Str} (h:sc.names.lookup x=some .cell):∃c,(cellsFrom n sc.names []).lookup x=some c:=by
 have q:=PySem.W.cellsFrom_some sc.names n [] (.inl h)
 exact Option.isSome_iff_exists.mp q
theorem Ig {CX:CXT} {P:Program} {w:World} {K:PySem.W.Frag} {mg:Str→Option Value} {base:Heap} {N ps:List Str} {qual:Str} {scope:Scope} {f:Addr} {cd:Value} {A:Around} {outer:List Env} {s s1:Shared} {H:Hp} {E:XK} {us:List Value} {vs:List V}
  (S:aS N ps scope) (hd:A.handled=none) (e0:Cm P w K mg base A outer s H) (hl:vs.length=ps.length) (r:bX vs us)
  (x:InCallC s s.heap.objs.size (bindL (envOfC qual scope s.heap.objs.size f cd).kindOf (ps.zip us) fun _=>none) (cellsFrom (s.heap.objs.size+1) scope.names []) (bindC (envOfC qual scope s.heap.objs.size f cd).kindOf (ps.zip us) fun _=>none) s1) :
  Inv (Bv CX P w K mg base N qual scope f cd A outer s H E) [] (start N vs) H s1:=by
 have hpl:ps.length≤N.length:=by have:=congrArg List.length S.pre;rw[List.length_take] at this;omega
 obtain⟨h1,tk,rfl,hk⟩:=x.done
 have noA:∀b:Addr,b∉(Bv CX P w K mg base N qual scope f cd A outer s H E).ex:=fun b z=>absurd (show b∈([]:List Addr) from z) (by simp)
 refine⟨⟨e0.mod,S.kind,rfl,rfl,Nat.le_refl _,fun y z c h1 h2=>?_,fun y hy=>?_,fun y c _ h=>?_,fun _=>hd,Around.frames_deeper e0.frames,.inr ⟨rfl,rfl⟩,fun b z=>absurd z (noA b),e0.bs,e0.bsz,fun b _ _=>noA b,fun b z=>absurd z (noA b),e0.funs,e0.frf⟩,
  rfl,e0.bare,Un.kept hk,⟨_,x.toInCall.ns,fun i y v h1 h2 h3=>?_⟩,fun y c h=>⟨_,x.cell y c h⟩,e0.hok.fresh (Nat.le_refl _),fun y c h=>?_,fun p hp=>absurd (show p∈([]:List (Addr × Obj)) from hp) (by simp),e0.hok.kept hk,?_⟩
 ·exact name_of_addr x.apart (PySem.mem_of_lookup h1) (PySem.mem_of_lookup h2)
 ·have hy:scope.names.lookup y=some .cell∨scope.names.lookup y=some .free:=hy
  rcases hy with hy | hy
  ·exact Ad hy
  ·exact absurd rfl (S.nofree _ (PySem.mem_of_lookup hy))
 ·exact Nat.le_of_lt (x.above y c (PySem.mem_of_lookup h))
 ·have hi:i < vs.length:=by
   unfold start at h2
   by_cases hi:i < vs.length
   ·exact hi
   ·rw[List.getElem?_append_right (by simpa using hi)] at h2
    rw[List.getElem?_replicate] at h2
    split at h2<;>cases h2
  have ha:vs[i]?=some v:=by
   unfold start at h2
   rw[List.getElem?_append_left (by simpa using hi),List.getElem?_map] at h2
   cases e:vs[i]? with
   |none=>rw[e] at h2;cases h2
   |some a=>rw[e] at h2;cases h2;rfl
  obtain⟨u,hu,rv⟩:=r.get ha
  have hp:ps[i]?=some y:=by
   rw[← S.pre,List.getElem?_take_of_lt (by omega)];exact h1
  have ndP:ps.Nodup:=by rw[← S.pre];exact S.nd.sublist (List.take_sublist _ _)
  refine⟨u,rv,?_⟩
  rcases S.par y (List.mem_of_getElem? hp) with k | k
  ·exact .inl ⟨k,uS ndP hp hu k⟩
  ·obtain⟨c,e⟩:=Ad (n:=s.heap.objs.size+1) k
   refine .inr ⟨.inl k,c,e,?_⟩
   have q:=x.cell y c e
   rw[vV ndP hp hu (by show scope.names.lookup y≠_;rw[k];decide)] at q
   exact q
 ·exact e0.hok.fresh (Nat.le_of_lt (x.above y c (PySem.mem_of_lookup h)))
 ·unfold start
  show _=N.length
  rw[List.length_append,List.length_map,List.length_replicate]
  omega
theorem We {CX:CXT} {P:Program} {w:World} {K:PySem.W.Frag} {mg:Str→Option Value} {base:Heap} {k:Nat} {f:Addr} {name qual:Str} {params:Arguments} {body:List Stmt} {scope:Scope} {dV kV doc pm cdv ct oc:Value} {an od:Option Addr}
  {osl:Array (Option Value)} {N ps:List Str} {sp:Sp} (lk:K.lookup f=some ⟨oc,od,.func (PySem.W.fnOf name qual params body scope dV kV doc pm an cdv ct),osl⟩) (hcd:PySem.W.codeIn K cdv qual=true) (S:aS N ps scope)
  (len:∀vs H Q E,sp vs H Q E→vs.length=ps.length)
  (hbody:∀(A:Around) (outer:List Env) (s:Shared) (H:Hp) (vs:List V) (Q:VK) (E:XK),gG k (A.deeper (envOfC qual scope s.heap.objs.size f cdv))→sp vs H Q E→
   ∃t,PSs (Bv CX P w K mg base N qual scope f cdv A outer s H E) body t∧t { nx:=fun _ H'=>Q .non H',rt:=Q } (start N vs) H) :
  aP P w K mg base CX (k+1) f (PySem.W.fnOf name qual params body scope dV kV doc pm an cdv ct) ps sp:=by
 refine⟨len,fun A outer s H args us vs Q E hr e0 hb r hsp=>?_⟩
 have hl:=len _ _ _ _ hsp
 have KX:K.In s.heap:=e0.mod.kin.keeps fun b o e=>(e0.bs b o e).1
 have lim:s.heap.NoLimit:=e0.mod.nolimit.keeps fun b o e=>(e0.bs b o e).1
 have hkind:∀y∈ps.zip us,scope.names.lookup y.1=some .local∨(scope.names.lookup y.1=some .cell∧((cellsFrom (s.heap.objs.size+1) scope.names []).lookup y.1).isSome=true):=fun ⟨n,v⟩ hy=>by
  rcases S.par n (List.of_mem_zip hy).1 with q | q
  ·exact .inl q
  ·exact .inr ⟨q,PySem.W.cellsFrom_some _ _ _ (.inl q)⟩
 refine codeAny_call_function hr.depth (KX _ _ lk) rfl S.co S.gen rfl (PySem.W.codeRec_of KX hcd) (hb _ _ _ _ ?_)
 refine wpAny_newFunctionEnv_cells S.kind hkind fun env he s1 x=>?_
 subst he
 refine⟨lim.keeps x.toInCall.keep,codeAny_func ?_⟩
 obtain⟨t,ht,hq⟩:=hbody A outer s H vs Q E (hr.deeper _) hsp
 have I:Inv (Bv CX P w K mg base N qual scope f cdv A outer s H E) [] (start N vs) H s1:=Ig S hr.hd e0 hl r x
 refine wpAny_mono (ht [] s1 (start N vs) H _ I hq) (fun fl s' hs=>?_) fun e s' hs=>hs
 have fin:∀{σ':St} {H':Hp} {v:V} {u:Value},Inv (Bv CX P w K mg base N qual scope f cdv A outer s H E) [] σ' H' s'→cF v u→Q v H'→CE outer P w H s Q u s':=
  fun {σ' H' v u} J rv q=>⟨v,H',J.os,J.bare,J.base,J.hok,rv,q⟩
 cases fl with
 |ret u=>
  obtain⟨v,σ',H',J,rv,q⟩:=hs
  exact fin J rv q
 |next=>
  obtain⟨σ',H',J,q⟩:=hs
  exact fin (v:=V.non) (u:=Value.none) J rfl q
 |brk=>
  obtain⟨_,_,_,q⟩:=hs
  exact False.elim q
 |cont=>
  obtain⟨_,_,_,q⟩:=hs
  exact False.elim q
section
variable {X:Cx} {x:Str} {p pos:Pos} {e:Expr} {es:List Expr} {t:TA} {id T:String} {r:List V→Hp→VK→Prop}
def tCB (r:List V→Hp→VK→Prop) (t:TA):TE:=fun σ H Q=>t σ H fun vs H1=>r vs H1 Q
theorem cK (hc:rY X (.builtin id) r) (hg:Gl X x) (hm:X.mg x=none) (hv:bootBuiltins x=some (.builtin id)) (ha:PA X (e :: es) t) (hn:x≠"__name__":=by decide) (hdb:(x == ("__debug__":Str))=false:=by decide)
  (he:starEach (e :: es) X.env=(false,eval e X.env) :: starEach es X.env:=by rfl) (hpl:(backTo pos (starEach es X.env)).any (·.1)=false:=by rfl):PE X (.Call (.Name x p) (e :: es) [] pos) (tCB r t):=by
 intro pins s σ H Q I h
 refine wpAny_Call_Name_kw (jH I hg hm hv ?_ hn hdb)
 exact PyProof.Rows.callWith_builtin1 (thn (ha pos pins s σ H _ I h) fun us s1 ⟨vs,H1,I1,r1,q1⟩=>hc pins s1 σ H1 vs us Q I1 r1 q1) he hpl
theorem uZ (hc:rY X (.type T) r) (hg:Gl X x) (hm:X.mg x=none) (hv:bootBuiltins x=some (.type T)) (ha:PA X (e :: es) t) (hn:x≠"__name__":=by decide) (hdb:(x == ("__debug__":Str))=false:=by decide)
  (he:starEach (e :: es) X.env=(false,eval e X.env) :: starEach es X.env:=by rfl) (hpl:(backTo pos (starEach es X.env)).any (·.1)=false:=by rfl):PE X (.Call (.Name x p) (e :: es) [] pos) (tCB r t):=by
 intro pins s σ H Q I h
 refine wpAny_Call_Name_kw (jH I hg hm hv ?_ hn hdb)
 exact PyProof.Rows.callWith_type1 (thn (ha pos pins s σ H _ I h) fun us s1 ⟨vs,H1,I1,r1,q1⟩=>hc pins s1 σ H1 vs us Q I1 r1 q1) he hpl
end
end L2
namespace HT
open PySem PyProof.Rows
section
variable {prog:Program} {w:World} {A:Around} {E:Value→Shared→Prop} {s:Shared}
theorem cat_tup {t b:Addr} {vs ws:List Value} {Q:Value→Shared→Prop} (ht:IsTup s.heap t vs.toArray) (hb:IsTup s.heap b ws.toArray) (hv:vs≠[])
  (h1:ws=[]→Q (.ref t) s) (h2:ws≠[]→Q (.ref s.heap.objs.size) { s with heap:=s.heap.push { cls:=.type "tuple",data:=.seq (vs++ws).toArray } })
  (hsz:vs.length+ws.length≤sizeLine):wpAny (model prog w) A (binaryOp .Add (.ref t) (.ref b)) Q E s:=by
 obtain⟨⟨cls,dd,data,sl⟩,ho,hc,n,hd⟩:=id ht
 obtain⟨⟨cls2,dd2,data2,sl2⟩,ho2,hc2,n2,hd2⟩:=id hb
 simp only at hc hd hc2 hd2
 subst hc hd hc2 hd2
 have e:vs.toArray++ws.toArray=(vs++ws).toArray:=by simp
 by_cases hw:ws=[]
 ·exact concat_meets ⟨_,ho,rfl⟩ ⟨_,ho2,rfl⟩ noFill_tuple_add seq_tuple_add PySem.F.slot_tuple_add PySem.F.entry_tuple_add (PySem.F.args_tuple_add_2 _ _)
   (tuple_addW1 t b vs.toArray ws.toArray n n2 dd dd2 sl sl2 (by simpa using hv) (by simp[hw])) ⟨ho,ho2,h1 hw⟩
 ·refine concat_meets ⟨_,ho,rfl⟩ ⟨_,ho2,rfl⟩ noFill_tuple_add seq_tuple_add PySem.F.slot_tuple_add PySem.F.entry_tuple_add (PySem.F.args_tuple_add_2 _ _)
   (tuple_addW2 t b vs.toArray ws.toArray n n2 dd dd2 sl sl2 (by simpa using hv) (by simpa using hw) (by rw[List.size_toArray,List.size_toArray];exact hsz)) ⟨ho,ho2,?_⟩
  rw[e]
  exact h2 hw
def sIx (n d:Nat):Option Int→Nat
 |none=>d
 |some v=>if v < 0 then (v+(n:Int)).toNat else min v.toNat n
theorem Ts (n d:Nat) (hd:d≤n) (o:Option Int):sIx n d o≤n:=by
 cases o with
 |none=>exact hd
 |some v=>
  show (if v < 0 then (v+(n:Int)).toNat else min v.toNat n)≤n
  by_cases hv:v < 0
  ·rw[if_pos hv];omega
  ·rw[if_neg hv];exact Nat.min_le_right _ _
theorem En (v:Int) (n d:Nat):(if v < 0 then max (v+(n:Int)) 0 else min v (n:Int))=((sIx n d (some v):Nat):Int):=by
 show (if v < 0 then max (v+(n:Int)) 0 else min v (n:Int))=(((if v < 0 then (v+(n:Int)).toNat else min v.toNat n):Nat):Int)
 by_cases hv:v < 0
 ·simp only[if_pos hv];omega
 ·simp only[if_neg hv];omega
theorem Cq (lo hi:Option Int) (n:Nat):Builtin.Slice.sliceAdjust lo hi 1 (n:Int)=(((sIx n 0 lo:Nat):Int),((sIx n n hi:Nat):Int)):=by
 have h1:¬((1:Int) < 0):=by omega
 unfold Builtin.Slice.sliceAdjust
 simp only[h1,if_false]
 refine Prod.ext ?_ ?_
 ·cases lo with
  |none=>rfl
  |some v=>exact En v n 0
 ·cases hi with
  |none=>rfl
  |some v=>exact En v n n
theorem Bj (i j:Nat):Builtin.Slice.slicePlaces (i:Int) (j:Int) 1=j - i:=by
 unfold Builtin.Slice.slicePlaces
 have h1:(1:Int) > 0:=by omega
 simp only[h1,if_true,Int.ediv_one]
 split<;>omega
theorem sM {v:Value} {o:Option Int} {Q:Option Int→Shared→Prop} (p:IsPart v o) (h:Q o s):wpAny (model prog w) A (Builtin.Slice.slicePartIndex v) Q E s:=by
 cases p with
 |none=>exact slicePart_none h
 |int i t=>exact slicePart_int h
theorem oW {sl:Addr} {vl vu:Value} {lo hi:Option Int} {n:Nat} {Q:Int × Int × Nat→Shared→Prop} (hs:s.heap.IsSliceOf sl vl vu .none) (pl:IsPart vl lo) (pu:IsPart vu hi)
  (h:Q (((sIx n 0 lo:Nat):Int),1,sIx n n hi - sIx n 0 lo) s):wpAny (model prog w) A (Builtin.Slice.sliceApplied (.ref sl) (pure (n:Int))) Q E s:=by
 obtain⟨os,hos,hcs,hds⟩:=id hs
 unfold Builtin.Slice.sliceApplied Builtin.Slice.sliceFields
 refine wpAny_bind (wpAny_bind (wpAny_field hos hds (x:=vl) rfl (wpAny_bind (wpAny_field hos hds (x:=vu) rfl (wpAny_bind (wpAny_field hos hds (x:=.none) rfl (wpAny_pure ?_)))))))
 refine wpAny_bind (slicePart_none ?_)
 show wpAny _ _ (if ((1:Int) == 0)=true then _ else _) _ _ s
 rw[if_neg (by decide)]
 refine wpAny_bind (sM pl (wpAny_bind (sM pu (wpAny_bind (wpAny_pure ?_)))))
 show wpAny _ _ (match Builtin.Slice.sliceAdjust lo hi 1 (n:Int) with | (lo,hi)=>pure (lo,(1:Int),Builtin.Slice.slicePlaces lo hi 1)) _ _ s
 rw[Cq lo hi n]
 show wpAny _ _ (pure (((sIx n 0 lo:Nat):Int),(1:Int),Builtin.Slice.slicePlaces ((sIx n 0 lo:Nat):Int) ((sIx n n hi:Nat):Int) 1)) _ _ s
 rw[Bj]
 exact wpAny_pure h
theorem Mm (xs:Array Value) (i k:Nat):((List.range k).filterMap fun (m:Nat)=>xs[((i:Int)+(m:Int)*1).toNat]?).toArray=((xs.toList.drop i).take k).toArray:=by
 have e:(fun (m:Nat)=>xs[((i:Int)+(m:Int)*1).toNat]?)=fun m=>xs[i+m]?:=by
  funext m
  have:((i:Int)+(m:Int)*1).toNat=i+m:=by omega
  rw[this]
 rw[e]
 have:=pick_run xs i k
 rw[List.filterMap_map] at this
 have e2:((fun x=>xs[x]?) ∘ fun x=>i+x)=fun m=>xs[i+m]?:=rfl
 rw[e2] at this
 rw[this]
theorem getItem_tuple_cut {t sl:Addr} {items:Array Value} {vl vu:Value} {lo hi:Option Int} {Q:Value→Shared→Prop} (ht:IsTup s.heap t items) (hs:s.heap.IsSliceOf sl vl vu .none) (pl:IsPart vl lo) (pu:IsPart vu hi)
  (hw:¬(sIx items.size 0 lo=0∧sIx items.size items.size hi=items.size))
  (h:Q (.ref s.heap.objs.size) { s with heap:=s.heap.push { cls:=.type "tuple",data:=.seq ((items.toList.drop (sIx items.size 0 lo)).take (sIx items.size items.size hi - sIx items.size 0 lo)).toArray } })
  (hsz:items.size≤sizeLine):wpAny (model prog w) A (getItem (.ref t) (.ref sl)) Q E s:=by
 have htake:sizeOk (.seq ((items.toList.drop (sIx items.size 0 lo)).take (sIx items.size items.size hi - sIx items.size 0 lo)).toArray):=by
  show ((items.toList.drop (sIx items.size 0 lo)).take (sIx items.size items.size hi - sIx items.size 0 lo)).toArray.size≤sizeLine
  rw[List.size_toArray,List.length_take,List.length_drop,Array.length_toList]
  omega
 have hj:sIx items.size items.size hi≤items.size:=Ts _ _ (Nat.le_refl _) hi
 obtain⟨os,hos,hcs,hds⟩:=id hs
 have hTs:s.TypeIs (.ref sl) "slice":=⟨os,hos,hcs⟩
 unfold getItem
 try with_reducible refine wpAny_holding ?_
 first | refine wpAny_bind (wpAny_pure ?_) | skip
 refine wpAny_bind (wpAny_sequenceKey ht.typeIs (by decide) ?_)
 refine wpAny_bind (wpAny_callSpecial?_slot (name:=Str.ofString "__getitem__") ht.typeIs PyProof.Rows.slot_tuple_getitem
  (wpAny_call_entry PyProof.Rows.slot_tuple_getitem ht.typeIs entry_tuple_getitem ?_ (args_tuple_getitem _ _)))
 show wpAny _ _ (Builtin.Tuple.tupleItemsOf (.ref t) >>= _) _ _ s
 refine wpAny_bind (tupleItemsOf_ ht ?_)
 refine wpAny_bind (wpAny_typeOf hTs ?_)
 rw[if_pos (by decide)]
 refine wpAny_bind (oW hs pl pu ?_)
 have hno:¬((((sIx items.size 0 lo:Nat):Int) == 0 && (1:Int) == 1 && (sIx items.size items.size hi - sIx items.size 0 lo) == items.size)=true):=by
  intro q
  rw[Bool.and_eq_true,Bool.and_eq_true] at q
  have q1:((sIx items.size 0 lo:Nat):Int)=0:=eq_of_beq q.1.1
  have q2:sIx items.size items.size hi - sIx items.size 0 lo=items.size:=eq_of_beq q.2
  exact hw ⟨by omega,by omega⟩
 show wpAny _ _ (if (((sIx items.size 0 lo:Nat):Int) == 0 && (1:Int) == 1 && (sIx items.size items.size hi - sIx items.size 0 lo) == items.size)=true then _ else _) _ _ s
 rw[if_neg hno,Mm]
 first
  |exact wpAny_bind (m:=Builtin.Tuple.tupleExact _) (wpAny_newObj_type (wpAny_pure ⟨_,rfl,wpAny_pure h⟩) htake)
  |exact wpAny_bind (m:=Builtin.Tuple.tupleExact _) (wpAny_newObj_type (wpAny_bind (wpAny_pure (wpAny_pure ⟨_,rfl,wpAny_pure h⟩))) htake)
  |exact wpAny_bind (wpAny_bind (m:=Builtin.Tuple.tupleExact _) (wpAny_newObj_type (wpAny_pure (wpAny_pure ⟨_,rfl,wpAny_pure h⟩)) htake))
  |exact wpAny_bind (wpAny_bind (m:=Builtin.Tuple.tupleExact _) (wpAny_newObj_type (wpAny_pure ⟨_,rfl,wpAny_pure h⟩) htake))
end
end HT
namespace L2
open PySem PySem.Spec PyProof.Rows
abbrev TO:=St→Hp→(Option Int→Hp→Prop)→Prop
def PO (X:Cx) (e:Option Expr) (t:TO):Prop:=
 ∀(pins:List (Addr × Obj)) (s:Shared) (σ:St) (H:Hp) (Q:Option Int→Hp→Prop),Inv X pins σ H s→t σ H Q→
  wpAny (model X.prog X.w) X.A (evalPart e X.env) (fun u s'=>∃o H',Inv X pins σ H' s'∧IsPart u o∧Q o H') X.xe s
def Oi:TO:=fun _ H Q=>Q none H
def Wn (t:TE):TO:=fun σ H Q=>t σ H fun x H1=>∃i,x=.int i∧Q (some i) H1
section
variable {X:Cx} {e:Expr} {te:TE} {lo hi:Option Expr} {tl th:TO} {pos p2:Pos}
theorem iQ:PO X none Oi:=by
 intro pins s σ H Q I h
 rw[evalPart_none]
 exact wpAny_pure ⟨none,H,I,.none,h⟩
theorem fU (h:PE X e te):PO X (some e) (Wn te):=by
 intro pins s σ H Q I hw
 rw[evalPart_some]
 refine thn (h pins s σ H _ I hw) fun u s1 ⟨x,H1,I1,r1,q1⟩=>?_
 obtain⟨i,rfl,q⟩:=q1
 obtain⟨t,rfl⟩:=r1
 exact⟨some i,H1,I1,.int i t,q⟩
def SlR (X:Cx) (r:V→Option Int→Option Int→Hp→VK→Prop):Prop:=
 ∀(pins:List (Addr × Obj)) (s:Shared) (σ:St) (H:Hp) (x:V) (v vl vu:Value) (lo hi:Option Int) (sl:Addr) (Q:VK),Inv X pins σ H s→cF x v→s.heap.IsSliceOf sl vl vu .none→IsPart vl lo→IsPart vu hi→r x lo hi H Q→
  ∃T id,typeLookup (.type T) "__getitem__"=pure (some (.builtin id))∧s.TypeIs v T∧wpAny (model X.prog X.w) X.A (getItem v (.ref sl)) (EP X pins σ Q) X.xe s
def tSl (r:V→Option Int→Option Int→Hp→VK→Prop) (te:TE) (tl th:TO):TE:=fun σ H Q=>te σ H fun x H1=>tl σ H1 fun l H2=>th σ H2 fun u H3=>r x l u H3 Q
theorem fQ {r:V→Option Int→Option Int→Hp→VK→Prop} (hr:SlR X r) (he:PE X e te) (hl:PO X lo tl) (hu:PO X hi th):PE X (.Subscript e (.Slice lo hi none p2) pos) (tSl r te tl th):=by
 intro pins s σ H Q I h
 refine Subscript_ (thn (he pins s σ H _ I h) fun v s1 ⟨x,H1,I1,r1,q1⟩=>?_)
 refine wpAny_Slice (thn (hl pins s1 σ H1 _ I1 q1) fun vl s2 ⟨l,H2,I2,pl,q2⟩=>thn (hu pins s2 σ H2 _ I2 q2) fun vu s3 ⟨u,H3,I3,pu,q3⟩=>?_)
 rw[evalPart_none]
 refine wpAny_pure ?_
 have I4:Inv X pins σ H3 { s3 with heap:=s3.heap.push { cls:=.type "slice",data:=.fields #[vl,vu,.none] } }:=I3.kept (t':=s3.toks) fun b ob q=>Heap.get?_push_of_some _ q
 obtain⟨T,id,hT,ht,hg⟩:=hr pins { s3 with heap:=s3.heap.push { cls:=.type "slice",data:=.fields #[vl,vu,.none] } } σ H3 x v vl vu l u s3.heap.objs.size Q I4 r1 (Heap.IsSliceOf.new ..) pl pu q3
 show wpAny (model X.prog X.w) X.A (subscriptTail e (.Slice lo hi none p2) v (.ref s3.heap.objs.size)) (EP X pins σ Q) X.xe { s3 with heap:=s3.heap.push { cls:=.type "slice",data:=.fields #[vl,vu,.none] } }
 exact tail_any (ops:=[.ref s3.heap.objs.size,v]) ht hT hg (by with_unfolding_all rfl)
def kB (xs:List V) (lo hi:Option Int):List V:=(xs.drop (HT.sIx xs.length 0 lo)).take (HT.sIx xs.length xs.length hi - HT.sIx xs.length 0 lo)
theorem qQ (xs:List V) (lo hi:Option Int):(kB xs lo hi).length≤xs.length:=by
 unfold kB
 exact Nat.le_trans (List.length_take_le' _ _) (by rw[List.length_drop];exact Nat.sub_le _ _)
def Yr (K:PySem.W.Frag):V→Option Int→Option Int→Hp→VK→Prop:=fun x lo hi H Q=>∃a xs,x=.ref a∧SqT K H a xs∧
 ¬(HT.sIx xs.length 0 lo=0∧HT.sIx xs.length xs.length hi=xs.length)∧∀p,H p=none→Q (.ref p) (upd H p (.tup (kB xs lo hi)))
theorem Uk:SlR X (Yr X.K):=by
 intro pins s σ H x v vl vu lo hi sl Q I rx hs pl pu h
 obtain⟨a,xs,rfl,hx,hw,q⟩:=h
 cases rx
 obtain⟨its,r,ht,hz⟩:=I.tuple hx
 have hlen:its.toArray.size=xs.length:=by rw[List.size_toArray];exact r.length.symm
 refine⟨"tuple",_,PyProof.Rows.slot_tuple_getitem.lookup,ht.typeIs,?_⟩
 refine HT.getItem_tuple_cut ht hs pl pu (by rw[hlen];exact hw) ?_ (by rw[hlen];exact hz)
 rw[hlen]
 refine⟨.ref s.heap.objs.size,_,I.laid (t':=s.toks) (o:=.tup (kB xs lo hi)) (fun b ob q=>Heap.get?_push_of_some _ q) (Nat.le_refl _) ?_,rfl,q _ (I.hok.fresh (Nat.le_refl _))⟩
 exact⟨Nat.le_trans (qQ xs lo hi) hz,_,(r.drop (HT.sIx xs.length 0 lo)).take (HT.sIx xs.length xs.length hi - HT.sIx xs.length 0 lo),IsTup.new _ _⟩
def Wy (K:PySem.W.Frag):R2:=fun x y H Q=>∃a b xs ys,x=.ref a∧y=.ref b∧SqT K H a xs∧SqT K H b ys∧xs≠[]∧xs.length+ys.length≤sizeLine∧
 (ys=[]→Q (.ref a) H)∧(ys≠[]→∀p,H p=none→Q (.ref p) (upd H p (.tup (xs++ys))))
theorem bX.nil_iff {xs:List V} {us:List Value} (r:bX xs us):us=[]↔xs=[]:=by
 cases r with
 |nil=>simp
 |cons _ _=>simp
theorem Qi:OpR X (binaryOp .Add) (Wy X.K):=by
 intro pins s σ H x y v u Q I rx ry h
 obtain⟨a,b,xs,ys,rfl,rfl,ha,hb,hx,hz,q1,q2⟩:=h
 cases rx
 cases ry
 obtain⟨its,r1,p1,_⟩:=I.tuple ha
 obtain⟨its2,r2,p2,_⟩:=I.tuple hb
 refine HT.cat_tup p1 p2 (fun z=>hx (r1.nil_iff.mp z)) (fun z=>⟨.ref a,H,I,rfl,q1 (r2.nil_iff.mp z)⟩) (fun z=>?_) (by rw[← r1.length,← r2.length];exact hz)
 refine⟨.ref s.heap.objs.size,_,I.laid (t':=s.toks) (o:=.tup (xs++ys)) (fun b ob q=>Heap.get?_push_of_some _ q) (Nat.le_refl _) ?_,rfl,q2 (fun w=>z (r2.nil_iff.mpr w)) _ (I.hok.fresh (Nat.le_refl _))⟩
 exact⟨by rw[List.length_append];exact hz,_,r1.append r2,IsTup.new _ _⟩
end
def ixN (n:Nat) (i:Int):Option Nat:=if 0≤i then (if i < n then some i.toNat else none) else if -(n:Int)≤i then some (i+n).toNat else none
def atI {α:Type} (xs:List α) (i:Int):Option α:=(ixN xs.length i).bind fun j=>xs[j]?
theorem Eo {n:Nat} {i:Int} {j:Nat} (h:ixN n i=some j):seqIndex? i n=some j∧j < n∧-(n:Int)≤i∧i < n:=by
 unfold ixN at h
 by_cases h0:0≤i
 ·rw[if_pos h0] at h
  by_cases h1:i < n
  ·rw[if_pos h1] at h
   have e:i.toNat=j:=Option.some.inj h
   exact⟨by rw[seqIndex_of h0 h1,e],by omega,by omega,h1⟩
  ·rw[if_neg h1] at h;cases h
 ·rw[if_neg h0] at h
  by_cases h1:-(n:Int)≤i
  ·rw[if_pos h1] at h
   have e:(i+n).toNat=j:=Option.some.inj h
   exact⟨by rw[seqIndex_neg (by omega) h1,e],by omega,h1,by omega⟩
  ·rw[if_neg h1] at h;cases h
theorem Ew {α:Type} {xs:List α} {i:Int} {v:α} (h:atI xs i=some v):∃j,seqIndex? i xs.length=some j∧xs[j]?=some v∧j < xs.length∧-(xs.length:Int)≤i∧i < xs.length:=by
 unfold atI at h
 cases e:ixN xs.length i with
 |none=>rw[e] at h;cases h
 |some j=>
  rw[e] at h
  obtain⟨h1,h2,h3,h4⟩:=Eo e
  exact⟨j,h1,h,h2,h3,h4⟩
theorem bZ {α:Type} {xs:List α} {j:Nat} {v:α} (h:xs[j]?=some v):atI xs (j:Int)=some v:=by
 have hj:j < xs.length:=(List.getElem?_eq_some_iff.mp h).1
 have e:ixN xs.length (j:Int)=some j:=by
  unfold ixN
  rw[if_pos (by omega),if_pos (by omega)];simp
 unfold atI;rw[e];exact h
def Qe (b:Expr):Prop:=∀o i,subscripted b false o i=operate [o,i] (getItem o i)
def IxR (X:Cx) (r:R2):Prop:=
 ∀(value slice:Expr) (pins:List (Addr × Obj)) (s:Shared) (σ:St) (H:Hp) (x y:V) (v u:Value) (Q:VK),Inv X pins σ H s→cF x v→cF y u→r x y H Q→
  subscripted slice false v u=operate [v,u] (getItem v u)→wpAny (model X.prog X.w) X.A (subscriptTail value slice v u) (EP X pins σ Q) X.xe s
def MtR (X:Cx) (id:String) (r:V→List V→Hp→VK→Prop):Prop:=
 ∀(pins:List (Addr × Obj)) (s:Shared) (σ:St) (H:Hp) (x:V) (xs:List V) (v:Value) (us:List Value) (Q:VK),Inv X pins σ H s→cF x v→bX xs us→r x xs H Q→
  wpAny (model X.prog X.w) X.A (call (.builtin id) (v :: us)) (EP X pins σ Q) X.xe s
section
variable {X:Cx} {a b:Expr} {ta tb:TE} {pos:Pos}
theorem aX {r:R2} (hr:IxR X r) (ha:PE X a ta) (hb:PE X b tb) (hs:Qe b):PE X (.Subscript a b pos) (tOp r ta tb):=by
 intro pins s σ H Q I h
 exact Subscript_ (Uu ha hb I h fun v u s2 x y H2 I2 rx ry q=>hr a b pins s2 σ H2 x y v u Q I2 rx ry q (hs _ _))
def Wq (K:PySem.W.Frag):R2:=fun x y H Q=>∃p xs i v,x=.ref p∧y=.int i∧SqL K H p xs∧atI xs i=some v∧Q v H
def Qv (K:PySem.W.Frag):R2:=fun x y H Q=>∃p xs i v,x=.ref p∧y=.int i∧SqT K H p xs∧atI xs i=some v∧Q v H
theorem bN:IxR X (Wq X.K):=by
 intro value slice pins s σ H x y v u Q I rx ry h hs
 obtain⟨p,xs,i,z,rfl,rfl,hq,he,q⟩:=h
 cases rx
 obtain⟨t,rfl⟩:=ry
 obtain⟨its,r,pl,hz⟩:=I.list hq
 obtain⟨j,h1,h2,h3,h4,h5⟩:=Ew he
 obtain⟨w,ew,rw'⟩:=r.get h2
 have hl:=r.length
 have hn:=yE
 have fin:EP X pins σ Q w s:=⟨z,H,I,rw',q⟩
 by_cases h0:0≤i
 ·have hj:i.toNat=j:=by
   rw[seqIndex_of h0 h5] at h1
   exact Option.some.inj h1
  exact item_listR pl.isList h0 (by omega) (by rw[hj];simpa using ew) fin hs
 ·have hj:(i+(its.toArray.size:Int)).toNat=j:=by
   rw[seqIndex_neg (by omega) h4] at h1
   rw[List.size_toArray,← hl]
   exact Option.some.inj h1
  exact subscriptTail_builtinR (x:=w) pl.isList.typeIs slot_list_getitem.lookup
   (wpAny_getItem_list_neg (Q:=fun r s'=>r=w∧EP X pins σ Q r s') pl.isList (by omega) (by rw[List.size_toArray]<;>omega) (by omega) (by rw[hj];simpa using ew) ⟨rfl,fin⟩) hs
theorem bA:IxR X (Qv X.K):=by
 intro value slice pins s σ H x y v u Q I rx ry h hs
 obtain⟨p,xs,i,z,rfl,rfl,hq,he,q⟩:=h
 cases rx
 obtain⟨t,rfl⟩:=ry
 obtain⟨its,r,pl,hz⟩:=I.tuple hq
 obtain⟨j,h1,h2,h3,h4,h5⟩:=Ew he
 obtain⟨w,ew,rw'⟩:=r.get h2
 have hl:=r.length
 have hn:=yE
 have fin:EP X pins σ Q w s:=⟨z,H,I,rw',q⟩
 exact subscriptTail_builtinR (x:=w) pl.typeIs slot_tuple_getitem.lookup
  (getItem_tuple (j:=j) (Q:=fun r s'=>r=w∧EP X pins σ Q r s') pl (by omega) (by omega) (by rw[List.size_toArray,← hl];exact h1) (by simpa using ew) ⟨rfl,fin⟩) hs
theorem Db (its:List Value) (n j:Nat) (u:Value):Obj.mapSeq (·.setIfInBounds j u) { cls:=.type "list",data:=.seq its.toArray n }={ cls:=.type "list",data:=.seq (its.set j u).toArray n }:=by
 simp[Obj.mapSeq]
theorem Inv.lst {pins:List (Addr × Obj)} {σ:St} {H:Hp} {s:Shared} {p:Addr} {xs:List V} (I:Inv X pins σ H s) (h:H p=some (.lst xs)) :
  ∃(its:List Value) (n:Nat),bX xs its∧s.heap.get? p=some { cls:=.type "list",data:=.seq its.toArray n }∧xs.length≤sizeLine:=by
 obtain⟨z,its,n,r,e⟩:=I.hok p _ h
 exact⟨its,n,r,e,z⟩
theorem Inv.lstUpd {pins:List (Addr × Obj)} {σ:St} {H:Hp} {s:Shared} {p:Addr} {xs ys:List V} {its its':List Value} {n n':Nat} {f:Obj→Obj} (I:Inv X pins σ H s) (h:H p=some (.lst xs))
  (ho:s.heap.get? p=some { cls:=.type "list",data:=.seq its.toArray n }) (hf:f { cls:=.type "list",data:=.seq its.toArray n }={ cls:=.type "list",data:=.seq its'.toArray n' }) (r:bX ys its') (hz:ys.length≤sizeLine) (t:Nat) :
  Inv X pins σ (upd H p (.lst ys)) { s with heap:=s.heap.update p f,toks:=t }:=by
 have e:(s.heap.update p f).get? p=some { cls:=.type "list",data:=.seq its'.toArray n' }:=by
  rw[Heap.get?_update_self f ho (by rw[hf]<;>rfl),hf]
 refine I.write (x:=p) (e:=p) (by rw[h];trivial) (.inl rfl) (fun b u hb q=>(Heap.get?_update_other _ _ (Ne.symm hb)).trans q) ⟨_,e⟩ ?_
 exact⟨hz,its',n',r,e⟩
def Xu:V→V→V→Hp→(Hp→Prop)→Prop:=fun o i v H Q=>∃p xs k j,o=.ref p∧i=.int k∧H p=some (.lst xs)∧ixN xs.length k=some j∧Q (upd H p (.lst (xs.set j v)))
theorem iY:Xx X Xu:=by
 intro pins s σ H o i v ov iv u Q I ro ri rv h
 obtain⟨p,xs,k,j,rfl,rfl,hp,hj,q⟩:=h
 cases ro
 obtain⟨t,rfl⟩:=ri
 obtain⟨its,n,r,ho,hz⟩:=I.lst hp
 obtain⟨h1,h2,h3,h4⟩:=Eo hj
 have hl:=r.length
 have hn:=yE
 have I':Inv X pins σ (upd H p (.lst (xs.set j v))) { s with heap:=s.heap.update p (Obj.mapSeq (·.setIfInBounds j u)) }:=
  I.lstUpd hp ho (Db its n j u) (r.set rv j) (by rw[List.length_set];exact hz) s.toks
 by_cases h0:0≤k
 ·have hk:k.toNat=j:=by
   rw[seqIndex_of h0 h4] at h1
   exact Option.some.inj h1
  exact PySem.W.ki_setAt ho h0 (by omega) (by rw[List.size_toArray,← hl];exact h4) (by rw[hk];exact⟨_,I',q⟩)
 ·have hk:(k+(its.toArray.size:Int)).toNat=j:=by
   rw[seqIndex_neg (by omega) h3] at h1
   rw[List.size_toArray,← hl]
   exact Option.some.inj h1
  exact PySem.W.ki_setBack ho (by omega) (by rw[List.size_toArray,← hl];exact h3) (by omega) (by rw[hk];exact⟨_,I',q⟩)
theorem sbA (lo hi:Option Int) (n:Nat):(sliceBounds lo hi none n).1=((HT.sIx n 0 lo:Nat):Int):=by
 cases lo with
 |none=>simp[sliceBounds,HT.sIx]
 |some i=>
  simp only[sliceBounds,HT.sIx,Option.getD_none,show (1:Int) > 0 by decide,if_true]
  by_cases h:i < 0
  ·simp only[h,if_true]<;>omega
  ·simp only[h,if_false]<;>omega
theorem yD (lo hi:Option Int) (n:Nat):(sliceBounds lo hi none n).1=((HT.sIx n 0 lo:Nat):Int)∧(sliceBounds lo hi none n).2.1=((HT.sIx n n hi:Nat):Int)∧(sliceBounds lo hi none n).2.2=1:=by
 refine⟨sbA lo hi n,?_,rfl⟩
 cases hi with
 |none=>simp[sliceBounds,HT.sIx]
 |some i=>exact sbA (some i) lo n
theorem uB (its:List Value) (lo hi:Option Int):slicePick its.toArray lo hi none=((its.drop (HT.sIx its.length 0 lo)).take (HT.sIx its.length its.length hi - HT.sIx its.length 0 lo)).toArray:=by
 obtain⟨h1,h2,h3⟩:=yD lo hi its.toArray.size
 unfold slicePick
 rw[h1,h2,h3]
 simp only[sliceRange_one,pick_run,List.size_toArray]<;>rfl
def Xw (K:PySem.W.Frag):V→Option Int→Option Int→Hp→VK→Prop:=fun x lo hi H Q=>∃a xs,x=.ref a∧SqL K H a xs∧∀p,H p=none→Q (.ref p) (upd H p (.lst (kB xs lo hi)))
theorem iA:SlR X (Xw X.K):=by
 intro pins s σ H x v vl vu lo hi sl Q I rx hs pl pu h
 obtain⟨a,xs,rfl,hx,q⟩:=h
 cases rx
 obtain⟨its,r,ht,hz⟩:=I.list hx
 have hlen:=r.length
 refine⟨"list",_,slot_list_getitem.lookup,ht.isList.typeIs,?_⟩
 refine wpAny_getItem_list_slice ht.isList hs pl pu .none (by simp) ?_ (by rw[List.size_toArray]<;>omega)
 rw[uB,← hlen]
 refine⟨.ref s.heap.objs.size,_,I.laid (t':=s.toks) (o:=.lst (kB xs lo hi)) (fun b ob q=>Heap.get?_push_of_some _ q) (Nat.le_refl _) ?_,rfl,q _ (I.hok.fresh (Nat.le_refl _))⟩
 exact⟨Nat.le_trans (qQ xs lo hi) hz,_,0,(r.drop (HT.sIx xs.length 0 lo)).take (HT.sIx xs.length xs.length hi - HT.sIx xs.length 0 lo),Heap.get?_push_size _ rfl⟩
def mH:V→Bool
 | .non=>true
 | .bl _=>true
 | .int _=>true
 | .str _=>true
 |_=>false
def eqV:V→V→Bool
 | .non,.non=>true
 | .bl a,.bl b=>a == b
 | .bl a,.int b=>(if a then 1 else 0) == b
 | .int a,.bl b=>a == (if b then 1 else 0)
 | .int a,.int b=>a == b
 | .str a,.str b=>a == b
 |_,_=>false
theorem Uw {A:Around} {s:Shared} {y x:V} {u v:Value} (ry:cF y u) (rx:cF x v) (fy:mH y=true) (fx:mH x=true):SeqAt.EqAt A s u v (eqV y x):=by
 cases y with
 |non=>
  cases ry
  cases x with
  |non=>cases rx;exact SeqAt.EqAt.same _
  |bl b=>cases rx;exact SeqAt.EqAt.none_bool b
  |int b=>obtain⟨t,rfl⟩:=rx;exact SeqAt.EqAt.none_int b t
  |str b=>obtain⟨t,rfl⟩:=rx;exact SeqAt.EqAt.none_str b t
  |_=>exact absurd (show false=true from fx) Bool.false_ne_true
 |bl a=>
  cases ry
  cases x with
  |non=>cases rx;exact SeqAt.EqAt.bool_none a
  |bl b=>cases rx;exact SeqAt.EqAt.bool_bool a b
  |int b=>obtain⟨t,rfl⟩:=rx;exact SeqAt.EqAt.bool_int a b t
  |str b=>obtain⟨t,rfl⟩:=rx;exact SeqAt.EqAt.bool_str a b t
  |_=>exact absurd (show false=true from fx) Bool.false_ne_true
 |int a=>
  obtain⟨t',rfl⟩:=ry
  cases x with
  |non=>cases rx;exact SeqAt.EqAt.int_none a t'
  |bl b=>cases rx;exact SeqAt.EqAt.int_bool a t' b
  |int b=>obtain⟨t,rfl⟩:=rx;exact SeqAt.EqAt.int_int a t' b t
  |str b=>obtain⟨t,rfl⟩:=rx;exact SeqAt.EqAt.int_str a t' b t
  |_=>exact absurd (show false=true from fx) Bool.false_ne_true
 |str a=>
  obtain⟨t',rfl⟩:=ry
  cases x with
  |non=>cases rx;exact SeqAt.EqAt.str_none a t'
  |bl b=>cases rx;exact SeqAt.EqAt.str_bool a t' b
  |int b=>obtain⟨t,rfl⟩:=rx;exact SeqAt.EqAt.str_int a t' b t
  |str b=>obtain⟨t,rfl⟩:=rx;exact SeqAt.EqAt.str_str a t' b t
  |_=>exact absurd (show false=true from fx) Bool.false_ne_true
 |_=>exact absurd (show false=true from fy) Bool.false_ne_true
def eqU (x:V) (u:Value):Bool:=match u with
 | .none=>eqV .non x
 | .bool b=>eqV (.bl b) x
 | .int i _=>eqV (.int i) x
 | .str z _=>eqV (.str z) x
 |_=>false
theorem Kw {x y:V} {u:Value} (r:cF y u) (f:mH y=true):eqU x u=eqV y x:=by
 cases y with
 |non=>cases r;rfl
 |bl b=>cases r;rfl
 |int i=>obtain⟨t,rfl⟩:=r;rfl
 |str z=>obtain⟨t,rfl⟩:=r;rfl
 |_=>exact absurd (show false=true from f) Bool.false_ne_true
theorem xX {x:V}:∀{xs:List V} {us:List Value},bX xs us→xs.all mH=true→us.any (eqU x)=xs.any fun y=>eqV y x
 |_,_,.nil,_=>rfl
 |y :: xs,u :: us,.cons r t,f=>by
  rw[List.all_cons,Bool.and_eq_true] at f
  rw[List.any_cons,List.any_cons,Kw r f.1,xX t f.2]
theorem rP {A:Around} {s:Shared} {x:V} {v:Value} (rx:cF x v) (fx:mH x=true):∀{xs:List V} {us:List Value},bX xs us→xs.all mH=true→∀u∈us,SeqAt.EqAt A s u v (eqU x u)
 |_,_,.nil,_=>fun u hu=>by cases hu
 |y :: xs,u :: us,.cons r t,f=>fun u' hu=>by
  rw[List.all_cons,Bool.and_eq_true] at f
  rcases List.mem_cons.mp hu with rfl | hu
  ·rw[Kw r f.1];exact Uw r rx f.1 fx
  ·exact rP rx fx t f.2 u' hu
def inV (x:V) (xs:List V):Bool:=xs.any fun y=>eqV y x
def rIn (K:PySem.W.Frag) (neg:Bool):R2:=fun x y H Q=>∃p xs,y=.ref p∧(SqL K H p xs∨SqT K H p xs)∧mH x=true∧xs.all mH=true∧Q (.bl (if neg then !inV x xs else inV x xs)) H
theorem Gu:OpR X (compareOp .In) (rIn X.K false):=by
 intro pins s σ H x y v u Q I rx ry h
 obtain⟨p,xs,rfl,hq,fx,fs,q⟩:=h
 cases ry
 rcases hq with hq | hq
 ·obtain⟨its,r,pl,hz⟩:=I.list hq
  refine SeqAt.in_listAt (eqU x) pl.isList (fun w hw=>rP rx fx r fs w (by simpa using hw)) ⟨.bl _,H,I,rfl,?_⟩
  rw[show its.toArray.any (eqU x)=its.any (eqU x) by simp,xX r fs]
  exact q
 ·obtain⟨its,r,pl,hz⟩:=I.tuple hq
  refine SeqAt.in_tupleAt (eqU x) pl (fun w hw=>rP rx fx r fs w (by simpa using hw)) ⟨.bl _,H,I,rfl,?_⟩
  rw[show its.toArray.any (eqU x)=its.any (eqU x) by simp,xX r fs]
  exact q
theorem bO:rY X (.builtin "len") (fun xs H Q=>∃p ys,xs=[.ref p]∧(SqL X.K H p ys∨SqT X.K H p ys)∧Q (.int ys.length) H):=by
 intro pins s σ H xs us Q I r h
 obtain⟨p,ys,rfl,hq,q⟩:=h
 obtain⟨u,rfl,rx⟩:=Aa r
 cases rx
 have hn:=yE
 rcases hq with hq | hq
 ·obtain⟨its,r',pl,hz⟩:=I.list hq
  have hlen:=r'.length
  exact Calls.call_len_list pl.isList (by simp only[List.size_toArray]<;>omega) ⟨.int ys.length,H,I.tok _,⟨s.toks+1,by rw[List.size_toArray,hlen]⟩,q⟩
 ·obtain⟨its,r',pl,hz⟩:=I.tuple hq
  have hlen:=r'.length
  exact len_tuple pl (by simp only[List.size_toArray]<;>omega) ⟨.int ys.length,H,I.tok _,⟨s.toks+1,by rw[List.size_toArray,hlen]⟩,q⟩
theorem nY:rY X (.type "list") (fun xs H Q=>∃p ys,xs=[.ref p]∧(SqL X.K H p ys∨SqT X.K H p ys)∧∀l,H l=none→Q (.ref l) (upd H l (.lst ys))):=by
 intro pins s σ H xs us Q I r h
 obtain⟨p,ys,rfl,hq,q⟩:=h
 obtain⟨u,rfl,rx⟩:=Aa r
 cases rx
 have fin:∀(its:List Value),bX ys its→ys.length≤sizeLine→∀(h':Heap) (c':Nat),(∀b o',s.heap.get? b=some o'→h'.get? b=some o')→
   h'.get? s.heap.objs.size=some { cls:=.type "list",dict:=none,data:=.seq its.toArray c',slots:=#[] }→EP X pins σ Q (.ref s.heap.objs.size) { s with heap:=h' }:=fun its r' hz h' c' kp e=>
  ⟨.ref s.heap.objs.size,_,I.laid (t':=s.toks) kp (Nat.le_refl _) (show dI X.prog X.w _ h' _ (.lst ys) from ⟨hz,its,c',r',e⟩),rfl,q _ (I.hok.fresh (Nat.le_refl _))⟩
 rcases hq with hq | hq
 ·obtain⟨its,r',pl,hz⟩:=I.list hq
  have hlen:=r'.length
  obtain⟨o,ho,hc,n,hd⟩:=pl.isList
  exact call_list_seq p (.inl rfl) ho hc hd (fun h' c' kp e=>fin its r' hz h' c' kp e) (by simp only[List.size_toArray]<;>omega)
 ·obtain⟨its,r',pl,hz⟩:=I.tuple hq
  have hlen:=r'.length
  obtain⟨o,ho,hc,n,hd⟩:=pl
  exact call_list_seq p (.inr rfl) ho hc hd (fun h' c' kp e=>fin its r' hz h' c' kp e) (by simp only[List.size_toArray]<;>omega)
def tyV (K:PySem.W.Frag) (T:String) (x:V) (H:Hp):Prop:=match x with
 | .str _=>T = "str"
 | .int _=>T = "int"
 | .ref p=>(T = "list"∧∃xs,SqL K H p xs)∨(T = "tuple"∧∃o,K.lookup p=some o∧o.cls=.type "tuple"∧o.dict=none)∨
   (T = "dict"∧((∃kvs,H p=some (.dK kvs))∨∃kvs,H p=some (.dT kvs)))∨(T = "set"∧∃S n,H p=some (.set S n))
 |_=>False
theorem Ni {pins:List (Addr × Obj)} {σ:St} {H:Hp} {s:Shared} {T:String} {x:V} {v:Value} (I:Inv X pins σ H s) (r:cF x v) (ty:tyV X.K T x H) :
  s.TypeIs v T∧∀a,v=.ref a→∃ob,s.heap.get? a=some ob∧ob.dict=none:=by
 cases x with
 |str z=>
  obtain⟨t,rfl⟩:=r
  cases (show T = "str" from ty)
  exact⟨typeIs_str s z t,fun _ e=>nomatch e⟩
 |int i=>
  obtain⟨t,rfl⟩:=r
  cases (show T = "int" from ty)
  exact⟨typeIs_int s i t,fun _ e=>nomatch e⟩
 |ref p=>
  cases r
  rcases ty with ⟨rfl,xs,hq⟩ | ⟨rfl,o,hk,hc,hd⟩ | ⟨rfl,hk⟩ | ⟨rfl,S,n,hk⟩
  ·obtain⟨its,_,pl,_⟩:=I.list hq
   refine⟨pl.isList.typeIs,fun a e=>?_⟩
   cases e
   obtain⟨o,n,e,c,hd,_⟩:=pl
   exact⟨o,e,hd⟩
  ·refine⟨⟨o,I.kIn p o hk,hc⟩,fun a e=>?_⟩
   cases e
   exact⟨o,I.kIn _ o hk,hd⟩
  ·have z:∃o,s.heap.get? p=some o∧o.ExactDict:=by
    rcases hk with ⟨kvs,hk⟩ | ⟨kvs,hk⟩
    ·obtain⟨_,_,_,_,o,_,_,e,ex,_⟩:=I.hok p _ hk
     exact⟨o,e,ex⟩
    ·obtain⟨_,_,_,_,o,_,_,e,ex,_⟩:=I.hok p _ hk
     exact⟨o,e,ex⟩
   obtain⟨o,e,ex⟩:=z
   refine⟨⟨o,e,ex.1⟩,fun a e2=>?_⟩
   cases e2
   exact⟨o,e,ex.2.1⟩
  ·obtain⟨o,_,_,_,e,ex,_⟩:=I.hok p _ hk
   refine⟨⟨o,e,ex.1⟩,fun a e2=>?_⟩
   cases e2
   exact⟨o,e,ex.2.1⟩
 |_=>exact False.elim ty
def Za (K:PySem.W.Frag) (T:String) (r:V→List V→Hp→VK→Prop) (to:TE):TE:=fun σ H Q=>to σ H fun x H1=>tyV K T x H1∧r x [] H1 Q
def tBM (K:PySem.W.Frag) (T:String) (r:V→List V→Hp→VK→Prop) (to:TE) (t:TA):TE:=fun σ H Q=>to σ H fun x H1=>tyV K T x H1∧t σ H1 fun xs H2=>r x xs H2 Q
variable {o e:Expr} {es:List Expr} {to:TE} {t:TA} {name:Str} {apos cpos:Pos} {T id:String} {r:V→List V→Hp→VK→Prop}
theorem Tr (pa:PlainAttrs T) (slot:Slot T name id) (hty:typeOf (.builtin id)=pure (.type "method_descriptor")) (hm:MtR X id r) (ho:PE X o to)
  (hbase:attributeBase o name X.env (eval o X.env)=eval o X.env:=by rfl) (hline:(apos.endLine == cpos.line)=true:=by rfl):PE X (.Call (.Attribute o name apos) [] [] cpos) (Za X.K T r to):=by
 intro pins s σ H Q I h
 refine wpAny_Call_method0_late hbase hline (thn (ho pins s σ H _ I h) fun v s1 ⟨x,H1,I1,r1,ty,q1⟩=>?_)
 obtain⟨h1,h2⟩:=Ni I1 r1 ty
 exact⟨T,id,pa,slot,hty,h1,h2,Calls.callWith_builtin rfl (PySem.evalArgs_none (hm pins s1 σ H1 x [] v [] Q I1 r1 .nil q1))⟩
theorem mM (pa:PlainAttrs T) (slot:Slot T name id) (hty:typeOf (.builtin id)=pure (.type "method_descriptor")) (hm:MtR X id r) (ho:PE X o to) (ha:PA X (e :: es) t)
  (hbase:attributeBase o name X.env (eval o X.env)=eval o X.env:=by rfl)
  (hfew:((backTo cpos (starEach (e :: es) X.env)).all (fun x=>!x.1) && (backToKw cpos (keywordEach [] X.env)).all (fun x=>x.1.isSome)
   && decide ((e :: es).length+([]:List Keyword).length+(if ([]:List Keyword).isEmpty then 0 else 1) < 30))=true:=by rfl)
  (hline:(apos.endLine == cpos.line)=true:=by rfl) (hs:starEach (e :: es) X.env=(false,eval e X.env) :: starEach es X.env:=by rfl) (hplain:(backTo cpos (starEach es X.env)).any (·.1)=false:=by rfl) :
  PE X (.Call (.Attribute o name apos) (e :: es) [] cpos) (tBM X.K T r to t):=by
 intro pins s σ H Q I h
 refine wpAny_Call_method_late hbase hfew hline rfl (thn (ho pins s σ H _ I h) fun v s1 ⟨x,H1,I1,r1,ty,q1⟩=>?_)
 obtain⟨h1,h2⟩:=Ni I1 r1 ty
 refine⟨T,id,pa,slot,hty,h1,h2,?_⟩
 have hA:=ha cpos pins s1 σ H1 _ I1 q1
 rw[hs] at hA ⊢
 refine Calls.callWith_builtin (by show (false || (backTo cpos (starEach es X.env)).any (·.1))=false;rw[hplain]<;>rfl) (Calls.evalArgs_plain ?_)
 exact thn hA fun us s2 ⟨vs,H2,I2,r2,q2⟩=>hm pins s2 σ H2 x vs v us Q I2 r1 r2 q2
end
def MtM (X:Cx) (id:String) (r:V→List V→Hp→VK→Prop):Prop:=
 ∀(pins:List (Addr × Obj)) (s:Shared) (σ:St) (H:Hp) (x:V) (xs:List V) (v:Value) (us:List Value) (Q:VK),Inv X pins σ H s→cF x v→bX xs us→r x xs H Q→
  wpAny (model X.prog X.w) X.A (call (.builtin id) (v :: us)) (EP X pins σ Q) X.xe s
theorem bX.one:∀{x:V} {us:List Value},bX [x] us→∃u,us=[u]∧cF x u
 |_,_,.cons r .nil=>⟨_,rfl,r⟩
theorem bX.zero:∀{us:List Value},bX [] us→us=[]
 |_,.nil=>rfl
theorem bX.dropLast {xs:List V} {us:List Value} (h:bX xs us):bX xs.dropLast us.dropLast:=by
 induction h with
 |nil=>exact .nil
 |cons r t ih=>
  cases t with
  |nil=>exact .nil
  |cons q t'=>exact .cons r ih
theorem bX.rep {xs:List V} {us:List Value} (h:bX xs us):∀k:Nat,bX (List.replicate k xs).flatten (List.replicate k us).flatten
 |0=>.nil
 |k+1=>by
  rw[List.replicate_succ,List.replicate_succ,List.flatten_cons,List.flatten_cons]
  exact bX.append h (bX.rep h k)
theorem Cp {α:Type} (l:List α):l.eraseIdx (l.length - 1)=l.dropLast:=by
 induction l with
 |nil=>rfl
 |cons a r ih=>
  cases r with
  |nil=>rfl
  |cons b r=>
   have e:(a :: b :: r).length - 1=((b :: r).length - 1)+1:=by
    have h1:(a :: b :: r).length=r.length+2:=rfl
    have h2:(b :: r).length=r.length+1:=rfl
    omega
   rw[e,List.eraseIdx_cons_succ,ih]
   all_goals rfl
theorem vS (its:List Value):∀(k:Nat) (acc:List Value),
  List.foldl (fun x1 x2=>x1++x2) acc.toArray (List.replicate k its.toArray)=(acc++(List.replicate k its).flatten).toArray
 |0,acc=>by simp
 |k+1,acc=>by
  have e:acc.toArray++its.toArray=(acc++its).toArray:=by simp
  have e2:(acc++its)++(List.replicate k its).flatten=acc++(List.replicate (k+1) its).flatten:=by
   rw[List.replicate_succ,List.flatten_cons,List.append_assoc]
  rw[← e2,← vS its k (acc++its),← e,List.replicate_succ,List.foldl_cons]
section
variable {X:Cx} {pins:List (Addr × Obj)} {σ:St} {H:Hp} {s:Shared} {l b:Addr} {xs ys zs:List V}
theorem Inv.lset {its its':List Value} {n:Nat} {f:Array Value→Array Value} {t':Nat} (I:Inv X pins σ H s) (hH:H l=some (.lst xs))
  (e:s.heap.get? l=some { cls:=.type "list",data:=.seq its.toArray n }) (hf:f its.toArray=its'.toArray) (hv:bX ys its') (hz:ys.length≤sizeLine) :
  Inv X pins σ (upd H l (.lst ys)) { s with heap:=s.heap.update l (Obj.mapSeq f),toks:=t' }:=by
 have q:=PySem.IsL.update e f
 rw[hf] at q
 refine I.write (x:=l) (e:=l) (by rw[hH];exact trivial) (.inl rfl) (fun b' u hb hu=>(Heap.get?_update_other s.heap (Obj.mapSeq f) (Ne.symm hb)).trans hu) ⟨_,q⟩ ?_
 exact⟨hz,its',_,hv,q⟩
theorem Inv.lnew {its:List Value} {t':Nat} (I:Inv X pins σ H s) (hv:bX ys its) (hz:ys.length≤sizeLine) :
  Inv X pins σ (upd H s.heap.objs.size (.lst ys)) { s with heap:=s.heap.push { cls:=.type "list",data:=.seq its.toArray },toks:=t' }:=
 I.laid (fun _ _ q=>Heap.get?_push_of_some _ q) (Nat.le_refl _) ⟨hz,its,0,hv,Heap.get?_push_size _ rfl⟩
theorem Inv.fresh (I:Inv X pins σ H s):H s.heap.objs.size=none:=I.hok.fresh (Nat.le_refl _)
theorem Inv.lstM (I:Inv X pins σ H s) (hH:H l=some (.lst xs)):xs.length≤sizeLine∧∃(its:List Value) (n:Nat),bX xs its∧xs.length=its.length∧s.heap.get? l=some { cls:=.type "list",data:=.seq its.toArray n }:=by
 obtain⟨z,its,n,r,e⟩:=I.hok l _ hH
 exact⟨z,its,n,r,r.length,e⟩
theorem Nl {n:Nat} (h:n≤sizeLine):Builtin.List.listTooLong n=false:=by
 unfold Builtin.List.listTooLong
 exact decide_eq_false (by omega)
end
section
variable {X:Cx}
def Qc:V→List V→Hp→VK→Prop:=fun x vs H Q=>∃l xs y,x=.ref l∧vs=[y]∧H l=some (.lst xs)∧xs.length < sizeLine∧Q .non (upd H l (.lst (xs++[y])))
theorem eX:MtM X "list.append" Qc:=by
 intro pins s σ H x vs v us Q I rx rv h
 obtain⟨l,xs,y,rfl,rfl,hH,hz,q⟩:=h
 cases rx
 obtain⟨u,rfl,ru⟩:=rv.one
 obtain⟨z,its,n,r,hl,e⟩:=I.lstM hH
 refine call_meets F.slot_list_append ⟨_,e,rfl⟩ F.entry_list_append (F.args_list_append_2 _ _) (PySem.list_append l its.toArray n u (by rw[List.size_toArray];omega)) ⟨e,?_⟩
 refine⟨.non,_,I.lset (its':=its++[u]) hH e (by simp) (r.append (.cons ru .nil)) ?_,rfl,q⟩
 rw[List.length_append,List.length_singleton]
 omega
def Yn:V→List V→Hp→VK→Prop:=fun x vs H Q=>∃l xs y,x=.ref l∧vs=[]∧H l=some (.lst xs)∧xs[xs.length - 1]?=some y∧Q y (upd H l (.lst xs.dropLast))
theorem Vb:MtM X "list.pop" Yn:=by
 intro pins s σ H x vs v us Q I rx rv h
 obtain⟨l,xs,y,rfl,rfl,hH,hy,q⟩:=h
 cases rx
 have hus:=rv.zero
 subst hus
 obtain⟨z,its,n,r,hl,e⟩:=I.lstM hH
 obtain⟨u,hu,ru⟩:=r.get hy
 have hy':its.toArray[its.toArray.size - 1]?=some u:=by
  show its.toArray[its.length - 1]?=some u
  rw[← Array.getElem?_toList,← hl]
  exact hu
 refine call_meets F.slot_list_pop ⟨_,e,rfl⟩ F.entry_list_pop (F.args_list_pop_1 _) (MeetsSeq.list_pop_last l its.toArray n u hy' (by rw[List.size_toArray];omega)) ⟨e,?_⟩
 refine⟨y,_,I.lset (its':=its.dropLast) hH e ?_ r.dropLast ?_,ru,q⟩
 ·show its.toArray.eraseIdxIfInBounds (its.toArray.size - 1)=its.dropLast.toArray
  rw[List.size_toArray,List.eraseIdxIfInBounds_toArray,Cp]
 ·rw[List.length_dropLast]
  omega
def Yc:R2:=fun x y H Q=>∃l b xs zs,x=.ref l∧y=.ref b∧H l=some (.lst xs)∧H b=some (.lst zs)∧xs.length+zs.length≤sizeLine∧∀p,H p=none→Q (.ref p) (upd H p (.lst (xs++zs)))
theorem pD:OpR X (binaryOp .Add) Yc:=by
 intro pins s σ H x y v u Q I rx ry h
 obtain⟨l,b,xs,zs,rfl,rfl,hH,hB,hz,q⟩:=h
 cases rx
 cases ry
 obtain⟨z,its,n,r,hl,e⟩:=I.lstM hH
 obtain⟨z2,its2,n2,r2,hl2,e2⟩:=I.lstM hB
 refine PySem.P.add_list e e2 ?_ (by rw[List.size_toArray,List.size_toArray];omega)
 have ea:its.toArray++its2.toArray=(its++its2).toArray:=by simp
 rw[ea]
 exact⟨.ref _,_,I.lnew (t':=s.toks) (r.append r2) (by rw[List.length_append];omega),rfl,q _ I.fresh⟩
def Yy:R2:=fun x y H Q=>∃l k xs,x=.ref l∧y=.int k∧H l=some (.lst xs)∧-(2 ^ 63)≤k∧k < 2 ^ 63∧xs.length*k.toNat≤sizeLine∧
 ∀p,H p=none→Q (.ref p) (upd H p (.lst (List.replicate k.toNat xs).flatten))
theorem Ft {α:Type} (xs:List α) (k:Nat):(List.replicate k xs).flatten.length=k*xs.length:=by
 induction k with
 |zero=>simp
 |succ k ih=>rw[List.replicate_succ,List.flatten_cons,List.length_append,ih,Nat.succ_mul,Nat.add_comm]
theorem xO:OpR X (binaryOp .Mult) Yy:=by
 intro pins s σ H x y v u Q I rx ry h
 obtain⟨l,k,xs,rfl,rfl,hH,h1,h2,hz,q⟩:=h
 cases rx
 obtain⟨t,rfl⟩:=ry
 obtain⟨z,its,n,r,hl,e⟩:=I.lstM hH
 have hlen:its.toArray.size*k.toNat≤sizeLine:=by rw[List.size_toArray,← hl];exact hz
 have hcap:¬its.toArray.size*k.toNat > (2 ^ 63 - 1) / 8:=by
  have:(sizeLine:Nat)≤(2 ^ 63 - 1) / 8:=by decide
  omega
 have hfit:¬(!Builtin.List.listFitsIndex k)=true:=by
  rw[fitsIndex_both h1 h2]
  exact Bool.false_ne_true
 have hlong:¬Builtin.List.listTooLong (its.toArray.size*k.toNat)=true:=by
  rw[Nl hlen]
  exact Bool.false_ne_true
 have hnew:List.foldl (fun x1 x2=>x1++x2) #[] (List.replicate (if its.toArray.isEmpty=true then 0 else k.toNat) its.toArray)=(List.replicate k.toNat its).flatten.toArray:=by
  have f0:∀m:Nat,List.foldl (fun x1 x2=>x1++x2) #[] (List.replicate m its.toArray)=(List.replicate m its).flatten.toArray:=fun m=>by
   have:=vS its m []
   rw[List.nil_append] at this
   exact this
  rw[f0]
  cases its with
  |nil=>simp
  |cons a r'=>rw[if_neg (by simp)]
 refine wpAny_binaryOp_repeat_ref (T:="list") (U:="int") (by decide) ⟨_,e,rfl⟩ (fun s'=>typeIs_int s' k t) noFill_list_mul F.fills_int_mul F.slot_int_rmul repeat_list F.slot_int_index.lookup
  (call_meets F.slot_int_rmul (typeIs_int s k t) F.entry_int_rmul (F.args_int_rmul_2 _ _) (int___rmul___int_list k t l its.toArray n)
   ⟨e,rfl,⟨_,e,rfl⟩,call_meets F.slot_list_mul ⟨_,e,rfl⟩ F.entry_list_mul (F.args_list_mul_2 _ _) (AutoListH.list___mul___list_int_3 l its.toArray n k t hfit hcap hlong) ⟨e,?_⟩⟩)
 rw[hnew]
 exact⟨.ref _,_,I.lnew (t':=s.toks) (r.rep k.toNat) (by rw[Ft,Nat.mul_comm];exact hz),rfl,q _ I.fresh⟩
end
end L2
namespace Att
open PySem PySem.W PySem.Calls PyProof.Rows
theorem qY {P:Params} {h:Heap}:∀(ns:List Int) (vs:List Value),WellAll P h vs (ns.map WData.int)→IntsAre vs ns:=by
 intro ns
 induction ns with
 |nil=>
  intro vs w
  rw[List.map_nil] at w
  cases w
  exact .nil
 |cons n ns ih=>
  intro vs w
  rw[List.map_cons] at w
  cases w with
  |cons a b=>
   cases a
   exact .cons _ _ (ih _ b)
theorem Hh {l:OpenLaw} {n:Nat} (hn:l.most=some n) {P:Params} {h:Heap} {args:List WData} {vals:List Value}
  (hpre:l.row.toRowW.claim.pre args=true) (hwl:WellAll P h vals args) :
  ∃a vs ns,vals=[Value.ref a]∧args=[WData.list (ns.map WData.int)]∧h.get? a=some { cls:=.type "list",data:=.seq vs.toArray }∧IntsAre vs ns∧ns.length≤n:=by
 have hsh:WShape.hasAll [] args [.list .int]=true:=(pre_splitW hpre).1
 have hc:l.pre.holds [] { args:=args }=true:=(pre_splitW hpre).2
 obtain⟨d,r,rfl,h1,h2⟩:=hasAllW_cons hsh
 obtain rfl:=hasAllW_nil h2
 obtain⟨xs,rfl,h3⟩:=hasW_list h1
 obtain⟨ns,rfl⟩:=items_int h3
 have hlen:ns.length≤n:=by
  unfold OpenLaw.pre at hc
  have h4:(WTm.not (.lt (.lit (.int (n:Int))) (.len (.arg 0)))).holds [] { args:=[.list (ns.map .int)] }=true:=by
   have h4:=(holds_andW hc).1
   rw[hn] at h4
   exact h4
  have h5:=condW_of h4 (w_not (w_lt w_lit (w_len_list (w_arg rfl))))
  rw[List.length_map] at h5
  refine Nat.le_of_not_lt fun q=>?_
  have q':(n:Int) < ((ns.length:Nat):Int):=by omega
  first
   | (rw[decide_eq_true q'] at h5;exact absurd h5 (by decide))
   | (simp at h5;omega)
 cases hwl with
 |cons w1 w2=>
  cases w2
  cases w1 with
  |list ho hall=>exact⟨_,_,ns,rfl,rfl,ho,qY ns _ hall,hlen⟩
theorem Ih (l:OpenLaw) (args:List WData):l.row.toRowW.claim.post args (.bool true) args=true:=
 postW_of (r:=l.row.toRowW) (X:=(true == true))
  (show WShape.has [] (.bool true) .bool=true by first | rfl | decide | simp[WShape.has,WShape.arms,WShape.armsAll])
  (show (WTm.eq .res (.lit (.bool true))).value [] { args:=args,res:=some (.bool true),after:=args }=some (.bool (true == true)) from w_eq_bool (w_res rfl) w_lit) rfl
theorem attach_call {l:OpenLaw} {n:Nat} {q:Program} {loose:List Str} {XP:(Str→Option Value)→Heap→Prop} {YP:World→Heap→Prop} {d:DefRec}
  (hn:l.most=some n) (hdf:d.params.defaults=[])
  (call:∀(w:World) (s₀ s₁:Shared) (mg mb:Str→Option Value) (fa:Addr) (o:Obj) (pm cd doc:Value) (a:Addr) (vs:List Value) (ns:List Int),
   Ground q loose [] XP w s₀ mg mb s₁.heap→YP w s₁.heap→
   s₁.heap.get? fa=some o→o.data=.func (docDef d.name d.params d.body d.scope pm cd doc)→s₁.heap.CodeRec cd d.name→mg d.name=some (.ref fa)→
   s₁.heap.get? a=some { cls:=.type "list",data:=.seq vs.toArray }→IntsAre vs ns→ns.length≤n→s₁.gens=#[]→
   codeAny (model l.prog w) callerA (.call (.ref fa) ⟨[.ref a],[]⟩) (fun r s'=>r=.ok (.ret (.bool true))∧OldK s₁.heap s'.heap∧s'.os=s₁.os∧AllBare s'.gens) s₁) :
  WalkO q loose XP YP l.row.toRowW d [] (fun f vs=>PySem.call f vs):=by
 intro w s₀ s₁ mg mb G Y fa o pm cd doc dV kV ho hd hcd hD hmg hg args vals as hpre hlay hrd hwl hlo
 obtain rfl:dV=.none:=Dflts.none hD hdf
 obtain rfl:kV=.none:=Dflts.noKw hD
 obtain⟨a,vs,ns,rfl,rfl,hobj,hints,hlen⟩:=Hh hn hpre hwl
 refine enter_call (codeAny_mono (call w s₀ s₁ mg mb fa o pm cd doc a vs ns G Y ho (fd_plain hd) hcd hmg hobj hints hlen hg) fun r s' hq=>?_)
 obtain⟨rfl,h2,h3,h4⟩:=hq
 exact⟨.inl ⟨.bool true,.bool true,[],rfl,fun _=>rfl,.bool true,Ih l _,fun _=>⟨List.Pairwise.nil,fun _ hm=>(nomatch hm)⟩⟩,h2,h3,h4⟩
end Att
namespace L2
open PySem PySem.Spec PyProof.Rows
theorem wH:∀{vs:List Value} {ns:List Int},IntsAre vs ns→bX (ns.map V.int) vs
 |_,_,.nil=>.nil
 |_,_,.cons n t h=>.cons ⟨t,rfl⟩ (wH h)
def Tk (H:Hp):Prop:=∀b,H b=none∨∃o xs,H b=some (.frz o (.lst xs))
theorem Lv {P:Program} {w:World} {K:PySem.W.Frag} {mg mb:Str→Option Value} {CX:CXT} {k:Nat} {fa a:Addr} {fd:FuncData} {x:Str} {sp:Sp} {s₁:Shared} {vs:List Value} {ns:List Int}
  (KX:K.In s₁.heap) (hns:s₁.heap.Ns mainGlobals mg) (hb:s₁.heap.Ns builtinsNs mb) (hbb:∀x:Str,x≠"__name__"→mb x=bootBuiltins x) (hlim:s₁.heap.NoLimit) (hg:s₁.gens=#[])
  (ha:s₁.heap.get? a=some { cls:=.type "list",data:=.seq vs.toArray }) (hi:IntsAre vs ns) (hl:ns.length≤sizeLine) (hr:gG k callerA)
  (F:∀base:Heap,K.In base→base.Ns mainGlobals mg→aP P w K mg base CX k fa fd [x] sp) (hbind:∀(s:Shared) (u:Value),BindsTo s fd ⟨[u],[]⟩ [(x,u)])
  (hsp:∀H:Hp,Tk H→SqL K H a (ns.map V.int)→sp [.ref a] H (fun v _=>v=.bl true) fun _ _ _=>False)
  (hCX:∀H e s',CX [] H s₁ (fun _ _ _=>False) e s'→False) :
  codeAny (model P w) callerA (.call (.ref fa) ⟨[.ref a],[]⟩) (fun r s'=>r=.ok (.ret (.bool true))∧OldK s₁.heap s'.heap∧s'.os=s₁.os∧AllBare s'.gens) s₁:=by
 have rv:=wH hi
 have lenV:=hi.length
 have core:∀H:Hp,Tk H→SqL K H a (ns.map V.int)→HOk P w H s₁.heap→(∀b,H b≠none→b=a)→(H a≠none→K.lookup a=none)→
   codeAny (model P w) callerA (.call (.ref fa) ⟨[.ref a],[]⟩) (fun r s'=>r=.ok (.ret (.bool true))∧OldK s₁.heap s'.heap∧s'.os=s₁.os∧AllBare s'.gens) s₁:=by
  intro H hO hS hok hA hK
  have base_of:∀{b:Addr} {o:Obj},s₁.heap.get? b=some o→H b=none→(xN s₁.heap H).get? b=some o:=fun e n=>Lu e n
  have noA:∀{b:Addr} {o:Obj} {es:Array DictEntry} {ep:Nat},s₁.heap.get? b=some o→o.data=.dict es ep→H b=none:=fun {b o es ep} e d=>by
   cases q:H b with
   |none=>rfl
   |some u=>
    have e':b=a:=hA b (by rw[q];simp)
    subst e'
    rw[ha] at e;cases e
    have d':Data.seq vs.toArray _=Data.dict es ep:=d
    cases d'
  have nsK:∀{b:Addr} {m:Str→Option Value},s₁.heap.Ns b m→(xN s₁.heap H).Ns b m:=fun {b m} ⟨o,es,ep,e,d,r⟩=>⟨o,es,ep,base_of e (noA e d),d,r⟩
  have hKb:K.In (xN s₁.heap H):=fun b o e=>base_of (KX b o e) (by
   cases q:H b with
   |none=>rfl
   |some u=>
    have e':b=a:=hA b (by rw[q];simp)
    subst e'
    rw[hK (by rw[q];simp)] at e;cases e)
  have hM:Mod K mg (xN s₁.heap H):=⟨hKb,nsK hns,⟨mb,nsK hb,hbb⟩,let ⟨mc,h1,h2⟩:=hlim;⟨mc,nsK h1,h2⟩⟩
  have e0:Cm P w K mg (xN s₁.heap H) callerA [] s₁ H:=⟨rfl,hM,fun b o e=>Qa e,Nat.le_of_eq (Hr _ _),trivial,fun b hb=>absurd (show b∈([]:List Addr) from hb) (by simp),hok,.of_eq hg⟩
  refine codeAny_mono ((F _ hKb (nsK hns)).run callerA [] s₁ H ⟨[.ref a],[]⟩ [.ref a] [.ref a] _ _ hr e0 (hbind s₁ (.ref a)) (.cons rfl .nil) (hsp H hO hS)) fun r s' h=>?_
  cases r with
  |error e=>exact(hCX H e s' h).elim
  |ok fl=>
   cases fl with
   |next=>exact False.elim h
   |brk=>exact False.elim h
   |cont=>exact False.elim h
   |ret u=>
    obtain⟨v,H',os,bare,un,hok',r',q⟩:=h
    have q':v=.bl true:=q
    subst q'
    obtain rfl:u=Value.bool true:=r'
    refine⟨rfl,OldK.of_keep fun b o e=>?_,os,bare⟩
    cases q:H b with
    |none=>exact un.keep b o e q (by intro z;exact absurd (show b∈([]:List Addr) from z) (by simp)) (by simp)
    |some u=>
     rcases hO b with z | ⟨ob,xs,z⟩
     ·rw[q] at z;cases z
     ·have z2:=un.frzs b ob _ z
      obtain⟨e1,_⟩:=hok b _ z
      obtain⟨e2,_⟩:=hok' b _ z2
      rw[e] at e1;cases e1
      exact e2
 cases hk:K.lookup a with
 |some o=>
  have e:=KX a o hk
  rw[ha] at e
  cases e
  refine core (fun _=>none) (fun _=>.inl rfl) (.inr ⟨_,vs.toArray,_,hk,rfl,rfl,rfl,by rw[List.size_toArray,lenV];exact hl,by simpa using rv⟩) (fun b u z=>by have z':(none:Option HO)=some u:=z;cases z') (fun b z=>absurd rfl z) fun z=>absurd rfl z
 |none=>
  refine core (fun b=>if b=a then some (.frz { cls:=.type "list",data:=.seq vs.toArray } (.lst (ns.map V.int))) else none) (fun b=>?_) (.inl (.inr ⟨{ cls:=.type "list",data:=.seq vs.toArray },if_pos rfl⟩)) (fun b u z=>?_) (fun b z=>?_) fun _=>hk
  ·by_cases hb:b=a
   ·exact .inr ⟨_,_,if_pos hb⟩
   ·exact .inl (if_neg hb)
  ·by_cases hb:b=a
   ·have z':=(if_pos hb).symm.trans z
    cases z'
    subst hb
    exact⟨ha,by rw[List.length_map];exact hl,vs,_,rv,ha⟩
   ·have z':=(if_neg hb).symm.trans z
    cases z'
  ·by_cases hb:b=a
   ·exact hb
   ·exact absurd (if_neg hb) z
abbrev KOf {K:PySem.W.Frag} {h:Heap} (_:K.In h):PySem.W.Frag:=K
theorem Re {l:PySem.W.OpenLaw} {n k:Nat} {q:Program} {loose:List Str} {XP:(Str→Option Value)→Heap→Prop} {YP:World→Heap→Prop} {d:DefRec} {K:Params→PySem.W.Frag} {CX:World→CXT} {sp:World→Sp} {x:Str}
  (hn:l.most=some n) (hn2:n≤sizeLine) (hdf:d.params.defaults=[]) (hr:gG k callerA)
  (hY:∀(w:World) (h:Heap),YP w h→(K w.params).In h)
  (F:∀(w:World) (mg:Str→Option Value) (fa:Addr) (h:Heap),(K w.params).In h→h.Ns mainGlobals mg→mg d.name=some (.ref fa)→
   ∃fd:FuncData,(∀(s:Shared) (u:Value),BindsTo s fd ⟨[u],[]⟩ [(x,u)])∧
    ∀base:Heap,(K w.params).In base→base.Ns mainGlobals mg→aP l.prog w (K w.params) mg base (CX w) k fa fd [x] (sp w))
  (hsp:∀(w:World) (H:Hp) (a:Addr) (ns:List Int),ns.length≤n→Tk H→SqL (K w.params) H a (ns.map V.int)→sp w [.ref a] H (fun v _=>v=.bl true) fun _ _ _=>False)
  (hCX:∀(w:World) (H:Hp) (s:Shared) (e:Value) (s':Shared),CX w [] H s (fun _ _ _=>False) e s'→False) :
  PySem.W.WalkO q loose XP YP l.row.toRowW d [] (fun f vs=>PySem.call f vs):=by
 refine Att.attach_call hn hdf fun w s₀ s₁ mg mb fa o pm cd doc a vs ns G Y ho hd hcd hmg hobj hints hlen hg=>?_
 have KX:=hY w _ Y
 obtain⟨fd,hb,hF⟩:=F w mg fa _ KX G.T.g hmg
 exact Lv KX G.T.g G.T.b G.T.builtins G.T.nolimit hg hobj hints (Nat.le_trans hlen hn2) hr hF hb (fun H hO hS=>hsp w H a ns hlen hO hS) fun H e s'=>hCX w H s₁ e s'
def cV (s:Stmt) (j:Nat):Stmt:=match s with
 | .ClassDef _ _ _ body _ _ _ _ _ _ _=>body.getD j (.Pass ⟨0,0,0,0⟩)
 |_=>.Pass ⟨0,0,0,0⟩
def aQ (s:Stmt):Arguments:=match s with
 | .FunctionDef _ a _ _ _ _ _ _ _ _=>a
 |_=>{ posonlyargs:=[],args:=[],vararg:=none,kwonlyargs:=[],kw_defaults:=[],kwarg:=none,defaults:=[] }
def aM (s:Stmt):List Stmt:=match s with
 | .FunctionDef _ _ b _ _ _ _ _ _ _=>b
 |_=>[]
def aD (s:Stmt):Scope:=match s with
 | .FunctionDef _ _ _ _ _ _ sc _ _ _=>sc
 |_=>{ kind:=.function,names:=[],isGenerator:=false,isCoroutine:=false }
abbrev CX0:CXT:=fun _ _ _ _ _ _=>False
abbrev E0:XK:=fun _ _ _=>False
theorem aL {X:Cx}:jJ CX0 X E0:=fun _ _ _ _ _ _ _ h=>h.elim
theorem Ai {A:Around} {k:Nat} (hr:gG k A):A.units+1 < cLine:=Nat.lt_of_le_of_lt (Nat.add_le_add_left (by decide:1≤64) _) hr.units
theorem bH {n:Nat} (h:n≤1000):n < sizeLine:=Nat.lt_of_le_of_lt h (by decide)
section
variable {X:Cx}
theorem pv (i:Nat) {x:Str} {pos:Pos} (hN:X.N[i]?=some x:=by rfl) (hv:Vis X.env.scope x:=by first | exact Or.inl rfl | exact Or.inr (Or.inl rfl) | exact Or.inr (Or.inr rfl)) (hd:(x == ("__debug__":Str))=false:=by decide)
  (hcd:(x == ("__classdict__":Str))=false:=by decide):PE X (.Name x pos) (Qf i):=Ko hN hv hd hcd
end
theorem eV {A B:Prop} (h:B):if false=true then A else B:=by
 rw[if_neg Bool.false_ne_true]
 exact h
theorem gJ {A B:Prop} (h:A):if true=true then A else B:=by
 rw[if_pos rfl]
 exact h
theorem oH {c A B:Prop} [Decidable c] (h1:c→A) (h2:¬c→B):if c then A else B:=by
 by_cases h:c
 ·rw[if_pos h]
  exact h1 h
 ·rw[if_neg h]
  exact h2 h
def bC (H H':Hp):Prop:=∀b o,H b=some o→H' b=some o
theorem bC.refl (H:Hp):bC H H:=fun _ _ h=>h
theorem bC.trans {H H1 H2:Hp} (a:bC H H1) (b:bC H1 H2):bC H H2:=fun c o h=>b c o (a c o h)
theorem bC.free {H H':Hp} (e:bC H H') {l:Addr} (h:H' l=Option.none):H l=Option.none:=by
 cases q:H l with
 |none=>rfl
 |some o=>
  rw[e l o q] at h
  cases h
theorem bC.seq {K:PySem.W.Frag} {H H':Hp} {a:Addr} {xs:List V} (e:bC H H') (h:SqL K H a xs):SqL K H' a xs:=by
 rcases h with (h | ⟨o,h⟩) | h
 ·exact .inl (.inl (e _ _ h))
 ·exact .inl (.inr ⟨o,e _ _ h⟩)
 ·exact .inr h
end L2
set_option maxHeartbeats 1000000
namespace L2
open PySem PySem.Spec PyProof.Rows
section
variable {X:Cx}
def Bt (n:Nat) (i:Int):Prop:=i.natAbs < 2 ^ n
theorem rT {n:Nat} {i:Int} (h:Bt n i):Builtin.Int.intBits i≤n:=by
 unfold Builtin.Int.intBits
 split
 ·exact Nat.zero_le _
 ·rename_i h0
  have hp:i.natAbs≠0:=by
   intro z
   apply h0
   simp at z ⊢
   exact z
  have:i.natAbs.log2 < n:=(Nat.log2_lt hp).mpr h
  omega
def Py (i j:Int):Prop:=∃n m,Bt n i∧Bt m j∧n≤1048576∧m≤1048576
theorem Py.ok {i j:Int} (h:Py i j):IntMulOk i j:=by
 obtain⟨n,m,h1,h2,h3,h4⟩:=h
 have e:(2:Nat) ^ 20=1048576:=by decide
 exact IntMulOk.of_bits (by have:=rT h1;omega) (by have:=rT h2;omega)
theorem dG:OpR X (binaryOp .Mult) (rI Py fun i j=>.int (i*j)):=opI fun _ _ _ _ _ _ _ hc q=>mul_int q hc.ok
def Fc (i j:Int):Prop:=j≠0∧∃n,Bt n j∧n≤9000
theorem Fc.ok {i j:Int} (h:Fc i j):Builtin.divisionGoesByPylong i j=false:=by
 obtain⟨h0,n,h1,h2⟩:=h
 refine PyProof.noPylong_of_log2 ?_
 have hp:j.natAbs≠0:=by omega
 have:j.natAbs.log2 < n:=(Nat.log2_lt hp).mpr h1
 omega
theorem iN:OpR X (binaryOp .FloorDiv) (rI Fc fun i j=>.int (i.fdiv j)):=opI fun _ _ _ _ _ _ _ hc q=>floordiv_int hc.1 q (.inl hc.ok)
mutual
inductive mY (K:PySem.W.Frag) (H:Hp):V→PyData→Prop where
 |non:mY K H .non .none
 |bl (b:Bool):mY K H (.bl b) (.bool b)
 |int (i:Int):mY K H (.int i) (.int i)
 |str (x:Str):mY K H (.str x) (.str x)
 |lst {a:Addr} {xs:List V} {ds:List PyData} (h:SqL K H a xs) (q:tT K H xs ds):mY K H (.ref a) (.list ds)
 |tup {a:Addr} {xs:List V} {ds:List PyData} (h:SqT K H a xs) (q:tT K H xs ds):mY K H (.ref a) (.tuple ds)
inductive tT (K:PySem.W.Frag) (H:Hp):List V→List PyData→Prop where
 |nil:tT K H [] []
 |cons {x:V} {d:PyData} {xs:List V} {ds:List PyData} (p:mY K H x d) (q:tT K H xs ds):tT K H (x :: xs) (d :: ds)
end
theorem jU {pins:List (Addr × Obj)} {s:Shared} {σ:St} {H:Hp} (I:Inv X pins σ H s):∀{x:V} {d:PyData},mY X.K H x d→∀{u:Value},cF x u→∃as,Reads s.heap u d as:=by
 intro x d h
 induction h using mY.rec (motive_2:=fun xs ds _=>∀{us:List Value},bX xs us→∃as,ReadsAll s.heap us ds as) with
 |non=>intro u r;cases (show u=Value.none from r);exact⟨_,.none⟩
 |bl b=>intro u r;cases (show u=Value.bool b from r);exact⟨_,.bool b⟩
 |int i=>intro u r;obtain⟨t,rfl⟩:=(show ∃t,u=Value.int i t from r);exact⟨_,.int i t⟩
 |str y=>intro u r;obtain⟨t,rfl⟩:=(show ∃t,u=Value.str y t from r);exact⟨_,.str y t⟩
 |lst h q ih=>
  intro u r
  cases (show u=Value.ref _ from r)
  obtain⟨its,rv,pl,_⟩:=I.list h
  obtain⟨as,ra⟩:=ih rv
  obtain⟨o,h1,h2,n,h3⟩:=pl.isList
  exact⟨_,.list h1 h2 h3 (by simpa using ra)⟩
 |tup h q ih=>
  intro u r
  cases (show u=Value.ref _ from r)
  obtain⟨its,rv,pl,_⟩:=I.tuple h
  obtain⟨as,ra⟩:=ih rv
  obtain⟨o,h1,h2,n,h3⟩:=pl
  exact⟨_,.tuple h1 h2 h3 (by simpa using ra)⟩
 |nil=>rename_i us r;cases r;exact⟨_,.nil⟩
 |cons p q ih1 ih2=>
  rename_i us r
  cases r with
  |cons r1 r2=>
   obtain⟨as,h1⟩:=ih1 r1
   obtain⟨bs,h2⟩:=ih2 r2
   exact⟨_,.cons h1 h2⟩
def Hf (K:PySem.W.Frag) (neg:Bool):R2:=fun x y H Q=>∃d e,mY K H x d∧mY K H y e∧d.canLay0=true∧e.canLay0=true∧min d.depth e.depth≤16∧Q (.bl (if neg then !PyData.eqv d e else PyData.eqv d e)) H
theorem Cd (hu:X.A.units+64 < cLine):OpR X (compareOp .Eq) (Hf X.K false):=by
 intro pins s σ H x y v u Q I rx ry h
 obtain⟨d,e,h1,h2,c1,c2,hm,q⟩:=h
 obtain⟨as,r1⟩:=jU I h1 rx
 obtain⟨bs,r2⟩:=jU I h2 ry
 exact PySem.SeqAt.compareEq_reads r1 r2 c1 c2 (by omega) ⟨.bl (PyData.eqv d e),H,I,rfl,q⟩
theorem Ja (hu:X.A.units+64 < cLine):OpR X (compareOp .NotEq) (Hf X.K true):=by
 intro pins s σ H x y v u Q I rx ry h
 obtain⟨d,e,h1,h2,c1,c2,hm,q⟩:=h
 obtain⟨as,r1⟩:=jU I h1 rx
 obtain⟨bs,r2⟩:=jU I h2 ry
 exact PySem.SeqAt.compareNe_reads r1 r2 c1 c2 (by omega) ⟨.bl (!PyData.eqv d e),H,I,rfl,q⟩
end
end L2
set_option maxHeartbeats 2000000
namespace L2
open PySem PySem.Spec PyProof.Rows
section
variable {prog:Program} {w:World} {A:Around} {R:Result→Shared→Prop} {s:Shared}
abbrev Rq (ifs:List Expr) (env:Env):Sem Bool:=forIn ifs true fun c r=>if r=true then do let ok ← isTrue c env (eval c env);pure (ForInStep.yield ok) else pure (ForInStep.yield r)
theorem Gy {elt target iter:Expr} {ifs:List Expr} {scope:Scope} {pos:Pos} {it acc:Value} {env:Env} (I:Nat→Shared→Prop)
  (turn:∀n s,I n s→wpAny (model prog w) A (pyNext it) (fun r s₁=>match r with
   |none=>R (.ok .next) s₁
   |some v=>wpAny (model prog w) A (letOwnedTupleGo target it v) (fun _ s₀=>wpAny (model prog w) A (assign target env v) (fun _ s₂=>
     wpAny (model prog w) A (Rq ifs env) (fun ok s₃=>
      if ok=true then wpAny (model prog w) A (eval elt env) (fun x s₄=>
       wpAny (model prog w) A (call (.builtin "list.append") [acc,x]) (fun _ s₅=>∃m,m < n∧I m s₅) (fun _ _=>False) s₄) (fun _ _=>False) s₃
      else ∃m,m < n∧I m s₃) (fun _ _=>False) s₂) (fun _ _=>False) s₀) (fun _ _=>False) s₁) (fun _ _=>False) s)
  (n:Nat) (h:I n s) :
  codeAny (model prog w) A (.compLoop (.ListComp elt [⟨target,iter,ifs,0⟩] scope pos) 0 it acc env) R s:=by
 refine codeAny_loop rfl I (fun n s hI=>?_) n h
 show wpAny _ A ((compTurn (.ListComp elt [⟨target,iter,ifs,0⟩] scope pos) 0 it acc env).onRaise (fun x=>do noteFrame x env;theTreesLotGoes x)) _ _ s
 refine wpAny_noted ?_
 rw[compTurn_list]
 refine wpAny_bind (wpAny_standAt (wpAny_bind (wpAny_mono (turn n s hI) (fun r s₁ h₁=>?_) fun _ _ z=>z.elim)))
 cases r with
 |none=>exact wpAny_pure h₁
 |some v=>
  refine wpAny_bind (wpAny_mono h₁ (fun _ s₀ h₀=>?_) fun _ _ z=>z.elim)
  refine wpAny_bind (wpAny_mono h₀ (fun _ s₂ h₂=>wpAny_bind (wpAny_mono h₂ (fun ok s₃ h₃=>?_) fun _ _ z=>z.elim)) fun _ _ z=>z.elim)
  cases ok with
  |false=>exact wpAny_pure ⟨rfl,h₃⟩
  |true=>
   rw[if_pos rfl] at h₃
   show wpAny _ _ ((do let _ ← call (.builtin "list.append") [acc,← eval elt env]) >>= fun _=>again (.compLoop (.ListComp elt [⟨target,iter,ifs,0⟩] scope pos) 0 it acc env)) _ _ _
   exact wpAny_bind (wpAny_bind (wpAny_mono h₃ (fun x s₄ h₄=>wpAny_bind (wpAny_mono h₄ (fun _ s₅ h₅=>wpAny_pure (wpAny_pure ⟨rfl,h₅⟩)) fun _ _ z=>z.elim)) fun _ _ z=>z.elim))
end
structure xF (X:Cx) (scope:Scope) (cl:List (Str × Addr)) (Nc:List Str) (nl:Nat) (fr:List Nat):Prop where
 clos:closureFor scope X.env=pure cl
 kind:scope.kind=.function
 names:∀y∈scope.names,y.2=.local→scope.names.lookup y.1=some .local
 cell:∀y∈scope.names,y.2≠.cell
 sub:∀x c,cl.lookup x=some c→X.env.cells.lookup x=some c
 has:∀x,(relabel scope X.env).names.lookup x=some .cell∨(relabel scope X.env).names.lookup x=some .free→∃c,cl.lookup x=some c
 len:Nc.length=nl+fr.length
 tail:∀i n,Nc[nl+i]?=some n→∃j,fr[i]?=some j∧X.N[j]?=some n∧X.env.kindOf n=some .cell∧cl.lookup n=X.env.cells.lookup n∧((relabel scope X.env).names.lookup n=some .cell∨(relabel scope X.env).names.lookup n=some .free)
abbrev eY (X:Cx) (scope:Scope) (cl:List (Str × Addr)) (Nc:List Str) (C:Addr) (s3:Shared) (H3:Hp) (fp:List Addr) (pins:List (Addr × Obj)):Cx:=
 { X with N:=Nc,s₀:=s3,H₀:=H3,env:=compEnvC scope cl C X.env,outer:=X.stack,ex:=fp,fn:=fun _=>false,pn:=X.pn++pins,xe:=fun _ _=>False }
def σC (nl:Nat) (fr:List Nat) (σ:St):St:=List.replicate nl none++fr.map fun j=>(σ[j]?).join
abbrev PIf (X:Cx) (ifs:List Expr) (t:TT):Prop:=
 ∀(pins:List (Addr × Obj)) (s:Shared) (σ:St) (H:Hp) (Q:Bool→Hp→Prop),Inv X pins σ H s→t σ H Q→wpAny (model X.prog X.w) X.A (Rq ifs X.env) (TP X pins σ Q) X.xe s
theorem gB {X:Cx}:PIf X [] (fun _ H Q=>Q true H):=fun _ _ _ H _ I h=>wpAny_pure ⟨H,I,h⟩
theorem Dz {X:Cx} {c:Expr} {t:TT} (h:PT X c t):PIf X [c] t:=fun pins s σ H Q I q=>wpAny_tests_one (h pins s σ H Q I q)
section
variable {X:Cx} {scope:Scope} {cl:List (Str × Addr)} {Nc:List Str} {nl:Nat} {fr:List Nat} {pins:List (Addr × Obj)} {σ:St} {H3:Hp} {s3:Shared} {fp:List Addr} {h4:Heap} {tk:Nat}
theorem Bk (ck:xF X scope cl Nc nl fr) (I:Inv X pins σ H3 s3) (hf:∀b∈fp,mD X pins H3 b) (hfs:∀b∈fp,b < s3.heap.objs.size)
  (hns:h4.Ns s3.heap.objs.size fun _=>none) (hk:∀b o,s3.heap.get? b=some o→h4.get? b=some o) :
  Inv (eY X scope cl Nc s3.heap.objs.size s3 H3 fp pins) [] (σC nl fr σ) H3 { s3 with heap:=h4,toks:=tk }:=by
 have stk:∀b∈frs X.stack,b∈X.env.locals :: X.fs:=I.stkSub
 have nfs:∀b,b≠X.env.locals→b∉X.fs→b∉frs X.stack:=fun b h1 h2 z=>(List.mem_cons.mp (stk b z)).elim h1 h2
 have ltc:∀x c,cl.lookup x=some c→c < s3.heap.objs.size:=fun x c e=>by
  obtain⟨v,z⟩:=I.cell x c (ck.sub x c e)
  exact z.lt
 refine⟨⟨I.ok.mod,ck.kind,I.ok.glob,I.ok.blt,Nat.le_refl _,fun x y c h1 h2=>I.ok.inj x y c (ck.sub x c h1) (ck.sub y c h2),fun x hx=>ck.has x hx,fun x c hz=>Bool.noConfusion hz,I.ok.hd,I.ok.frames,.inl rfl,fun b hb=>?_,I.bs,Nat.le_trans I.ok.bsz I.sz,fun b o e hb=>?_,fun b hb=>?_,I.stack,I.stkFree⟩,
  rfl,I.bare,Un.kept hk,⟨_,hns,fun i x v h1 h2 h3=>?_⟩,fun x c e=>?_,I.hok.fresh (Nat.le_refl _),fun x c e=>I.freeC x c (ck.sub x c e),fun p hp=>?_,I.hok.kept hk,?_⟩
 ·obtain⟨f0,f1,f2,f3,f4,f5⟩:=hf b hb
  exact⟨Nat.ne_of_lt (hfs b hb),fun x c e=>f4 x c (ck.sub x c e)⟩
 ·obtain⟨f0,f1,f2,f3,f4,f5⟩:=hf b hb
  rcases f3 with z | z
  ·exact I.ok.noex b o e z
  ·exact absurd (Nat.lt_of_lt_of_le (Heap.lt_size e) (Nat.le_trans I.ok.bsz z)) (Nat.lt_irrefl _)
 ·obtain⟨f0,f1,f2,f3,f4,f5⟩:=hf b hb
  exact nfs b f1 f2
 ·-- a name's value
  unfold σC at h2
  by_cases hi:i < nl
  ·rw[List.getElem?_append_left (by simpa using hi),List.getElem?_replicate] at h2
   split at h2<;>cases h2
  ·have hi':nl≤i:=by omega
   rw[List.getElem?_append_right (by simpa using hi'),List.length_replicate,List.getElem?_map] at h2
   obtain⟨k,rfl⟩:∃k,i=nl+k:=⟨i - nl,by omega⟩
   obtain⟨j,e1,e2,e3,e4,e5⟩:=ck.tail k x h1
   rw[Nat.add_sub_cancel_left,e1] at h2
   have h2':(σ[j]?).join=some v:=by simpa using h2
   have h2'':σ[j]?=some (some v):=by
    cases q:σ[j]? with
    |none=>rw[q] at h2';cases h2'
    |some z=>rw[q] at h2';exact congrArg some h2'
   obtain⟨m,hn,hl⟩:=I.loc
   obtain⟨u,r,l⟩:=hl j x v e2 h2'' (.inr (.inl e3))
   refine⟨u,r,?_⟩
   rcases l with ⟨k1,_⟩ | ⟨k1,c,ec,z⟩
   ·rw[e3] at k1;cases k1
   ·obtain⟨o,ho,hd⟩:=z
    exact .inr ⟨e5,c,by show cl.lookup x=some c;rw[e4];exact ec,o,hk _ _ ho,hd⟩
 ·obtain⟨v,o,ho,hd⟩:=I.cell x c (ck.sub x c e)
  exact⟨v,o,hk _ _ ho,hd⟩
 ·have hp':p∈X.pn++pins:=by simpa using hp
  obtain⟨e,n,ne,nf,d⟩:=I.pin p hp'
  exact⟨hk _ _ e,n,Nat.ne_of_lt (Heap.lt_size e),nfs _ ne nf,d⟩
 ·unfold σC
  show _=Nc.length
  rw[List.length_append,List.length_replicate,List.length_map,ck.len]
theorem Ng {pins':List (Addr × Obj)} {σ':St} {H':Hp} {s':Shared} (I:Inv X pins σ H3 s3) (hf:∀b∈fp,mD X pins H3 b)
  (J:Inv (eY X scope cl Nc s3.heap.objs.size s3 H3 fp pins) pins' σ' H' s'):Inv X pins σ H' s'∧mD X pins H' s3.heap.objs.size:=by
 refine⟨I.call' (ch:=fp) J.os J.base J.hok J.bare fun b hb=>?_,I.fpOk (Nat.le_refl _) J.free⟩
 obtain⟨f0,f1,f2,f3,f4,f5⟩:=hf b hb
 exact⟨f3,f1,f4,f5⟩
theorem Inv.off {b:Addr} {H:Hp} {s:Shared} {h':Heap} (I:Inv X pins σ H s) (f:mD X pins H b) (hs:Heap.SameBut b s.heap h'):Inv X pins σ H { s with heap:=h' }:=by
 obtain⟨f0,f1,f2,f3,f4,f5⟩:=f
 exact I.turned (t':=s.toks) (it:=b) (fun c o hb e=>(hs.2 c hb).trans e) f0 f1 f3 f4 f5
end
def yY (J:It) (nl:Nat) (fr:List Nat) (g:TG) (tt:TT) (te:TE) (σ:St) (D:Addr) (H1:Hp) (Q:VK):Prop:=
 ∃W:Nat→Nat→List V→Hp→Prop,(∃m,W 0 m [] (upd H1 D (.lst [])))∧∀i m ys H2,W i m ys H2→H2 D=some (.lst ys)∧
  ((J.stop i H2∧Q (.ref D) H2)∨(J.go i H2∧∀x H3,J.yld i H2 x H3→g x (σC nl fr σ) H3 fun σ2 H4=>σ2.length=(σC nl fr σ).length∧(∀(i:Nat) v,(σC nl fr σ)[i]?=some (some v)→σ2[i]?=some (some v))∧
   tt σ2 H4 fun b H5=>if b=true then te σ2 H5 fun y H6=>H6 D=some (.lst ys)∧ys.length < sizeLine∧∃m',m' < m∧W (i+1) m' (ys++[y]) (upd H6 D (.lst (ys++[y])))
    else ∃m',m' < m∧W (i+1) m' ys H5))
def Md (wi:TI) (nl:Nat) (fr:List Nat) (g:TG) (tt:TT) (te:TE):TE:=fun σ H Q=>wi σ H fun J H1=>∀D,H1 D=none→yY J nl fr g tt te σ D H1 Q
section
variable {X:Cx} {scope:Scope} {cl:List (Str × Addr)} {Nc:List Str} {nl:Nat} {fr:List Nat} {elt tg iter:Expr} {ifs:List Expr} {pos:Pos} {wi:TI} {g:TG} {tt:TT} {te:TE}
theorem zB (hc:X.calm=true) (ck:xF X scope cl Nc nl fr) (hi:PI X tg iter wi)
  (hg:∀C s3 H3 fp pins,PG (eY X scope cl Nc C s3 H3 fp pins) tg g) (ht:∀C s3 H3 fp pins,PIf (eY X scope cl Nc C s3 H3 fp pins) ifs tt) (he:∀C s3 H3 fp pins,PE (eY X scope cl Nc C s3 H3 fp pins) elt te)
  {pins:List (Addr × Obj)} {s:Shared} {σ:St} {H:Hp} {Q:VK} (I:Inv X pins σ H s) (h:Md wi nl fr g tt te σ H Q) {RR:Value→Addr→Result→Shared→Prop}
  (fin:∀D C s',(∃H',(∃m,s'.heap.Ns C m)∧Inv X pins σ H' s'∧mD X pins H' C∧Q (.ref D) H')→RR (.ref D) C (.ok .next) s') :
  wpAny (model X.prog X.w) X.A (eval iter X.env) (fun x s₁=>wpAny (model X.prog X.w) X.A (pyIter x) (fun it s₂=>wpAny (model X.prog X.w) X.A (newList []) (fun acc s₃=>
   wpAny (model X.prog X.w) X.A (newFunctionEnv scope X.env.globals cl [] X.env.qual none .none (some X.env)) (fun cenv s₄=>
    codeAny (model X.prog X.w) X.A (.compStart (.ListComp elt [⟨tg,iter,ifs,0⟩] scope pos) 0 it acc { cenv with scope:=relabel scope X.env }) (RR acc cenv.locals) s₄) X.xe s₃) X.xe s₂) X.xe s₁) X.xe s:=by
 refine thn (hi pins s σ H _ I h) fun v s1 h1=>thn h1 fun itv s2 h2=>?_
 obtain⟨it,fp,tn,J,H2,e,I2,T,st2,f2,hD⟩:=h2
 subst e
 have hn2:H2 s2.heap.objs.size=none:=I2.hok.fresh (Nat.le_refl _)
 obtain⟨W,⟨m0,w0⟩,turn⟩:=hD s2.heap.objs.size hn2
 refine wpAny_newObj_type (wpAny_newFunctionEnv ck.cell (by intro y hy;simp at hy) (fun h4 hns hsb=>?_) ck.kind)
 dsimp only at hns hsb ⊢
 have I3:Inv X pins σ (upd H2 s2.heap.objs.size (.lst [])) { s2 with heap:=s2.heap.push { cls:=.type "list",dict:=none,data:=.seq ([]:List Value).toArray } }:=
  I2.laid (t':=s2.toks) (fun b u e=>Heap.get?_push_of_some _ e) (Nat.le_refl _) ⟨Nat.zero_le _,[],0,.nil,Heap.get?_push_size _ rfl⟩
 have hfs:∀b∈fp,b < s2.heap.objs.size:=fun b hb=>by
  obtain⟨o,e,_⟩:=T.obj 0 _ st2 b hb
  exact Heap.lt_size e
 have f3:∀b∈fp,mD X pins (upd H2 s2.heap.objs.size (.lst [])) b:=fun b hb=>⟨by rw[aW (Nat.ne_of_lt (hfs b hb))];exact(f2 b hb).1,(f2 b hb).2⟩
 generalize hH3:upd H2 s2.heap.objs.size (.lst [])=H3 at *
 generalize hs3:({ s2 with heap:=s2.heap.push { cls:=.type "list",dict:=none,data:=.seq ([]:List Value).toArray } }:Shared)=s3 at *
 have z3:s3.heap=s2.heap.push { cls:=.type "list",dict:=none,data:=.seq ([]:List Value).toArray }:=by rw[← hs3]
 have hsz3:s3.heap.objs.size=s2.heap.objs.size+1:=by rw[z3,Heap.size_push]
 rw[← z3] at hns hsb ⊢
 have hk4:∀b o,s3.heap.get? b=some o→h4.get? b=some o:=fun b o e=>hsb.extBut b o (Nat.ne_of_lt (Heap.lt_size e)) (Heap.get?_push_of_some _ e)
 have hfs3:∀b∈fp,b < s3.heap.objs.size:=fun b hb=>Nat.lt_of_lt_of_le (hfs b hb) (by rw[hsz3];exact Nat.le_succ _)
 have hns':h4.Ns s3.heap.objs.size fun _=>none:=by simpa using hns
 have K0:=fun tk=>Bk (tk:=tk) ck I3 f3 hfs3 hns' hk4
 have stat:∀{H':Hp},(∀b∈fp,H' b=none)→∀b∈fp,mD (eY X scope cl Nc s3.heap.objs.size s3 H3 fp pins) [] H' b:=fun {H'} hn b hb=>by
  obtain⟨f0,g1,g2,g3,g4,g5⟩:=f3 b hb
  refine⟨hn b hb,Nat.ne_of_lt (hfs3 b hb),fun z=>?_,.inl hb,fun x c e=>g4 x c (ck.sub x c e),fun p hp=>g5 p (by simpa using hp)⟩
  exact(List.mem_cons.mp (I3.stkSub b z)).elim g1 g2
 have st4:tn 0 h4:=T.keep 0 _ _ st2 fun b hb o e=>hk4 b o (by rw[z3];exact Heap.get?_push_of_some _ e)
 have loop:∀tk,codeAny (model X.prog X.w) X.A (.compLoop (.ListComp elt [⟨tg,iter,ifs,0⟩] scope pos) 0 (.ref it) (.ref s2.heap.objs.size) (compEnvC scope cl s3.heap.objs.size X.env)) (RR (.ref s2.heap.objs.size) s3.heap.objs.size) { s3 with heap:=h4,toks:=tk }:=by
  intro tk
  refine Gy (fun n s'=>∃i ys H',Inv (eY X scope cl Nc s3.heap.objs.size s3 H3 fp pins) [] (σC nl fr σ) H' s'∧tn i s'.heap∧(∀b∈fp,H' b=none)∧W i n ys H') ?_ m0 ⟨0,[],H3,K0 tk,st4,fun b hb=>(f3 b hb).1,w0⟩
  rintro n s5 ⟨i,ys,H5,I5,st5,fr5,w5⟩
  obtain⟨hl5,q5⟩:=turn i n ys H5 w5
  rcases q5 with ⟨stop,qn⟩ | ⟨go,step⟩
  ·refine wpAny_mono (T.done (eY X scope cl Nc s3.heap.objs.size s3 H3 fp pins) rfl rfl rfl hc i [] s5 (σC nl fr σ) H5 (fun _ _=>False) I5 (stat fr5) st5 stop) (fun r s6 h6=>?_) fun _ _ z=>z
   obtain⟨hr,I6⟩:=h6
   subst hr
   obtain⟨z1,z2⟩:=Ng I3 f3 I6
   refine fin _ _ _ ⟨H5,?_,z1,z2,qn⟩
   obtain⟨m,hm,_⟩:=I6.loc
   exact⟨m,hm⟩
  ·refine wpAny_mono (T.item (eY X scope cl Nc s3.heap.objs.size s3 H3 fp pins) rfl rfl rfl hc i [] s5 (σC nl fr σ) H5 (fun _ _=>False) I5 (stat fr5) st5 go) (fun r s6 h6=>?_) fun _ _ z=>z
   obtain⟨u,hr,h6⟩:=h6
   subst hr
   refine wpAny_mono h6 (fun _ s7 h7=>?_) fun _ _ z=>z
   obtain⟨x,H7,I7,r7,y7,st7,fr7⟩:=h7
   have I7':=I7.pinned (stat fr7) (T.obj _ _ st7)
   refine wpAny_mono (hg s3.heap.objs.size s3 H3 fp pins _ s7 _ H7 x u _ I7' r7 (step x H7 y7)) (fun _ s8 h8=>?_) fun _ _ z=>z
   obtain⟨σ8,H8,I8,l8,k8,q8⟩:=h8
   refine wpAny_mono (ht s3.heap.objs.size s3 H3 fp pins _ s8 σ8 H8 _ I8 q8) (fun b s9 h9=>?_) fun _ _ z=>z
   obtain⟨H9,I9,q9⟩:=h9
   have again:∀{ys':List V} {H':Hp} {s':Shared} {m':Nat},Inv (eY X scope cl Nc s3.heap.objs.size s3 H3 fp pins) ([]++tG fp s7.heap) σ8 H' s'→m' < n→W (i+1) m' ys' H'→
     ∃m,m < n∧∃i ys H',Inv (eY X scope cl Nc s3.heap.objs.size s3 H3 fp pins) [] (σC nl fr σ) H' s'∧tn i s'.heap∧(∀b∈fp,H' b=none)∧W i m ys H':=fun {ys' H' s' m'} I' hm w'=>by
    refine⟨m',hm,i+1,ys',H',I'.unpinned.weak l8.symm k8,T.keep _ _ _ st7 fun b hb o e=>(I'.pin (b,o) (List.mem_append_right _ (List.mem_append_right _ (jP hb e)))).1,fun b hb=>?_,w'⟩
    obtain⟨o,e,d⟩:=T.obj _ _ st7 b hb
    exact(I'.pin (b,o) (List.mem_append_right _ (List.mem_append_right _ (jP hb e)))).2.1
   cases b with
   |false=>
    rw[if_neg Bool.false_ne_true] at q9 ⊢
    obtain⟨m',hm,w9⟩:=q9
    exact again I9 hm w9
   |true=>
    rw[if_pos rfl] at q9 ⊢
    refine wpAny_mono (he s3.heap.objs.size s3 H3 fp pins _ s9 σ8 H9 _ I9 q9) (fun yv s10 h10=>?_) fun _ _ z=>z
    obtain⟨y,H10,I10,r10,hl10,hz10,m',hm,w10⟩:=h10
    refine wpAny_mono (eX (X:=eY X scope cl Nc s3.heap.objs.size s3 H3 fp pins) _ s10 σ8 H10 (.ref s2.heap.objs.size) [y] _ [yv] (fun v H'=>H'=upd H10 s2.heap.objs.size (.lst (ys++[y]))) I10 rfl (.cons r10 .nil) ⟨_,ys,y,rfl,rfl,hl10,hz10,rfl⟩) (fun _ s11 h11=>?_) fun _ _ z=>z
    obtain⟨_,H11,I11,_,e11⟩:=h11
    subst e11
    exact again I11 hm w10
 have L:=loop (s2.toks+([]:List (Str × Value)).length)
 rw[show s3.gens=s2.gens by rw[← hs3],show s3.drawn=s2.drawn by rw[← hs3],show s3.os=s2.os by rw[← hs3]] at L
 exact codeAny_compStart_list L (T.self _ 0 _ _ _ st4 L)
theorem gV (hc:X.calm=true) (ck:xF X scope cl Nc nl fr) (hi:PI X tg iter wi)
  (hg:∀C s3 H3 fp pins,PG (eY X scope cl Nc C s3 H3 fp pins) tg g) (ht:∀C s3 H3 fp pins,PIf (eY X scope cl Nc C s3 H3 fp pins) ifs tt) (he:∀C s3 H3 fp pins,PE (eY X scope cl Nc C s3 H3 fp pins) elt te)
  (hs:∀x,foldedSetIterable iter X.env x=pure x:=by intro _;rfl):PE X (.ListComp elt [⟨tg,iter,ifs,0⟩] scope pos) (Md wi nl fr g tt te):=by
 intro pins s σ H Q I h
 rw[eval_ListComp]
 refine wpAny_comprehension_free (use:=none) rfl hs ck.clos ck.kind ck.names (zB (RR:=fun acc C=>compPost (model X.prog X.w) X.A X.xe none (EP X pins σ Q) acc C) hc ck hi hg ht he I h fun D C s' hh=>?_)
 obtain⟨H',⟨m,hm⟩,hI,hF,q⟩:=hh
 exact⟨m,hm,fun h' hs'=>⟨.ref D,H',hI.off hF hs',rfl,q⟩⟩
theorem yH {i:Nat} {y:Str} {py spos:Pos} (hN:X.N.Nodup) (hiy:X.N[i]?=some y) (hy:X.env.scope.names.lookup y=some .local) (hc:X.calm=true) (ck:xF X scope cl Nc nl fr) (hi:PI X tg iter wi)
  (hg:∀C s3 H3 fp pins,PG (eY X scope cl Nc C s3 H3 fp pins) tg g) (ht:∀C s3 H3 fp pins,PIf (eY X scope cl Nc C s3 H3 fp pins) ifs tt) (he:∀C s3 H3 fp pins,PE (eY X scope cl Nc C s3 H3 fp pins) elt te)
  (hsw:swapsWith (.ListComp elt [⟨tg,iter,ifs,0⟩] scope pos) (some (.Name y py)) spos.line X.env=pure true)
  (hs:∀x,foldedSetIterable iter X.env x=pure x:=by intro _;rfl):PS X (.Assign [.Name y py] (.ListComp elt [⟨tg,iter,ifs,0⟩] scope pos) spos) (Sr (Md wi nl fr g tt te) (kT i)):=by
 intro pins s σ H D I h
 rw[exec_Assign_Name_used _ _ _ _ hsw]
 refine wpAny_bind (wpAny_standAt (wpAny_bind ?_))
 show wpAny _ X.A (do let _ ← comprehension (.ListComp elt [⟨tg,iter,ifs,0⟩] scope pos) scope X.env _ (newList []) false (eval iter X.env) (some (assign (.Name y py) X.env))) _ _ s
 refine wpAny_bind (wpAny_mono (wpAny_comprehension_free (use:=some (assign (.Name y py) X.env)) (Q:=fun _ s'=>SP X pins D .next s') rfl hs ck.clos ck.kind ck.names
  (zB (RR:=fun acc C=>compPost (model X.prog X.w) X.A X.xe (some (assign (.Name y py) X.env)) (fun _ s'=>SP X pins D .next s') acc C) hc ck hi hg ht he I h fun Dd C s' hh=>?_)) (fun _ s' hq=>wpAny_pure (wpAny_pure hq)) fun _ _ e=>e)
 obtain⟨H',⟨m,hm⟩,hI,hF,q⟩:=hh
 show wpAny _ X.A (assign (.Name y py) X.env (.ref Dd)) _ _ _
 refine wpAny_assign_Name (vZ hI hN hiy (.inl hy) (v:=.ref Dd) rfl (fun s2 I2 hsb=>?_) (.inr hy))
 obtain⟨a,sb,ha⟩:=hsb
 have hCa:C≠a:=by
  rcases ha with z | z
  ·rw[z];exact hF.2.1
  ·exact Ne.symm (hF.2.2.2.2.1 y a z)
 refine⟨m,hm.sameBut sb hCa,fun h' hs'=>⟨_,H',I2.off hF hs',q⟩⟩
end
end L2
set_option maxHeartbeats 1000000
namespace Mq
abbrev Q2:=Int × Int
def gc (a b:Int):Int:=(Int.gcd a b:Nat)
theorem Ei (a b:Int):gc b (Int.fmod a b)=gc a b:=by
 unfold gc
 rw[Int.fmod_def,Int.gcd_comm a b,Int.sub_eq_add_neg,← Int.mul_neg,Int.gcd_add_mul_left_right]
theorem vU {a b:Int} (h:b≠0):(Int.fmod a b).natAbs < b.natAbs:=by
 rcases (by omega:0 < b∨b < 0) with h1 | h1
 ·have:=Int.fmod_nonneg_of_pos a h1
  have:=Int.fmod_lt_of_pos a h1
  omega
 ·have h2:0 < -b:=by omega
  have e:Int.fmod a b=- Int.fmod (-a) (-b):=by
   rw[Int.neg_fmod_neg];omega
  have:=Int.fmod_nonneg_of_pos (-a) h2
  have:=Int.fmod_lt_of_pos (-a) h2
  omega
theorem Fh (a:Int):gc a 0=if a < 0 then -a else a:=by
 unfold gc
 rw[Int.gcd_zero]
 split<;>omega
theorem Vq (a b:Int):gc (if a < 0 then -a else a) (if b < 0 then -b else b)=gc a b:=by
 unfold gc
 split<;>split<;>simp
theorem tD {a b:Int} (h:b≠0):0 < gc a b:=by
 have:=Int.gcd_pos_of_ne_zero_right a h
 unfold gc;omega
structure Low (p:Q2):Prop where
 pos:1≤p.2
 one:gc p.1 p.2=1
def dvr (t b:Int):Int:=if b < 0 then -gc t b else gc t b
def red (t b:Int):Q2:=(Int.fdiv t (dvr t b),Int.fdiv b (dvr t b))
theorem oU {t b:Int} (h:b≠0):dvr t b≠0:=by
 have:=tD (a:=t) h
 unfold dvr;split<;>omega
theorem fB {a g k:Int} (hg:g≠0) (h:a=g*k):Int.fdiv a g=k:=by
 rw[h,Int.mul_fdiv_cancel_left _ hg]
theorem Qo (t b:Int):dvr t b ∣ t∧dvr t b ∣ b:=by
 have h1:gc t b ∣ t:=Int.gcd_dvd_left t b
 have h2:gc t b ∣ b:=Int.gcd_dvd_right t b
 unfold dvr;split
 ·exact⟨Int.neg_dvd.mpr h1,Int.neg_dvd.mpr h2⟩
 ·exact⟨h1,h2⟩
theorem oX {t b:Int} (h:b≠0):t=dvr t b*(red t b).1∧b=dvr t b*(red t b).2:=by
 obtain⟨⟨x,hx⟩,⟨y,hy⟩⟩:=Qo t b
 have hg:=oU (t:=t) h
 have e1:(red t b).1=x:=fB hg hx
 have e2:(red t b).2=y:=fB hg hy
 rw[e1,e2];exact⟨hx,hy⟩
theorem gU {t b:Int} (h:b≠0):Low (red t b):=by
 obtain⟨h1,h2⟩:=oX (t:=t) h
 have hg:=oU (t:=t) h
 have hp:=tD (a:=t) h
 have nd:(dvr t b).natAbs=(gc t b).natAbs:=by unfold dvr;split<;>simp
 have e:Int.gcd t b=(dvr t b).natAbs*Int.gcd (red t b).1 (red t b).2:=by
  rw[← Int.gcd_mul_left,← h1,← h2]
 have e2:(gc t b).natAbs=Int.gcd t b:=by unfold gc;simp
 rw[nd,e2] at e
 have hp':0 < Int.gcd t b:=by unfold gc at hp;omega
 have one:Int.gcd (red t b).1 (red t b).2=1:=by
  have:Int.gcd t b*Int.gcd (red t b).1 (red t b).2=Int.gcd t b*1:=by omega
  exact Nat.eq_of_mul_eq_mul_left hp' this
 refine⟨?_,by unfold gc;rw[one];rfl⟩
 have sgn:0 < (red t b).2:=by
  by_cases hb:b < 0
  ·have hd:dvr t b < 0:=by unfold dvr;rw[if_pos hb];omega
   have hq:¬(red t b).2≤0:=fun q=>by
    have:=Int.mul_nonneg_of_nonpos_of_nonpos (Int.le_of_lt hd) q
    omega
   omega
  ·have hd:0 < dvr t b:=by unfold dvr;rw[if_neg hb];omega
   have hq:¬(red t b).2≤0:=fun q=>by
    have:=Int.mul_nonpos_of_nonneg_of_nonpos (Int.le_of_lt hd) q
    omega
   omega
 omega
theorem vQ {t b:Int} (h:b≠0):(red t b).1*b=t*(red t b).2:=by
 obtain⟨h1,h2⟩:=oX (t:=t) h
 generalize (red t b).1=x at *
 generalize (red t b).2=y at *
 generalize dvr t b=g at *
 subst h1 h2;grind
theorem iH {a g k:Int} (hg:g≠0) (h:a=g*k):k.natAbs≤a.natAbs:=by
 rw[h,Int.natAbs_mul]
 exact Nat.le_mul_of_pos_left _ (by omega)
theorem kD {t b:Int} (h:b≠0):(red t b).1.natAbs≤t.natAbs∧(red t b).2.natAbs≤b.natAbs:=by
 obtain⟨h1,h2⟩:=oX (t:=t) h
 exact⟨iH (oU h) h1,iH (oU h) h2⟩
theorem Cj {t b:Int} (h:b≠0):(dvr t b).natAbs≤b.natAbs:=by
 have e:(dvr t b).natAbs=Int.gcd t b:=by unfold dvr gc;split<;>simp
 rw[e];exact Int.gcd_le_natAbs_right t h
theorem Lk {p q:Q2} (hp:Low p) (hq:Low q) (h:p.1*q.2=q.1*p.2):p=q:=by
 have gp:Int.gcd p.2 p.1=1:=by have:=hp.one;rw[Int.gcd_comm];unfold gc at this;omega
 have gq:Int.gcd q.2 q.1=1:=by have:=hq.one;rw[Int.gcd_comm];unfold gc at this;omega
 have d1:p.2 ∣ q.2:=by
  have:p.2 ∣ p.1*q.2:=⟨q.1,by rw[h,Int.mul_comm]⟩
  have:=Int.dvd_gcd_mul_iff_dvd_mul.mpr this
  rw[gp] at this
  simpa using this
 have d2:q.2 ∣ p.2:=by
  have:q.2 ∣ q.1*p.2:=⟨p.1,by rw[← h,Int.mul_comm]⟩
  have:=Int.dvd_gcd_mul_iff_dvd_mul.mpr this
  rw[gq] at this
  simpa using this
 have l1:=Int.le_of_dvd (by have:=hq.pos;omega) d1
 have l2:=Int.le_of_dvd (by have:=hp.pos;omega) d2
 have e2:p.2=q.2:=by omega
 have e1:p.1=q.1:=by
  rw[e2] at h
  exact Int.eq_of_mul_eq_mul_right (by have:=hq.pos;omega) h
 exact Prod.ext e1 e2
def rV (p q:Q2):Q2:=red (p.1*q.2+q.1*p.2) (p.2*q.2)
def minus (p q:Q2):Q2:=red (p.1*q.2 - q.1*p.2) (p.2*q.2)
def pC (p q:Q2):Q2:=red (p.1*q.2) (p.2*q.1)
theorem kJ {a b:Int} (ha:1≤a) (hb:1≤b):a*b≠0:=by
 have:=Int.mul_pos (show 0 < a by omega) (show 0 < b by omega)
 omega
theorem zU {p q:Q2} (hp:1≤p.2) (hq:1≤q.2):Low (rV p q):=gU (kJ hp hq)
def B (n:Nat) (i:Int):Prop:=i.natAbs < 2 ^ n
structure Bd (n:Nat) (p:Q2):Prop where
 a:B n p.1
 b:B n p.2
theorem B.mono {n m:Nat} {i:Int} (h:B n i) (l:n≤m):B m i:=Nat.lt_of_lt_of_le h (Nat.pow_le_pow_right (by decide) l)
theorem B.mul {n m:Nat} {i j:Int} (h:B n i) (q:B m j):B (n+m) (i*j):=by
 unfold B at *
 rw[Int.natAbs_mul,Nat.pow_add]
 exact Nat.mul_lt_mul'' h q
theorem B.add {n:Nat} {i j:Int} (h:B n i) (q:B n j):B (n+1) (i+j):=by
 unfold B at *
 have:=Int.natAbs_add_le i j
 rw[Nat.pow_succ];omega
theorem B.neg {n:Nat} {i:Int} (h:B n i):B n (-i):=by unfold B at *;omega
theorem B.sub {n:Nat} {i j:Int} (h:B n i) (q:B n j):B (n+1) (i - j):=by
 rw[Int.sub_eq_add_neg];exact h.add q.neg
theorem B.le {n:Nat} {i j:Int} (h:B n i) (l:j.natAbs≤i.natAbs):B n j:=Nat.lt_of_le_of_lt l h
theorem Bd.mono {n m:Nat} {p:Q2} (h:Bd n p) (l:n≤m):Bd m p:=⟨h.a.mono l,h.b.mono l⟩
theorem Gb {n m:Nat} {p q:Q2} (h:Bd n p) (g:Bd m q) (hp:1≤p.2) (hq:1≤q.2):Bd (n+m+1) (rV p q):=by
 have k:=kD (t:=p.1*q.2+q.1*p.2) (kJ hp hq)
 have a2:B (n+m) (q.1*p.2):=by rw[Nat.add_comm];exact g.a.mul h.b
 exact⟨((h.a.mul g.b).add a2).le k.1,((h.b.mul g.b).mono (Nat.le_succ _)).le k.2⟩
def Pos (l:List Q2):Prop:=∀f∈l,1≤f.2
end Mq
namespace L2
open PySem PySem.Spec PyProof.Rows
structure cB (K:PySem.W.Frag) (x qual:Str) (st:Stmt) (dV:Value) (f:Addr) (fd:FuncData):Prop where
 ex:∃(oc:Value) (od:Option Addr) (kV doc pm:Value) (an:Option Addr) (cdv ct:Value) (osl:Array (Option Value)),
  fd=PySem.W.fnOf x qual (aQ st) (aM st) (aD st) dV kV doc pm an cdv ct∧K.lookup f=some ⟨oc,od,.func fd,osl⟩∧PySem.W.codeIn K cdv qual=true
 kp:PySem.W.keepIn K (.ref f)=true
section
variable {P:Program} {w:World} {K:PySem.W.Frag} {mg:Str→Option Value} {base:Heap} {CX:CXT}
theorem cB.okX {x qual:Str} {st:Stmt} {dV:Value} {f:Addr} {fd:FuncData} {N ps:List Str} {k:Nat} {sp:Sp} (F:cB K x qual st dV f fd) (S:aS N ps (aD st)) (len:∀vs H Q E,sp vs H Q E→vs.length=ps.length)
  (hbody:∀(cdv:Value) (A:Around) (outer:List Env) (s:Shared) (H:Hp) (vs:List V) (Q:VK) (E:XK),gG k (A.deeper (envOfC qual (aD st) s.heap.objs.size f cdv))→sp vs H Q E→
   ∃t,PSs (Bv CX P w K mg base N qual (aD st) f cdv A outer s H E) (aM st) t∧t { nx:=fun _ H'=>Q .non H',rt:=Q } (start N vs) H):aP P w K mg base CX (k+1) f fd ps sp:=by
 obtain⟨oc,od,kV,doc,pm,an,cdv,ct,osl,rfl,lk,hcd⟩:=F.ex
 exact We lk hcd S len fun A outer s H vs Q E hr hsp=>hbody cdv A outer s H vs Q E hr hsp
theorem cB.ok {x qual:Str} {st:Stmt} {dV:Value} {f:Addr} {fd:FuncData} {N ps:List Str} {k:Nat} {sp:Sp} (F:cB K x qual st dV f fd) (S:aS N ps (aD st)) (len:∀vs H Q E,sp vs H Q E→vs.length=ps.length)
  (hbody:∀(cdv:Value) (A:Around) (outer:List Env) (s:Shared) (H:Hp) (vs:List V) (Q:VK) (E:XK),gG k (A.deeper (envOfC qual (aD st) s.heap.objs.size f cdv))→sp vs H Q E→
   ∃t,PSs (Bv CX P w K mg base N qual (aD st) f cdv A outer s H E).nox (aM st) t∧t { nx:=fun _ H'=>Q .non H',rt:=Q } (start N vs) H):aP P w K mg base CX (k+1) f fd ps sp:=
 F.okX S len fun cdv A outer s H vs Q E hr hsp=>by
  obtain⟨t,h,q⟩:=hbody cdv A outer s H vs Q E hr hsp
  exact⟨t,h.nox,q⟩
theorem cB.binds {x qual:Str} {st:Stmt} {dV:Value} {f:Addr} {fd:FuncData} {ps:List Str} (F:cB K x qual st dV f fd)
  (h:∀(kV doc pm:Value) (an:Option Addr) (cdv ct:Value) (us:List Value),us.length=ps.length→bindArgs (PySem.W.fnOf x qual (aQ st) (aM st) (aD st) dV kV doc pm an cdv ct) ⟨us,[]⟩=pure (ps.zip us)):aR K fd ps []:=by
 obtain⟨oc,od,kV,doc,pm,an,cdv,ct,osl,rfl,lk,hcd⟩:=F.ex
 exact .all (h kV doc pm an cdv ct)
theorem aU {x qual:Str} {st:Stmt} {dV:Value} {f:Addr} {oc:Value} {od an:Option Addr} {osl:Array (Option Value)} {kV doc pm cdv ct:Value} (l:K.lookup f=some ⟨oc,od,.func (PySem.W.fnOf x qual (aQ st) (aM st) (aD st) dV kV doc pm an cdv ct),osl⟩)
  (c:PySem.W.codeIn K cdv qual=true) (k:PySem.W.keepIn K (.ref f)=true):cB K x qual st dV f (PySem.W.fnOf x qual (aQ st) (aM st) (aD st) dV kV doc pm an cdv ct):=⟨⟨oc,od,kV,doc,pm,an,cdv,ct,osl,rfl,l,c⟩,k⟩
end
abbrev fT (p:Mq.Q2):HO:=.tup [.int p.1,.int p.2]
def Fq (K:PySem.W.Frag) (H:Hp) (a:Addr) (p:Mq.Q2):Prop:=SqT K H a [.int p.1,.int p.2]
theorem bC.seqT {K:PySem.W.Frag} {H H':Hp} {a:Addr} {xs:List V} (e:bC H H') (h:SqT K H a xs):SqT K H' a xs:=by
 rcases h with (h | ⟨o,h⟩) | h
 ·exact .inl (.inl (e _ _ h))
 ·exact .inl (.inr ⟨o,e _ _ h⟩)
 ·exact .inr h
theorem aH {H:Hp} {p:Addr} (h:H p=none) (o:HO):bC H (upd H p o):=fun b u q=>by rw[aW (aZ q h)];exact q
theorem bC.fq {K:PySem.W.Frag} {H H':Hp} {a:Addr} {p:Mq.Q2} (e:bC H H') (h:Fq K H a p):Fq K H' a p:=e.seqT h
theorem Fq.of {K:PySem.W.Frag} {H:Hp} {a:Addr} {p:Mq.Q2} (h:H a=some (fT p)):Fq K H a p:=SqT.of h
theorem fX {K:PySem.W.Frag} {σ:St} {H:Hp} {i:Nat} {a:Addr} {p:Mq.Q2} {Q:VK} (hv:σ[i]?=some (some (.ref a))) (h:Fq K H a p) (q:Q (.int p.1) H):tOp (Qv K) (Qf i) (tC (.int 0)) σ H Q:=
 ⟨_,hv,a,_,_,_,rfl,rfl,h,rfl,q⟩
theorem dH {K:PySem.W.Frag} {σ:St} {H:Hp} {i:Nat} {a:Addr} {p:Mq.Q2} {Q:VK} (hv:σ[i]?=some (some (.ref a))) (h:Fq K H a p) (q:Q (.int p.2) H):tOp (Qv K) (Qf i) (tC (.int 1)) σ H Q:=
 ⟨_,hv,a,_,_,_,rfl,rfl,h,rfl,q⟩
theorem dF {H:Hp} {n m:Nat} {i j:Int} {Q:VK} (h1:Mq.B n i) (h2:Mq.B m j) (h3:n≤1048576) (h4:m≤1048576) (q:Q (.int (i*j)) H):rI Py (fun i j=>.int (i*j)) (.int i) (.int j) H Q:=
 ⟨_,_,rfl,rfl,⟨n,m,h1,h2,h3,h4⟩,q⟩
theorem fC {H:Hp} {n:Nat} {i j:Int} {Q:VK} (h1:j≠0) (h2:Mq.B n j) (h3:n≤9000) (q:Q (.int (i.fdiv j)) H):rI Fc (fun i j=>.int (i.fdiv j)) (.int i) (.int j) H Q:=
 ⟨_,_,rfl,rfl,⟨h1,n,h2,h3⟩,q⟩
structure Bl (mg:Str→Option Value):Prop where
 isi:mg "isinstance"=none
 int:mg "int"=none
 bool:mg "bool"=none
 abs:mg "abs"=none
def rR (t:Value):Prop:=t=.type "bool"∨t=.type "str"∨t=.type "NoneType"∨t=.type "tuple"∨t=.type "list"
def oA (K:PySem.W.Frag):Sp:=fun vs H Q _=>∃x,vs=[x]∧((∃i,x=.int i∧Q (.bl true) H)∨(∃t,mE K H x t∧rR t∧Q (.bl false) H))
def Pj:Sp:=fun vs H Q _=>∃a b:Int,vs=[.int a,.int b]∧Q (.int (Mq.gc a b)) H
def mV (H:Hp) (Q:VK) (p:Mq.Q2):Prop:=∀a H',bC H H'→H' a=some (fT p)→Q (.ref a) H'
def jM:Sp:=fun vs H Q _=>∃(t b:Int) (n:Nat),vs=[.int t,.int b]∧b≠0∧Mq.B n b∧n≤9000∧mV H Q (Mq.red t b)
def mP (K:PySem.W.Frag) (f:Mq.Q2→Mq.Q2→Mq.Q2):Sp:=fun vs H Q _=>∃(a b:Addr) (p q:Mq.Q2) (n m:Nat),vs=[.ref a,.ref b]∧Fq K H a p∧Fq K H b q∧1≤p.2∧1≤q.2∧Mq.Bd n p∧Mq.Bd m q∧n+m+1≤9000∧mV H Q (f p q)
inductive Fqs (K:PySem.W.Frag) (H:Hp):List V→List Mq.Q2→Prop where
 |nil:Fqs K H [] []
 |cons {a:Addr} {p:Mq.Q2} {xs:List V} {ps:List Mq.Q2} (h:Fq K H a p) (q:Fqs K H xs ps):Fqs K H (.ref a :: xs) (p :: ps)
theorem Fqs.same {K:PySem.W.Frag} {H H':Hp} (e:bC H H'):∀{xs:List V} {ps:List Mq.Q2},Fqs K H xs ps→Fqs K H' xs ps
 |_,_,.nil=>.nil
 |_,_,.cons h q=>.cons (e.fq h) (Fqs.same e q)
theorem Fqs.length {K:PySem.W.Frag} {H:Hp}:∀{xs:List V} {ps:List Mq.Q2},Fqs K H xs ps→xs.length=ps.length
 |_,_,.nil=>rfl
 |_,_,.cons _ q=>by simp[Fqs.length q]
theorem Fqs.get {K:PySem.W.Frag} {H:Hp}:∀{xs:List V} {ps:List Mq.Q2} {i:Nat} {x:V},Fqs K H xs ps→xs[i]?=some x→∃a p,x=.ref a∧ps[i]?=some p∧Fq K H a p
 |_,_,_,_,.nil,h=>by simp at h
 |_,_,0,_,.cons h _,e=>by simp at e;exact⟨_,_,e.symm,rfl,h⟩
 |_,_,i+1,_,.cons _ q,e=>by simpa using Fqs.get q (by simpa using e)
theorem Fqs.app {K:PySem.W.Frag} {H:Hp}:∀{xs ys:List V} {ps qs:List Mq.Q2},Fqs K H xs ps→Fqs K H ys qs→Fqs K H (xs++ys) (ps++qs)
 |_,_,_,_,.nil,r=>r
 |_,_,_,_,.cons h q,r=>.cons h (Fqs.app q r)
theorem Fq.upd {K:PySem.W.Frag} {H:Hp} {a l:Addr} {p:Mq.Q2} {xs:List V} {o:HO} (h:Fq K H a p) (hl:H l=some (.lst xs)):Fq K (L2.upd H l o) a p:=by
 rcases h with (h | ⟨u,h⟩) | h
 ·exact .inl (.inl (by rw[aW (fY h hl (fun z=>by cases z))];exact h))
 ·exact .inl (.inr ⟨u,by rw[aW (fY h hl (fun z=>by cases z))];exact h⟩)
 ·exact .inr h
theorem Fqs.upd {K:PySem.W.Frag} {H:Hp} {l:Addr} {ys:List V} {o:HO} (hl:H l=some (.lst ys)):∀{xs:List V} {ps:List Mq.Q2},Fqs K H xs ps→Fqs K (L2.upd H l o) xs ps
 |_,_,.nil=>.nil
 |_,_,.cons h q=>.cons (h.upd hl) (Fqs.upd hl q)
theorem bC.change {H H':Hp} {l:Addr} {o:HO} (s:bC H H') (h:H l=none):bC H (L2.upd H' l o):=fun b u q=>by
 rw[aW (aZ q h)];exact s b u q
def qd (p:Mq.Q2):PyData:=.tuple [.int p.1,.int p.2]
theorem Fq.dat {K:PySem.W.Frag} {H:Hp} {a:Addr} {p:Mq.Q2} (h:Fq K H a p):mY K H (.ref a) (qd p):=.tup h (.cons (.int _) (.cons (.int _) .nil))
theorem Od (p:Mq.Q2):(qd p).canLay0=true:=rfl
theorem Ke (p:Mq.Q2):(qd p).depth≤1:=by simp[qd,PyData.depth,PyData.depthAll]
theorem Tc (p q:Mq.Q2):PyData.eqv (qd p) (qd q)=decide (p=q):=by
 unfold qd
 simp only[PyData.eqv,PyData.eqvAll]
 by_cases h:p=q
 ·subst h;simp
 ·rw[decide_eq_false h]
  by_cases h1:p.1=q.1
  ·have h2:p.2≠q.2:=fun z=>h (Prod.ext h1 z)
   simp[h2]
  ·simp[h1]
theorem My {K:PySem.W.Frag} {H:Hp} {a b:Addr} {p q:Mq.Q2} {neg:Bool} {Q:VK} (h1:Fq K H a p) (h2:Fq K H b q) (z:Q (.bl (if neg then !decide (p=q) else decide (p=q))) H):Hf K neg (.ref a) (.ref b) H Q:=by
 refine⟨_,_,h1.dat,h2.dat,Od p,Od q,?_,?_⟩
 ·have:=Ke p;omega
 ·rw[Tc];exact z
end L2
set_option maxHeartbeats 2000000
namespace L2
open PySem PySem.Spec PyProof.Rows
abbrev Dx (nl:Nat) (fr:List Nat) (g:TG) (tt:TT) (te:TE) (σ:St) (D:Addr) (Pv:Nat→List V→Hp→Prop) (i:Nat) (ys:List V) (x:V) (H:Hp):Prop:=
 g x (σC nl fr σ) H fun σ2 H4=>σ2.length=(σC nl fr σ).length∧(∀(i:Nat) v,(σC nl fr σ)[i]?=some (some v)→σ2[i]?=some (some v))∧
  tt σ2 H4 fun b H5=>if b=true then te σ2 H5 fun y H6=>H6 D=some (.lst ys)∧ys.length < sizeLine∧Pv (i+1) (ys++[y]) (upd H6 D (.lst (ys++[y]))) else Pv (i+1) ys H5
section
variable {nl:Nat} {fr:List Nat} {g:TG} {tt:TT} {te:TE} {σ:St} {D:Addr} {H1:Hp} {Q:VK}
theorem Bw {lo:Int} {n:Nat} (Pv:Nat→List V→Hp→Prop) (h0:Pv 0 [] (upd H1 D (.lst []))) (hl:∀i ys H,Pv i ys H→H D=some (.lst ys))
  (hs:∀i ys H,i < n→Pv i ys H→∀(C:Nat→List V→Hp→Prop),(∀ys H,Pv (i+1) ys H→C (i+1) ys H)→Dx nl fr g tt te σ D C i ys (.int (lo+i)) H) (hd:∀ys H,Pv n ys H→Q (.ref D) H) :
  yY (Itr lo n) nl fr g tt te σ D H1 Q:=by
 refine⟨fun i m ys H=>m=n - i∧i≤n∧Pv i ys H,⟨n,by simp,Nat.zero_le _,h0⟩,?_⟩
 rintro i m ys H ⟨rfl,hi,p⟩
 refine⟨hl i ys H p,?_⟩
 by_cases hlt:i < n
 ·refine .inr ⟨hlt,fun x H' y=>?_⟩
  obtain⟨e,y⟩:=y
  subst e y
  exact hs i ys _ hlt p (fun j zs Hz=>∃m',m' < n - i∧m'=n - j∧j≤n∧Pv j zs Hz) fun zs Hz z=>⟨n - (i+1),by omega,rfl,hlt,z⟩
 ·have e:i=n:=by omega
  subst e
  exact .inl ⟨Nat.le_refl _,hd ys H p⟩
theorem fZ {K:PySem.W.Frag} {a:Addr} {xs:List V} (Pv:Nat→List V→Hp→Prop) (h0:Pv 0 [] (upd H1 D (.lst []))) (hl:∀i ys H,Pv i ys H→H D=some (.lst ys)) (hx:∀i ys H,i≤xs.length→Pv i ys H→SqL K H a xs)
  (hs:∀i ys x H,xs[i]?=some x→Pv i ys H→∀(C:Nat→List V→Hp→Prop),(∀ys H,Pv (i+1) ys H→C (i+1) ys H)→Dx nl fr g tt te σ D C i ys x H) (hd:∀ys H,Pv xs.length ys H→Q (.ref D) H) :
  yY (Itl K a) nl fr g tt te σ D H1 Q:=by
 refine⟨fun i m ys H=>m=xs.length - i∧i≤xs.length∧Pv i ys H,⟨xs.length,by simp,Nat.zero_le _,h0⟩,?_⟩
 rintro i m ys H ⟨rfl,hi,p⟩
 refine⟨hl i ys H p,?_⟩
 have q:=hx i ys H hi p
 by_cases hlt:i < xs.length
 ·refine .inr ⟨⟨xs,xs[i],q,by simp[hlt]⟩,fun x H' y=>?_⟩
  obtain⟨e,y⟩:=y
  subst e
  exact hs i ys x _ (y xs q) p (fun j zs Hz=>∃m',m' < xs.length - i∧m'=xs.length - j∧j≤xs.length∧Pv j zs Hz) fun zs Hz z=>⟨xs.length - (i+1),by omega,rfl,hlt,z⟩
 ·have e:i=xs.length:=by omega
  subst e
  exact .inl ⟨⟨xs,q,Nat.le_refl _⟩,hd ys H p⟩
end
theorem gH {fr:List Nat} {σ:St} {x:V}:((σC 1 fr σ).set 0 (some x)).length=(σC 1 fr σ).length∧∀(i:Nat) v,(σC 1 fr σ)[i]?=some (some v)→((σC 1 fr σ).set 0 (some x))[i]?=some (some v):=by
 refine⟨by simp,fun i v h=>?_⟩
 match i with
 |0=>unfold σC at h;simp at h
 |k+1=>rw[List.getElem?_set_ne (by omega)];exact h
theorem gQ {names:List (Str × NameKind)} {cl:List (Str × Addr)} (h:names.all (fun y=>!(y.2 == .cell || y.2 == .free) || (cl.lookup y.1).isSome)=true) (x:Str) (hx:names.lookup x=some .cell∨names.lookup x=some .free):∃c,cl.lookup x=some c:=by
 have key:∀k,(k=NameKind.cell∨k=NameKind.free)→names.lookup x=some k→∃c,cl.lookup x=some c:=fun k hk e=>by
  have m:=List.all_eq_true.mp h _ (PySem.mem_of_lookup e)
  have:(k == NameKind.cell || k == NameKind.free)=true:=by rcases hk with rfl | rfl<;>rfl
  simp only[this,Bool.not_true,Bool.false_or] at m
  exact Option.isSome_iff_exists.mp m
 rcases hx with e | e
 ·exact key _ (.inl rfl) e
 ·exact key _ (.inr rfl) e
section
variable {X:Cx} {pins:List (Addr × Obj)} {σ:St} {H:Hp} {s:Shared} {h':Heap}
theorem Inv.turnedL {t':Nat} {fp:List Addr} (I:Inv X pins σ H s) (k:∀b o,b∉fp→s.heap.get? b=some o→h'.get? b=some o) (hf:∀b∈fp,mD X pins H b):Inv X pins σ H { s with heap:=h',toks:=t' }:=by
 have nit:∀b u,H b=some u→b∉fp:=fun b u e z=>by rw[(hf b z).1] at e;cases e
 have nL:X.env.locals∉fp:=fun z=>(hf _ z).2.1 rfl
 refine I.step (g':=s.gens) (d':=s.drawn) (ch:=fp) (fun b hb=>?_) (fun b o _ _ hc e _=>k b o hc e) (fun b o _ _ hc e _=>⟨o.slots,k b o hc e⟩) (fun _ _ _ _ n=>n)
  (fun b o hc e=>⟨o,k b o hc e⟩) (fun _ _ e=>e) (fun _ _ _ e=>e) (fun b ps e=>⟨#[],by rw[e];simp⟩) (fun m hm=>?_) (fun b u e=>?_) I.bare
 ·obtain⟨f0,f1,f2,f3,f4,f5⟩:=hf b hb
  exact⟨f3,f1,f4,f5⟩
 ·obtain⟨o,es,ep,ho,r⟩:=hm
  exact⟨o,es,ep,k _ o nL ho,r⟩
 ·refine(I.hok b u e).stay (fun c v hc q=>k c v ?_ q) (fun _ q=>q) fun _ _ q=>q
  rcases hc with z | z
  ·rw[z];exact nit b u e
  ·exact nit c _ z
end
def Itz (K : PySem.W.Frag) (a b : Addr) : It :=
  ⟨fun i H => ∃ xs ys x y, SqL K H a xs ∧ SqL K H b ys ∧ xs[i]? = some x ∧ ys[i]? = some y,
   fun i H v H' => ∃ T x y, v = .ref T ∧ H T = none ∧ H' = upd H T (.tup [x, y]) ∧ ∀ xs ys, SqL K H a xs → SqL K H b ys → xs[i]? = some x ∧ ys[i]? = some y,
   fun i H => ∃ xs ys, SqL K H a xs ∧ SqL K H b ys ∧ (xs.length ≤ i ∨ ys.length ≤ i)⟩
def Wa (z TI TO i1 i2 l1 l2:Addr) (i:Nat) (h:Heap):Prop:=
 ZipApart z TI TO i1 i2 l1 l2∧IsZip h z TI TO .none∧IsPair h TI (.ref i1) (.ref i2)∧(∃a b,IsPair h TO a b)∧h.IsListIter i1 l1 i∧h.IsListIter i2 l2 i
theorem Lq {P:Program} {w:World} {K:PySem.W.Frag} {elts:List Expr} {kk:Nat} {tpos:Pos} (z TI TO i1 i2 l1 l2:Addr) :
  Iv P w K (.Tuple elts kk tpos) (Itz K l1 l2) [z,TI,TO,i1,i2] z (Wa z TI TO i1 i2 l1 l2) where
 mem:=by simp
 obj:=fun i h st b hb=>by
  obtain⟨ap,hz,hi,⟨a,c,ho⟩,⟨o1,e1,c1,d1⟩,⟨o2,e2,c2,d2⟩⟩:=st
  simp only[List.mem_cons,List.not_mem_nil,or_false] at hb
  rcases hb with rfl | rfl | rfl | rfl | rfl
  ·exact⟨_,hz,fun v q=>by cases q⟩
  ·exact⟨_,hi,fun v q=>by cases q⟩
  ·exact⟨_,ho,fun v q=>by cases q⟩
  ·exact⟨o1,e1,fun v q=>by rw[d1] at q;cases q⟩
  ·exact⟨o2,e2,fun v q=>by rw[d2] at q;cases q⟩
 keep:=fun i h h' st k=>by
  obtain⟨ap,hz,hi,⟨a,c,ho⟩,⟨o1,e1,c1,d1⟩,⟨o2,e2,c2,d2⟩⟩:=st
  exact⟨ap,k _ (by simp) _ hz,k _ (by simp) _ hi,⟨a,c,k _ (by simp) _ ho⟩,⟨o1,k _ (by simp) _ e1,c1,d1⟩,⟨o2,k _ (by simp) _ e2,c2,d2⟩⟩
 item:=by
  intro X hP hw hK hc i pins s σ H E I hf st hg
  subst hP hw hK
  obtain⟨ap,hz,hi,⟨a,c,ho⟩,t1,t2⟩:=st
  obtain⟨xs,ys,x,y,hx,hy,ex,ey⟩:=hg
  obtain⟨its1,rv1,p1,z1⟩:=I.list hx
  obtain⟨its2,rv2,p2,z2⟩:=I.list hy
  obtain⟨u1,hu1,ru1⟩:=rv1.get ex
  obtain⟨u2,hu2,ru2⟩:=rv2.get ey
  refine wpAny_pyNext_zip_item ap hz hi ho t1 t2 p1.isList p2.isList (x:=u1) (y:=u2) (by simpa using hu1) (by simpa using hu2) fun h' g1 g2 g3 g4 g5 g6 kk'=>?_
  have hn:H s.heap.objs.size=none:=I.hok.fresh (Nat.le_refl _)
  have lt:∀b∈[z,TI,TO,i1,i2],b < s.heap.objs.size:=fun b hb=>by
   simp only[List.mem_cons,List.not_mem_nil,or_false] at hb
   obtain⟨o1,e1,_⟩:=t1
   obtain⟨o2,e2,_⟩:=t2
   rcases hb with rfl | rfl | rfl | rfl | rfl
   ·exact Heap.lt_size hz
   ·exact Heap.lt_size hi
   ·exact Heap.lt_size ho
   ·exact Heap.lt_size e1
   ·exact Heap.lt_size e2
  have I1:Inv X pins σ (upd H s.heap.objs.size (.tup [x,y])) { s with heap:=s.heap.push { cls:=.type "tuple",data:=.seq #[u1,u2] } }:=
   I.laid (t':=s.toks) (fun b o e=>Heap.get?_push_of_some _ e) (Nat.le_refl _) (show dI X.prog X.w _ _ _ (.tup [x,y]) from ⟨by show 2≤sizeLine;decide,[u1,u2],.cons ru1 (.cons ru2 .nil),IsTup.new _ _⟩)
  have hf1:∀b∈[z,TI,TO,i1,i2],mD X pins (upd H s.heap.objs.size (.tup [x,y])) b:=fun b hb=>⟨by rw[aW (Nat.ne_of_lt (lt b hb))];exact(hf b hb).1,(hf b hb).2⟩
  have k1:∀b o,b∉[z,TI,TO,i1,i2]→(s.heap.push { cls:=.type "tuple",data:=.seq #[u1,u2] }).get? b=some o→h'.get? b=some o:=fun b o nb e=>by
   simp only[List.mem_cons,List.not_mem_nil,or_false,not_or] at nb
   by_cases hb:b=s.heap.objs.size
   ·subst hb
    rw[Heap.get?_push_size _ rfl] at e
    cases e
    exact g5
   ·have e0:s.heap.get? b=some o:=by rw[Heap.get?_push_ne _ _ _ hb] at e;exact e
    exact kk' b o nb.1 nb.2.2.1 nb.2.2.2.1 nb.2.2.2.2 e0
  have I2:Inv X pins σ (upd H s.heap.objs.size (.tup [x,y])) { s with heap:=h',toks:=s.toks }:=I1.turnedL (t':=s.toks) k1 hf1
  refine⟨_,rfl,wpAny_letOwnedTupleGo_zip (s:={ s with heap:=h' }) g1 fun h2 q1 q2=>?_⟩
  have kz:∀b o,b≠z→h'.get? b=some o→h2.get? b=some o:=fun b o nb e=>(q2.2 b nb).trans e
  have I3:Inv X pins σ (upd H s.heap.objs.size (.tup [x,y])) { s with heap:=h2,toks:=s.toks }:=Inv.turnedL (s:={ s with heap:=h',toks:=s.toks }) (t':=s.toks) (fp:=[z]) I2 (fun b o nb e=>kz b o (by simpa using nb) e) fun b hb=>hf1 b (by simp at hb;simp[hb])
  have hTI:h'.get? TI=some { cls:=.type "tuple",data:=.seq #[.ref i1,.ref i2] }:=kk' TI _ ap.TIz ap.TITO ap.TIi1 ap.TIi2 hi
  obtain⟨o3,e3,c3,d3⟩:=g3
  obtain⟨o4,e4,c4,d4⟩:=g4
  refine⟨.ref s.heap.objs.size,_,I3,rfl,⟨_,x,y,rfl,hn,rfl,fun xs' ys' h1 h2=>?_⟩,⟨ap,q1,kz _ _ ap.TIz hTI,⟨_,_,kz _ _ ap.TOz g2⟩,⟨o3,kz _ _ ap.i1z e3,c3,d3⟩,⟨o4,kz _ _ ap.i2z e4,c4,d4⟩⟩,fun b hb=>(hf1 b hb).1⟩
  rw[I.list_inj h1 hx,I.list_inj h2 hy]
  exact⟨ex,ey⟩
 done:=by
  intro X hP hw hK hc i pins s σ H E I hf st hg
  subst hP hw hK
  obtain⟨ap,hz,hi,⟨a,c,ho⟩,t1,t2⟩:=st
  obtain⟨xs,ys,hx,hy,hor⟩:=hg
  obtain⟨its1,rv1,p1,z1⟩:=I.list hx
  obtain⟨its2,rv2,p2,z2⟩:=I.list hy
  have l1':=rv1.length
  have l2':=rv2.length
  refine wpAny_pyNext_zip_end (I.ok.hd hc) ap hz hi ho t1 t2 p1.isList p2.isList (by rcases hor with h | h;left;simp;omega;right;simp;omega) fun h' kk'=>⟨rfl,?_⟩
  refine I.turnedL (t':=s.toks) (fun b o nb e=>?_) hf
  simp only[List.mem_cons,List.not_mem_nil,or_false,not_or] at nb
  exact kk' b o nb.1 nb.2.2.1 nb.2.2.2.1 nb.2.2.2.2 e
 self:=fun A i s Q E st h=>by
  obtain⟨ap,hz,hi,⟨a,c,ho⟩,t1,t2⟩:=st
  exact wpAny_pyIter_zip hz h
section
variable {X:Cx}
def Zl (K:PySem.W.Frag) (ta:TA):TI:=fun σ H R=>ta σ H fun vs H1=>∃a b,vs=[.ref a,.ref b]∧(∃xs,SqL K H1 a xs)∧(∃ys,SqL K H1 b ys)∧R (Itz K a b) H1
theorem Li {e1 e2:Expr} {ta:TA} {p pos:Pos} {elts:List Expr} {kk:Nat} {tpos:Pos} (hg:Gl X "zip") (hm:X.mg "zip"=none) (hv:bootBuiltins "zip"=some (.type "zip")) (ha:PA X [e1,e2] ta)
  (hs:starEach [e1,e2] X.env=(false,eval e1 X.env) :: starEach [e2] X.env:=by rfl) (hpl:(backTo pos (starEach [e2] X.env)).any (·.1)=false:=by rfl):PI X (.Tuple elts kk tpos) (.Call (.Name "zip" p) [e1,e2] [] pos) (Zl X.K ta):=by
 intro pins s σ H R I h
 refine Call_ (jH I hg hm hv (PyProof.Rows.callWith_type1 (thn (ha pos pins s σ H _ I h) fun us s1 ⟨vs,H1,I1,r1,q1⟩=>?_) hs hpl))
 obtain⟨a,b,rfl,⟨xs,hx⟩,⟨ys,hy⟩,q⟩:=q1
 obtain⟨u,w',rfl,ra,rb⟩:=Kp r1
 cases (show u=Value.ref a from ra)
 cases (show w'=Value.ref b from rb)
 obtain⟨its1,rv1,p1,z1⟩:=I1.list hx
 obtain⟨its2,rv2,p2,z2⟩:=I1.list hy
 have la:a < s1.heap.objs.size:=by obtain⟨o,e,_⟩:=p1.isList;exact Heap.lt_size e
 have lb:b < s1.heap.objs.size:=by obtain⟨o,e,_⟩:=p2.isList;exact Heap.lt_size e
 refine call_zip_2 p1.isList p2.isList fun h' g1 g2 g3 g4 g5 g6 kk'=>?_
 refine wpAny_pyIter_zip g1 ?_
 have ne:∀i j:Nat,i≠j→s1.heap.objs.size+i≠s1.heap.objs.size+j:=fun i j n e=>n (Nat.add_left_cancel e)
 have nl:∀(c:Addr) (i:Nat),c < s1.heap.objs.size→c≠s1.heap.objs.size+i:=fun c i l e=>absurd (Nat.lt_of_lt_of_le l (Nat.le_add_right _ i)) (by rw[← e];exact Nat.lt_irrefl _)
 have n0:∀j:Nat,j≠0→s1.heap.objs.size+j≠s1.heap.objs.size:=fun j n e=>n (Nat.add_left_cancel (e.trans (Nat.add_zero _).symm))
 refine⟨s1.heap.objs.size+4,[s1.heap.objs.size+4,s1.heap.objs.size+2,s1.heap.objs.size+3,s1.heap.objs.size,s1.heap.objs.size+1],_,Itz X.K a b,H1,rfl,I1.kept (t':=s1.toks) kk',Lq _ _ _ _ _ a b,⟨?_,g1,g2,⟨_,_,g3⟩,g4,g5⟩,fun c hc=>?_,q⟩
 ·exact⟨ne 2 4 (by decide),ne 3 4 (by decide),(n0 4 (by decide)).symm,ne 1 4 (by decide),ne 2 3 (by decide),n0 2 (by decide),ne 2 1 (by decide),n0 3 (by decide),ne 3 1 (by decide),(n0 1 (by decide)).symm,
   nl a 4 la,nl a 3 la,Nat.ne_of_lt la,nl a 1 la,nl b 4 lb,nl b 3 lb,Nat.ne_of_lt lb,nl b 1 lb⟩
 ·have hle:s1.heap.objs.size≤c:=by
   simp only[List.mem_cons,List.not_mem_nil,or_false] at hc
   rcases hc with rfl | rfl | rfl | rfl | rfl<;>first | exact Nat.le_add_right _ _ | exact Nat.le_refl _
  exact I1.fpOk hle (I1.hok.fresh hle)
theorem zY {K:PySem.W.Frag} {a b:Addr} {xs ys:List V} {nl:Nat} {fr:List Nat} {g:TG} {tt:TT} {te:TE} {σ:St} {D:Addr} {H1:Hp} {Q:VK} (Pv:Nat→List V→Hp→Prop) (h0:Pv 0 [] (upd H1 D (.lst []))) (hl:∀i zs H,Pv i zs H→H D=some (.lst zs)) (hx:∀i zs H,i≤min xs.length ys.length→Pv i zs H→SqL K H a xs∧SqL K H b ys)
  (hs:∀i zs x y H T,xs[i]?=some x→ys[i]?=some y→Pv i zs H→H T=none→∀(C:Nat→List V→Hp→Prop),(∀zs H,Pv (i+1) zs H→C (i+1) zs H)→Dx nl fr g tt te σ D C i zs (.ref T) (upd H T (.tup [x,y]))) (hd:∀zs H,Pv (min xs.length ys.length) zs H→Q (.ref D) H) :
  yY (Itz K a b) nl fr g tt te σ D H1 Q:=by
 refine⟨fun i m zs H=>m=min xs.length ys.length - i∧i≤min xs.length ys.length∧Pv i zs H,⟨_,rfl,Nat.zero_le _,h0⟩,?_⟩
 rintro i m zs H ⟨rfl,hi,p⟩
 refine⟨hl i zs H p,?_⟩
 obtain⟨qx,qy⟩:=hx i zs H hi p
 by_cases hlt:i < min xs.length ys.length
 ·have hx':i < xs.length:=by omega
  have hy':i < ys.length:=by omega
  refine .inr ⟨⟨xs,ys,xs[i],ys[i],qx,qy,by simp[hx'],by simp[hy']⟩,fun v H' z=>?_⟩
  obtain⟨T,x,y,rfl,hT,rfl,hh⟩:=z
  obtain⟨ex,ey⟩:=hh xs ys qx qy
  exact hs i zs x y H T ex ey p hT (fun j zs Hz=>∃m',m' < min xs.length ys.length - i∧m'=min xs.length ys.length - j∧j≤min xs.length ys.length∧Pv j zs Hz) fun zs Hz z=>⟨min xs.length ys.length - (i+1),by omega,rfl,hlt,z⟩
 ·have e:i=min xs.length ys.length:=by omega
  subst e
  exact .inl ⟨⟨xs,ys,qx,qy,by omega⟩,hd zs H p⟩
def Qx:V→List V→Hp→VK→Prop:=fun x vs H Q=>∃(l:Addr) (xs:List V) (k:Nat) (i:Int) (y:V),x=.ref l∧vs=[.int i,y]∧i=(k:Int)∧k≤xs.length∧H l=some (.lst xs)∧xs.length < sizeLine∧Q .non (upd H l (.lst (xs.take k++y :: xs.drop k)))
theorem Hy:MtM X "list.insert" Qx:=by
 intro pins s σ H x vs v us Q I rx rv h
 obtain⟨l,xs,k,i,y,rfl,rfl,hik,hk,hH,hz,q⟩:=h
 cases rx
 obtain⟨u1,u2,rfl,⟨t,rfl⟩,ru⟩:=Kp rv
 obtain⟨z,its,n,r,hl,e⟩:=I.lstM hH
 have hs:sizeLine=16777216:=sizeLine_eq
 have hfit:¬(!Builtin.List.listFitsIndex i)=true:=by
  rw[fitsIndex_both (by omega) (by omega)]
  exact Bool.false_ne_true
 have hM:=AutoSeq1.list_insert_list_int_val_1 l its.toArray n i t u2 hfit (by rw[List.size_toArray];omega)
 refine call_meets F.slot_list_insert ⟨_,e,rfl⟩ F.entry_list_insert (F.args_list_insert_3 (Value.ref l) (Value.int i t) u2) hM ⟨e,?_⟩
 refine⟨.non,_,I.lset (its':=its.take k++u2 :: its.drop k) hH e ?_ ((r.take k).append (.cons ru (r.drop k))) ?_,rfl,q⟩
 ·have ek:(if i < 0 then (i+(its.toArray.size:Int)).toNat else min i.toNat its.toArray.size)=k:=by
   rw[if_neg (by omega),List.size_toArray]
   omega
  show (its.toArray.extract 0 (if i < 0 then (i+(its.toArray.size:Int)).toNat else min i.toNat its.toArray.size)).push u2++its.toArray.extract (if i < 0 then (i+(its.toArray.size:Int)).toNat else min i.toNat its.toArray.size)=_
  rw[ek]
  apply Array.ext'
  simp[List.take_of_length_le]
 ·rw[List.length_append,List.length_cons,List.length_take,List.length_drop]
  omega
end
end L2
set_option maxHeartbeats 1000000
namespace L2
open PySem PySem.Spec PyProof.Rows
abbrev Zo:List Value:=[.type "ValueError",.type "Exception",.type "BaseException",.type "object"]
abbrev TEX:=St→Hp→VK→XK→Prop
abbrev TSX:=mC→(St→XK)→St→Hp→Prop
abbrev Cx.sup (X:Cx) (a:Addr):Cx:={ X with A:=X.A.mark (some (.ref a)),calm:=false,xe:=fun _ _=>False }
abbrev TH:=Addr→Value→Option Addr→mC→St→Hp→Prop
end L2
namespace Mq
theorem jE {p q:Q2} (hp:1≤p.2) (hq:1≤q.2):Low (minus p q):=gU (kJ hp hq)
theorem rC {p q:Q2} (hp:1≤p.2) (hq:q.1≠0):p.2*q.1≠0:=Int.mul_ne_zero (by omega) hq
theorem Ku {p q:Q2} (hp:1≤p.2) (hq:q.1≠0):Low (pC p q):=gU (rC hp hq)
theorem zW {n m:Nat} {p q:Q2} (h:Bd n p) (g:Bd m q) (hp:1≤p.2) (hq:1≤q.2):Bd (n+m+1) (minus p q):=by
 have k:=kD (t:=p.1*q.2 - q.1*p.2) (kJ hp hq)
 have a2:B (n+m) (q.1*p.2):=by rw[Nat.add_comm];exact g.a.mul h.b
 exact⟨((h.a.mul g.b).sub a2).le k.1,((h.b.mul g.b).mono (Nat.le_succ _)).le k.2⟩
theorem Ps {n m:Nat} {p q:Q2} (h:Bd n p) (g:Bd m q) (hp:1≤p.2) (hq:q.1≠0):Bd (n+m) (pC p q):=by
 have k:=kD (t:=p.1*q.2) (rC hp hq)
 exact⟨(h.a.mul g.b).le k.1,(h.b.mul g.a).le k.2⟩
end Mq
namespace L2
open PySem PySem.Spec PyProof.Rows
def Fx (K:PySem.W.Frag):Sp:=fun vs H Q _=>∃(a b:Addr) (p q:Mq.Q2) (n m:Nat),vs=[.ref a,.ref b]∧Fq K H a p∧Fq K H b q∧Mq.Bd n p∧Mq.Bd m q∧n+m+1≤9000∧Q (.bl (decide (p.1*q.2 < q.1*p.2))) H
end L2
set_option maxHeartbeats 2000000
namespace L2
open PySem PySem.Spec PyProof.Rows
inductive TyQ (K:PySem.W.Frag) (H:Hp):V→Value→Prop where
 |of {x:V} {t:Value} (h:mE K H x t):TyQ K H x t
 |tup {a:Addr} {xs:List V} (h:SqT K H a xs):TyQ K H (.ref a) (.type "tuple")
 |lst {a:Addr} {xs:List V} (h:SqL K H a xs):TyQ K H (.ref a) (.type "list")
section
variable {X:Cx} {pins:List (Addr × Obj)} {σ:St} {H:Hp} {s:Shared} {A:Around} {E:Value→Shared→Prop} {Q:Value→Shared→Prop} {c:Value} {b:Bool}
theorem Cc {x:V} {u t:Value} (I:Inv X pins σ H s) (rx:cF x u) (ty:TyQ X.K H x t) (e:PySem.W.kitOne X.K t c=some b) (h:∀tk,Q (.bool b) { s with toks:=tk }) :
  wpAny (model X.prog X.w) A (call (.builtin "isinstance") [u,c]) Q E s:=by
 cases ty with
 |of ty=>exact Il I rx ty e h
 | @tup a xs ht=>
  cases (show u=Value.ref a from rx)
  obtain⟨its,_,p,_⟩:=I.tuple ht
  obtain⟨o,h1,h2,_⟩:=p
  exact PySem.W.kia_one PySem.W.kitx_tuple I.kIn ⟨o,h1,h2⟩ e (fun z=>nomatch z) h
 | @lst a xs ht=>
  cases (show u=Value.ref a from rx)
  obtain⟨its,_,p,_⟩:=I.list ht
  obtain⟨o,h1,h2,_⟩:=p.isList
  exact PySem.W.kia_one PySem.W.kitx_list I.kIn ⟨_,h1,h2⟩ e (fun z=>nomatch z) h
end
section
variable {X:Cx}
theorem Hj:rY X (.builtin "isinstance") (fun xs H Q=>∃x n t b,xs=[x,.ty n]∧TyQ X.K H x t∧PySem.W.kitOne X.K t (.type n)=some b∧Q (.bl b) H):=by
 intro pins s σ H vs us Q I rv h
 obtain⟨x,n,t,b,rfl,ty,e,q⟩:=h
 obtain⟨u,u2,rfl,r1,r2⟩:=Kp rv
 cases (show u2=Value.type n from r2)
 exact Cc I r1 ty e fun tk=>⟨.bl b,H,I.tok tk,rfl,q⟩
theorem hZ {i:Nat} {x T:Str} {T':String} {p1 p2 p3 pos:Pos} (hN:X.N[i]?=some x) (hv:Vis X.env.scope x) (b:X.mg "isinstance"=none) (b2:X.mg T=none) (g1:Gl X "isinstance") (g2:Gl X T) (hT:bootBuiltins T=some (.type T'))
  (hd:(x == ("__debug__":Str))=false:=by decide) (hcd:(x == ("__classdict__":Str))=false:=by decide) (hTn:T≠"__name__":=by decide) (hTd:(T == ("__debug__":Str))=false:=by decide)
  (he:starEach [.Name x p2,.Name T p3] X.env=(false,eval (.Name x p2) X.env) :: starEach [.Name T p3] X.env:=by rfl)
  (he2:starEach [.Name T p3] X.env=(false,eval (.Name T p3) X.env) :: starEach [] X.env:=by rfl) (hpl:(backTo pos (starEach [.Name T p3] X.env)).any (·.1)=false:=by rfl) :
  PE X (.Call (.Name "isinstance" p1) [.Name x p2,.Name T p3] [] pos) (fun σ H Q=>∃v t b,σ[i]?=some (some v)∧TyQ X.K H v t∧PySem.W.kitOne X.K t (.type T')=some b∧Q (.bl b) H):=by
 have h:=cK (X:=X) (pos:=pos) (p:=p1) Hj g1 b PyProof.Rows.boot_isinstance (aA (Ko (i:=i) (pos:=p2) hN hv hd hcd) (aA (Pq (v:=.ty T') (pos:=p3) g2 b2 hT rfl hTn hTd) aE he2) he) (by decide) (by decide) he hpl
 intro pins s σ H Q I q
 obtain⟨v,t,bb,h1,h2,h3,h4⟩:=q
 exact h pins s σ H Q I ⟨v,h1,v,T',t,bb,rfl,h2,h3,h4⟩
end
theorem SqT.upd {K:PySem.W.Frag} {H:Hp} {a l:Addr} {xs ys:List V} {o:HO} (h:SqT K H a xs) (hl:H l=some (.lst ys)):SqT K (L2.upd H l o) a xs:=by
 rcases h with (h | ⟨u,h⟩) | h
 ·exact .inl (.inl (by rw[aW (fY h hl (fun z=>by cases z))];exact h))
 ·exact .inl (.inr ⟨u,by rw[aW (fY h hl (fun z=>by cases z))];exact h⟩)
 ·exact .inr h
theorem zJ {K:PySem.W.Frag} {H:Hp}:∀ns:List Int,tT K H (ns.map V.int) (ns.map PyData.int)
 | []=>.nil
 |n :: r=>.cons (.int n) (zJ r)
theorem Ba:∀ns:List Int,PyData.canLayAll0 (ns.map PyData.int)=true
 | []=>rfl
 |n :: r=>by
  show ((PyData.int n).canLay0 && PyData.canLayAll0 (r.map PyData.int))=true
  rw[Ba r];rfl
theorem Ac (ns:List Int) (lo hi:Option Int):∃ms:List Int,kB (ns.map V.int) lo hi=ms.map V.int∧ms.length≤ns.length:=by
 refine⟨(ns.drop (HT.sIx (ns.map V.int).length 0 lo)).take (HT.sIx (ns.map V.int).length (ns.map V.int).length hi - HT.sIx (ns.map V.int).length 0 lo),?_,?_⟩
 ·unfold kB;rw[List.map_take,List.map_drop]
 ·rw[List.length_take,List.length_drop];omega
theorem Kv {K:PySem.W.Frag} {H:Hp} {a b:Addr} {ns:List Int} {neg:Bool} {Q:VK} (h1:SqL K H a (ns.map V.int)) (h2:SqL K H b []) (z:Q (.bl (if neg then !ns.isEmpty else ns.isEmpty)) H):Hf K neg (.ref a) (.ref b) H Q:=by
 refine⟨_,_,.lst h1 (zJ ns),.lst h2 .nil,Ba ns,rfl,?_,?_⟩
 ·have:(PyData.list []).depth≤1:=by decide
  omega
 ·cases ns<;>exact z
theorem qK {fr:List Nat} {σ:St} {x y:V}:(((σC 2 fr σ).set 0 (some x)).set 1 (some y)).length=(σC 2 fr σ).length∧∀(i:Nat) v,(σC 2 fr σ)[i]?=some (some v)→(((σC 2 fr σ).set 0 (some x)).set 1 (some y))[i]?=some (some v):=by
 refine⟨by simp,fun i v h=>?_⟩
 match i with
 |0=>unfold σC at h;simp at h
 |1=>unfold σC at h;simp at h
 |k+2=>rw[List.getElem?_set_ne (by omega),List.getElem?_set_ne (by omega)];exact h
theorem Fqs.set {K:PySem.W.Frag} {H:Hp} {a:Addr} {p:Mq.Q2} (h:Fq K H a p):∀{xs:List V} {ps:List Mq.Q2} (i:Nat),Fqs K H xs ps→Fqs K H (xs.set i (.ref a)) (ps.set i p)
 |_,_,_,.nil=>.nil
 |_,_,0,.cons _ q=>.cons h q
 |_,_,i+1,.cons g q=>.cons g (Fqs.set h i q)
theorem Fqs.at {K:PySem.W.Frag} {H:Hp}:∀{xs:List V} {ps:List Mq.Q2} {i:Nat} {p:Mq.Q2},Fqs K H xs ps→ps[i]?=some p→∃a,xs[i]?=some (.ref a)∧Fq K H a p
 |_,_,_,_,.nil,h=>by simp at h
 |_,_,0,_,.cons h _,e=>by simp at e;subst e;exact⟨_,rfl,h⟩
 |_,_,i+1,_,.cons _ q,e=>by simpa using Fqs.at q (by simpa using e)
theorem mB {n:Nat} {i:Int} (lo:-(2 ^ n:Int) < i) (hi:i < 2 ^ n):Mq.B n i:=by
 unfold Mq.B
 have e:((2 ^ n:Nat):Int)=2 ^ n:=by simp
 omega
theorem wY (X:Cx):∀l:List (Int × _ × Pos),PA X (l.map fun q=>Expr.Constant (.int q.1) q.2.1 q.2.2) (fun _ H Q=>Q (l.map fun q=>V.int q.1) H)
 | []=>aE
 |q :: l=>aA (te:=tC (.int q.1)) aF (wY X l) rfl
theorem lD {n k:Nat} (h:k < n):ixN n (k:Int)=some k:=by
 unfold ixN
 rw[if_pos (by omega),if_pos (by omega)]
 simp
section
variable {X:Cx} {tg:Expr}
def Yq (K:PySem.W.Frag):List V→Hp→VK→Prop:=fun xs H Q=>∃(p:Addr) (bs:List Bool),xs=[.ref p]∧SqL K H p (bs.map V.bl)∧Q (.bl (bs.all id)) H
theorem La (hc:X.calm=true):rY X (.builtin "all") (Yq X.K):=by
 intro pins s σ H xs us Q I r h
 obtain⟨p,bs,rfl,hq,q⟩:=h
 obtain⟨u,rfl,rx⟩:=Aa r
 cases rx
 obtain⟨its,rv,pl,hz⟩:=I.list hq
 have hlen:its.toArray.size=bs.length:=by rw[List.size_toArray,← rv.length,List.length_map]
 have hne:p≠s.heap.objs.size:=by
  obtain⟨o,e,_⟩:=pl.isList
  exact Nat.ne_of_lt (Heap.lt_size e)
 refine call_all_walk (wpAny_pyIter_list pl.isList ?_)
 refine⟨s.heap.objs.size,_,_,_,_,_,fun i=>bs.getD i false,rfl,Walks.list (by exact I.ok.hd hc) s.heap.objs.size p hne its.toArray,⟨⟨_,Heap.get?_push_size _ rfl,rfl,rfl⟩,?_⟩,?_,?_⟩
 ·obtain⟨o,e,c⟩:=pl.isList
  exact⟨o,Heap.get?_push_of_some _ e,c⟩
 ·intro i v s' Q' E' hv q'
  have hv':its[i]?=some v:=by simpa using hv
  have hi:i < its.length:=(List.getElem?_eq_some_iff.mp hv').1
  have hb:(bs.map V.bl)[i]?=some (.bl (bs.getD i false)):=by
   rw[List.getElem?_map,List.getElem?_eq_getElem (by rw[← hlen];simpa using hi)]
   simp[List.getD,List.getElem?_eq_getElem (show i < bs.length by rw[← hlen];simpa using hi)]
  obtain⟨u,hu,ru⟩:=rv.get hb
  have e:u=v:=by rw[hv'] at hu;cases hu;rfl
  subst e
  cases ru
  exact wpAny_truthy_bool q'
 ·intro h' tk kk
  have e:(List.range its.toArray.size).all (fun i=>bs.getD i false)=bs.all id:=by
   rw[hlen,Bool.eq_iff_iff,List.all_eq_true,List.all_eq_true]
   constructor
   ·intro z b hb
    obtain⟨i,hi,rfl⟩:=List.getElem_of_mem hb
    have:=z i (List.mem_range.mpr hi)
    simpa[List.getD,List.getElem?_eq_getElem hi] using this
   ·intro z i hi
    have hi':=List.mem_range.mp hi
    have:=z bs[i] (List.getElem_mem hi')
    simpa[List.getD,List.getElem?_eq_getElem hi'] using this
  rw[e]
  refine⟨.bl _,H,I.kept (t':=tk) fun b o hb=>?_,rfl,q⟩
  have hb2:b≠s.heap.objs.size:=Nat.ne_of_lt (Heap.lt_size hb)
  exact kk b o (by simpa using hb2) (Heap.get?_push_of_some _ hb)
end
def Mu {ι:Type} (C:ι→Addr) (m:Str) (sp:ι→Sp) (dvs:List V) (E:XK) (ta:TE) (t:TA):TE:=fun σ H Q=>ta σ H fun x H1=>∃i a dx fs,x=.ref a∧H1 a=some (.ins (C i) dx fs)∧fs.lookup m=none∧
 t σ H1 fun vs H2=>sp i (x :: (vs++dvs)) H2 Q E
section
variable {X:Cx} {ι:Type} {C f:ι→Addr} {fd:ι→FuncData} {sp:ι→Sp} {m:Str} {CX:CXT} {k:Nat} {ps:List Str} {ds:List Value} {dvs:List V} {E:XK} {o e:Expr} {es:List Expr} {ta:TE} {t:TA} {apos pos:Pos}
theorem zI {pl:Sem Bool} (he:PE X o ta) (c:∀i,Cls X.K (C i)) (hm:∀i,gD X.K (C i) m (f i)) (F:∀i,aP X.prog X.w X.K X.mg X.base CX k (f i) (fd i) ps (sp i)) (hr:gG k X.A) (hb:∀i,aR X.K (fd i) ps ds) (hd:bX dvs ds) (hx:jJ CX X E) (ha:PA X (e :: es) t)
  (hst:starEach (e :: es) X.env=(false,eval e X.env) :: starEach es X.env:=by rfl) (hpl:(backTo pos (starEach es X.env)).any (·.1)=false:=by rfl)
  (ht:eval (.Call (.Attribute o m apos) (e :: es) [] pos) X.env=(do
   let ov ← eval o X.env
   standAt apos.atName
   let (f,first) ← holding [ov] (getMethod ov m pl)
   callWith pos f first (backTo pos (starEach (e :: es) X.env)) (backToKw pos (keywordEach [] X.env))):=by rfl) :
  PE X (.Call (.Attribute o m apos) (e :: es) [] pos) (Mu C m sp dvs E ta t):=by
 intro pins s σ H Q I h
 refine PySem.W.methodCall_KW (pl:=pl) (thn (he pins s σ H _ I h) fun u s1 ⟨x,H1,I1,rx,i,a,dx,fs,ex,ea,l,q⟩=>?_) ht
 subst ex
 obtain rfl:u=Value.ref a:=rx
 refine jR I1 ea (c i) (hm i) l ?_
 refine PySem.W.callWith_K (first:=[.ref a]) (h₀:=X.base) I.ok.mod.kin (hm i).kp (thn (ha pos pins s1 σ H1 _ I1 q) fun us s2 ⟨vs,H2,I2,r,q2⟩=>⟨I2.kIn,?_⟩) hst hpl
 exact sR (us:=.ref a :: us) (vs:=.ref a :: vs) (F i) hr (hb i) hd hx I2 (.cons rfl r) q2
theorem gA {pl:Sem Bool} (he:PE X o ta) (c:∀i,Cls X.K (C i)) (hm:∀i,gD X.K (C i) m (f i)) (F:∀i,aP X.prog X.w X.K X.mg X.base CX k (f i) (fd i) ps (sp i)) (hr:gG k X.A) (hb:∀i,aR X.K (fd i) ps ds) (hd:bX dvs ds) (hx:jJ CX X E)
  (ht:eval (.Call (.Attribute o m apos) [] [] pos) X.env=(do
   let ov ← eval o X.env
   standAt apos.atName
   let (f,first) ← holding [ov] (getMethod ov m pl)
   callWith pos f first (backTo pos (starEach [] X.env)) (backToKw pos (keywordEach [] X.env))):=by rfl) :
  PE X (.Call (.Attribute o m apos) [] [] pos) (Mu C m sp dvs E ta Ta):=by
 intro pins s σ H Q I h
 refine PySem.W.methodCall_KW (pl:=pl) (thn (he pins s σ H _ I h) fun u s1 ⟨x,H1,I1,rx,i,a,dx,fs,ex,ea,l,q⟩=>?_) ht
 subst ex
 obtain rfl:u=Value.ref a:=rx
 refine jR I1 ea (c i) (hm i) l ?_
 exact PySem.W.callWith_K0 (first:=[.ref a]) I1.kIn (hm i).kp (sR (us:=[.ref a]) (vs:=[.ref a]) (F i) hr (hb i) hd hx I1 (.cons rfl .nil) q)
end
inductive Kd where
 |pc | pu | ho
 deriving DecidableEq
def Kd.wd:Kd→Str
 | .pc=>"piece"
 | .pu=>"push"
 | .ho=>"hold"
def Kd.cn:Kd→Str
 | .pc=>"Piece"
 | .pu=>"Push"
 | .ho=>"Hold"
theorem Kd.wd_inj {k j:Kd} (h:k.wd=j.wd):k=j:=by
 cases k<;>cases j<;>first | rfl | exact absurd h (by decide +kernel)
theorem fsg:¬(("start":Str) = "goal"):=by decide +kernel
theorem fsz:¬(("start":Str) = "size"):=by decide +kernel
theorem fgz:¬(("goal":Str) = "size"):=by decide +kernel
def jB (s g z:V):List (Str × V):=dY "size" z (dY "goal" g (dY "start" s []))
theorem dB (s g z:V):(jB s g z).lookup ("start":Str)=some s:=by
 unfold jB
 rw[bM,if_neg fsz,bM,if_neg fsg,bM,if_pos rfl]
theorem dQ (s g z:V):(jB s g z).lookup ("goal":Str)=some g:=by
 unfold jB
 rw[bM,if_neg fgz,bM,if_pos rfl]
theorem fV (s g z:V):(jB s g z).lookup ("size":Str)=some z:=by
 unfold jB
 rw[bM,if_pos rfl]
theorem eE (s g z:V) {m:Str} (h1:¬m = "start") (h2:¬m = "goal") (h3:¬m = "size"):(jB s g z).lookup m=none:=by
 unfold jB
 rw[bM,if_neg h3,bM,if_neg h2,bM,if_neg h1]
 rfl
def Rw (CK:Kd→Addr) (H:Hp) (x:Addr) (k:Kd) (s g z:V):Prop:=∃dx,H x=some (.ins (CK k) dx (jB s g z))
theorem Rw.same {CK:Kd→Addr} {H H':Hp} {x:Addr} {k:Kd} {s g z:V} (e:bC H H') (h:Rw CK H x k s g z):Rw CK H' x k s g z:=let ⟨dx,q⟩:=h;⟨dx,e _ _ q⟩
theorem Rw.upd {CK:Kd→Addr} {H:Hp} {x l:Addr} {k:Kd} {s g z:V} {ys:List V} {o:HO} (h:Rw CK H x k s g z) (hl:H l=some (.lst ys)):Rw CK (L2.upd H l o) x k s g z:=let ⟨dx,q⟩:=h;⟨dx,by rw[aW (fY q hl (fun z=>by cases z))];exact q⟩
structure RT (K:PySem.W.Frag) (mg:Str→Option Value) (CR:Addr) (CK:Kd→Addr):Prop where
 cl:∀k,Cls K (CK k)
 nS:∀k,gE K (CK k) "start"
 nG:∀k,gE K (CK k) "goal"
 nZ:∀k,gE K (CK k) "size"
 t1:∀k,PySem.W.findIn K (.ref (CK k)) "__class__"=some (some (.builtin "object.__class__"))
 t2:PySem.W.specialIn K (.builtin "object.__class__") "__get__"=some (some (.builtin "getset_descriptor.__get__"))
 t3:PySem.W.takesIn K (.builtin "object.__class__")=some true
 t4:∀k,PySem.W.mroIn K (CK k) (.type "object")=some true
 isR:∀k,PySem.W.kitOne K (.ref (CK k)) (.ref CR)=some true
 isK:∀k j,PySem.W.kitOne K (.ref (CK k)) (.ref (CK j))=some (decide (k=j))
 mR:mg "Row"=some (.ref CR)
 mK:∀k,mg (Kd.cn k)=some (.ref (CK k))
section
variable {K:PySem.W.Frag} {mg:Str→Option Value} {CR:Addr} {CK:Kd→Addr} {H:Hp} {x:Addr} {k:Kd} {s g z:V}
theorem Rw.new {C x dx:Addr} {fs:List (Str × V)} (h1:H x=none) (h2:H dx=none) (ne:dx≠x):bC H (L2.upd (L2.upd H dx (.own x)) x (.ins C dx fs)):=fun b o e=>by
 rw[aW (aZ e h1),aW (aZ e h2)];exact e
end
def wW (CK:Kd→Addr):Sp:=fun vs H Q _=>∃(x dx:Addr) (k:Kd) (s g z:V),vs=[.ref x,s,g,z]∧H x=some (.ins (CK k) dx [])∧Q .non (upd H x (.ins (CK k) dx (jB s g z)))
def kY (k:Kd):Sp:=fun vs H Q _=>∃x,vs=[x]∧Q (.str k.wd) H
def nH (k:Kd):Sp:=fun vs H Q _=>∃x,vs=[x]∧Q (.bl (decide (k≠.pu))) H
def xL (CK:Kd→Addr):Sp:=fun vs H Q _=>∃(x:Addr) (k:Kd) (s g z:V),vs=[.ref x]∧Rw CK H x k s g z∧∀t,H t=none→Q (.ref t) (upd H t (.tup [.str k.wd,s,g,z]))
def Zh (CK:Kd→Addr) (H:Hp) (Q:VK) (k:Kd) (s g z:V):Prop:=∀x H',bC H H'→H x=none→Rw CK H' x k s g z→Q (.ref x) H'
theorem Sq {K:PySem.W.Frag} {H:Hp} {x y:V} {d:PyData} {neg:Bool} {Q:VK} (h1:mY K H x d) (h2:mY K H y d) (hl:d.canLay0=true) (hd:d.depth≤16) (z:Q (.bl (!neg)) H):Hf K neg x y H Q:=by
 refine⟨d,d,h1,h2,hl,hl,by omega,?_⟩
 have e:PyData.eqv d d=true:=PySem.SeqAt.eqv_refl _ hl
 rw[e]
 cases neg<;>exact z
def rd4 (w:Str) (i j:Int) (p:Mq.Q2):PyData:=.tuple [.str w,.int i,.int j,qd p]
theorem Pn {w:Str} (h:(PyData.str w).canLay0=true) (i j:Int) (p:Mq.Q2):(rd4 w i j p).canLay0=true:=by
 show ((PyData.str w).canLay0 && ((PyData.int i).canLay0 && ((PyData.int j).canLay0 && ((qd p).canLay0 && true))))=true
 rw[h];rfl
theorem Kd.lay (k:Kd):(PyData.str k.wd).canLay0=true:=by cases k<;>decide +kernel
theorem ifT {c:Bool} {A B:Prop} (h:c=true) (x:A):if c=true then A else B:=by rw[if_pos h];exact x
theorem ifF {c:Bool} {A B:Prop} (h:c=false) (x:B):if c=true then A else B:=by rw[if_neg (by rw[h];decide)];exact x
theorem Pb {K:PySem.W.Frag} {H:Hp} {t a:Addr} {w:Str} {i j:Int} {p:Mq.Q2} (h:SqT K H t [.str w,.int i,.int j,.ref a]) (f:Fq K H a p):mY K H (.ref t) (rd4 w i j p):=.tup h (.cons (.str _) (.cons (.int _) (.cons (.int _) (.cons f.dat .nil))))
theorem dR (k j:Kd):decide (V.str k.wd=V.str j.wd)=decide (k=j):=by
 by_cases h:k=j
 ·subst h;simp
 ·rw[decide_eq_false h]
  exact decide_eq_false fun z=>h (Kd.wd_inj (V.str.inj z))
end L2
namespace L2
theorem iK {p:Kd→Prop} (a:p .pc) (b:p .pu) (c:p .ho):∀k,p k:=fun k=>by cases k<;>assumption
theorem sU (K:PySem.W.Frag) (t:PySem.Value):PySem.W.kitOne K t t=some true:=by unfold PySem.W.kitOne;rw[if_pos (beq_self_eq_true _)]
def kd3 {α:Type} (a b c:α):Kd→α
 | .pc=>a
 | .pu=>b
 | .ho=>c
end L2
set_option maxHeartbeats 1000000
namespace Mq
def iL (ps:List Q2):Prop:=∀p∈ps,Low p
end Mq
namespace L2
open PySem PySem.Spec PyProof.Rows
section
variable {κ:Type} [DecidableEq κ]
def oF (kvs:List (κ × V)) (k:κ):Option V:=(kvs.find? fun kv=>decide (kv.1=k)).map (·.2)
def kS (kvs:List (κ × V)) (k:κ) (v:V):List (κ × V):=
 if (kvs.any fun kv=>decide (kv.1=k))=true then kvs.map (fun kv=>if kv.1=k then (kv.1,v) else kv) else kvs++[(k,v)]
theorem oQ {p:κ × V} {r:List (κ × V)} {k:κ} (e:p.1=k):oF (p :: r) k=some p.2:=by simp[oF,List.find?_cons,e]
theorem kF {p:κ × V} {r:List (κ × V)} {k:κ} (e:¬p.1=k):oF (p :: r) k=oF r k:=by simp[oF,List.find?_cons,e]
theorem zT (k:κ):∀kvs:List (κ × V),(kvs.any fun kv=>decide (kv.1=k))=(oF kvs k).isSome
 | []=>rfl
 |p :: r=>by
  rw[List.any_cons]
  by_cases e:p.1=k
  ·simp only[oQ e,decide_eq_true e,Bool.true_or,Option.isSome_some]
  ·rw[kF e,decide_eq_false e,Bool.false_or];exact zT k r
theorem kZ (kvs:List (κ × V)) (k:κ) (v:V):(kS kvs k v).length≤kvs.length+1:=by
 unfold kS
 split
 ·rw[List.length_map];omega
 ·rw[List.length_append,List.length_cons,List.length_nil];omega
theorem jZ.isSome_eq {o:Option V} {u:Option Value} (r:jZ o u):o.isSome=u.isSome:=by
 cases o with
 |none=>cases u with
  |none=>rfl
  |some _=>exact(show False from r).elim
 |some _=>cases u with
  |none=>exact(show False from r).elim
  |some _=>rfl
theorem jZ.getD {o:Option V} {u:Option Value} {d:V} {d':Value} (r:jZ o u) (rd:cF d d'):cF (o.getD d) (u.getD d'):=by
 cases o with
 |none=>cases u with
  |none=>exact rd
  |some _=>exact(show False from r).elim
 |some _=>cases u with
  |none=>exact(show False from r).elim
  |some _=>exact r
theorem KV.val {kvs:List (κ × V)} {vs:List (κ × Value)} (r:KV kvs vs) (k:κ):jZ (oF kvs k) (valueAt vs k):=by
 unfold KV at r
 induction r with
 |nil=>exact True.intro
 | @cons p q ps qs h t ih=>
  obtain⟨h1,h2⟩:=h
  by_cases e:p.1=k
  ·have e':q.1=k:=h1.symm.trans e
   have b:valueAt (q :: qs) k=some q.2:=by simp[valueAt,List.find?_cons,e']
   rw[oQ e,b];exact h2
  ·have e':¬q.1=k:=fun z=>e (h1.trans z)
   have b:valueAt (q :: qs) k=valueAt qs k:=by simp[valueAt,List.find?_cons,e']
   rw[kF e,b];exact ih
theorem KV.any {kvs:List (κ × V)} {vs:List (κ × Value)} (r:KV kvs vs) (k:κ):(kvs.any fun kv=>decide (kv.1=k))=vs.any fun kv=>decide (kv.1=k):=by
 unfold KV at r
 induction r with
 |nil=>rfl
 |cons h t ih=>rw[List.any_cons,List.any_cons,ih,h.1]
theorem KV.repl {kvs:List (κ × V)} {vs:List (κ × Value)} (r:KV kvs vs) (k:κ) {y:V} {u:Value} (ry:cF y u) :
  KV (kvs.map fun kv=>if kv.1=k then (kv.1,y) else kv) (vs.map fun kv=>if kv.1=k then (kv.1,u) else kv):=by
 unfold KV at r ⊢
 induction r with
 |nil=>exact .nil
 | @cons p q ps qs h t ih=>
  rw[List.map_cons,List.map_cons]
  refine .cons ?_ ih
  obtain⟨h1,h2⟩:=h
  by_cases e:p.1=k
  ·rw[if_pos e,if_pos (h1.symm.trans e)];exact⟨h1,ry⟩
  ·rw[if_neg e,if_neg (fun z=>e (h1.trans z))];exact⟨h1,h2⟩
theorem KV.put {kvs:List (κ × V)} {vs:List (κ × Value)} (r:KV kvs vs) (k:κ) {y:V} {u:Value} (ry:cF y u):KV (kS kvs k y) (stored vs k u):=by
 unfold kS stored
 rw[r.any k]
 by_cases e:(vs.any fun kv=>decide (kv.1=k))=true
 ·rw[if_pos e,if_pos e];exact r.repl k ry
 ·rw[if_neg e,if_neg e];exact Paired.snoc r ⟨rfl,ry⟩
theorem KV.length {kvs:List (κ × V)} {vs:List (κ × Value)} (r:KV kvs vs):kvs.length=vs.length:=Paired.length r
end
theorem wG {P:Program} {w:World} {k:Key} {u:Value} (r:cF (kV k) u):(dP P w).is k u=true:=by
 cases k with
 |inl i=>obtain⟨t,e⟩:=(show ∃t,u=Value.int i t from r);subst e;exact zL P w i t
 |inr x=>obtain⟨t,e⟩:=(show ∃t,u=Value.str x t from r);subst e;exact zH P w x t
theorem wN {P:Program} {w:World}:∀{ks:List Key} {us:List Value},bX (ks.map kV) us→ItemsAre (dP P w) ks us
 | [],_,r=>by rw[List.map_nil] at r;cases r;exact .nil
 |k :: ks,_,r=>by
  rw[List.map_cons] at r
  cases r with
  |cons h t=>exact .cons (wG h) (wN t)
abbrev KT (H:Hp):List (List Key × V)→List (List Key × Addr × Value)→Prop:=Paired fun p q=>p.1=q.1∧H q.2.1=some (.tup (p.1.map kV))∧cF p.2 q.2.2
theorem KT.val {H:Hp} {kvs:List (List Key × V)} {xs:List (List Key × Addr × Value)} (r:KT H kvs xs) (k:List Key):jZ (oF kvs k) ((atKey xs k).map (·.2)):=by
 induction r with
 |nil=>exact True.intro
 | @cons p q ps qs h t ih=>
  obtain⟨h1,_,h2⟩:=h
  by_cases e:p.1=k
  ·have e':q.1=k:=h1.symm.trans e
   have b:atKey (q :: qs) k=some q.2:=by simp[atKey,List.find?_cons,e']
   rw[oQ e,b];exact h2
  ·have e':¬q.1=k:=fun z=>e (h1.trans z)
   have b:atKey (q :: qs) k=atKey qs k:=by simp[atKey,List.find?_cons,e']
   rw[kF e,b];exact ih
theorem KT.repl {H:Hp} {kvs:List (List Key × V)} {xs:List (List Key × Addr × Value)} (r:KT H kvs xs) (k:List Key) {y:V} {u:Value} (ry:cF y u) :
  KT H (kvs.map fun kv=>if kv.1=k then (kv.1,y) else kv) (xs.map (putAt k u)):=by
 induction r with
 |nil=>exact .nil
 | @cons p q ps qs h t ih=>
  rw[List.map_cons,List.map_cons]
  refine .cons ?_ ih
  obtain⟨h1,h2,h3⟩:=h
  unfold putAt
  by_cases e:p.1=k
  ·rw[if_pos e,if_pos (h1.symm.trans e)];exact⟨h1,h2,ry⟩
  ·rw[if_neg e,if_neg (fun z=>e (h1.trans z))];exact⟨h1,h2,h3⟩
theorem KT.put {H:Hp} {kvs:List (List Key × V)} {xs:List (List Key × Addr × Value)} (r:KT H kvs xs) (k:List Key) {b:Addr} {y:V} {u:Value} (hb:H b=some (.tup (k.map kV))) (ry:cF y u) :
  KT H (kS kvs k y) (storedH xs k b u):=by
 have e:(kvs.any fun kv=>decide (kv.1=k))=(atKey xs k).isSome:=by
  rw[zT,(r.val k).isSome_eq,Option.isSome_map]
 unfold kS storedH
 rw[e]
 by_cases q:(atKey xs k).isSome=true
 ·rw[if_pos q,if_pos q];exact r.repl k ry
 ·rw[if_neg q,if_neg q];exact Paired.snoc r ⟨rfl,hb,ry⟩
theorem KT.keeps {H H':Hp} {kvs:List (List Key × V)} {xs:List (List Key × Addr × Value)} (r:KT H kvs xs) (ht:∀b ys,H b=some (.tup ys)→H' b=some (.tup ys)):KT H' kvs xs:=
 Paired.mapP r fun _ _ z=>⟨z.1,ht _ _ z.2.1,z.2.2⟩
section
variable {P:Program} {w:World} {H:Hp} {h:Heap} {a:Addr}
theorem Rx {u:HO} (ok:HOk P w H h) (e:Rd H a u):dI P w H h a u:=e.ok ok
theorem vL {kvs:List (Key × V)} (ok:HOk P w H h) (e:Rd H a (.dK kvs)):kvs.length≤sizeLine∧(a == sysModules)=false∧∃vs,KV kvs vs∧h.DictOf (dP P w) a vs:=
 show dI P w H h a (.dK kvs) from Rx ok e
theorem Sb {kvs:List (Key × V)} (ok:HOk P w H h) (e:H a=some (.dK kvs)):kvs.length≤sizeLine∧(a == sysModules)=false∧∃vs,KV kvs vs∧h.DictOf (dP P w) a vs:=vL ok (.inl e)
theorem rZ {ks:List Key} (ok:HOk P w H h) (e:H a=some (.tup (ks.map kV))):(tupleKind (dP P w)).is h ks a:=by
 obtain⟨_,its,r,o,h1,h2,n,h3⟩:=(show dI P w H h a (.tup (ks.map kV)) from ok a _ e)
 exact⟨o,its.toArray,n,h1,h2,h3,by simpa using wN r⟩
theorem wL {kvs:List (List Key × V)} (ok:HOk P w H h) (e:Rd H a (.dT kvs)):kvs.length≤sizeLine∧(a == sysModules)=false∧
  ∃xs,KT H kvs xs∧h.DictOfH (tupleKind (dP P w)) a xs:=by
 obtain⟨z,y,xs,r,o,es,ep,h1,h2,h3,h4,h5⟩:=(show dI P w H h a (.dT kvs) from Rx ok e)
 refine⟨z,y,xs,r,o,es,ep,h1,h2,h3,h4,fun x hx=>?_,h5⟩
 have all:∀{l:List (List Key × V)} {m:List (List Key × Addr × Value)},KT H l m→∀x∈m,(tupleKind (dP P w)).is h x.1 x.2.1:=by
  intro l m q
  induction q with
  |nil=>intro x hx;exact nomatch hx
  | @cons p q ps qs hq t ih=>
   intro x hx
   rcases List.mem_cons.mp hx with e | hx
   ·subst e
    exact rZ ok (by rw[← hq.1];exact hq.2.1)
   ·exact ih x hx
 exact all r x hx
theorem Wj {kvs:List (List Key × V)} (ok:HOk P w H h) (e:H a=some (.dT kvs)):kvs.length≤sizeLine∧(a == sysModules)=false∧
  ∃xs,KT H kvs xs∧h.DictOfH (tupleKind (dP P w)) a xs:=wL ok (.inl e)
end
def jC (H:Hp) (a:Addr) (y:V) (r:Option V):Prop:=
 (∃kvs k,Rd H a (.dK kvs)∧y=kV k∧r=oF kvs k)∨∃kvs k b,Rd H a (.dT kvs)∧y=.ref b∧H b=some (.tup (k.map kV))∧r=oF kvs k
def Kx (H:Hp) (a:Addr) (y v:V) (H':Hp):Prop:=
 (∃kvs k,H a=some (.dK kvs)∧y=kV k∧kvs.length < sizeLine∧H'=upd H a (.dK (kS kvs k v)))∨
 ∃kvs k b,H a=some (.dT kvs)∧y=.ref b∧H b=some (.tup (k.map kV))∧kvs.length < sizeLine∧H'=upd H a (.dT (kS kvs k v))
theorem jC.k {H:Hp} {a:Addr} {kvs:List (Key × V)} {k:Key} (e:H a=some (.dK kvs)):jC H a (kV k) (oF kvs k):=.inl ⟨kvs,k,.inl e,rfl,rfl⟩
theorem Kx.k {H:Hp} {a:Addr} {kvs:List (Key × V)} {k:Key} {v:V} (e:H a=some (.dK kvs)) (hl:kvs.length < sizeLine):Kx H a (kV k) v (upd H a (.dK (kS kvs k v))):=.inl ⟨kvs,k,e,rfl,hl,rfl⟩
section
variable {X:Cx} {pins:List (Addr × Obj)} {σ:St} {H:Hp} {s:Shared} {a:Addr} {y v:V} {u r:Value} {o:Option V} {A:Around} {E:Value→Shared→Prop}
theorem Inv.big (I:Inv X pins σ H s):sysModules < s.heap.objs.size:=by
 have h:mainGlobals < s.heap.objs.size:=(I.mod.glob.keeps I.bk).lt
 exact Nat.lt_trans (by decide) h
theorem Ie {Q:Value→Shared→Prop} (hu:A.units+1 < cLine) (I:Inv X pins σ H s) (g:jC H a y (some v)) (ry:cF y u) (h:∀w' s',Inv X pins σ H s'→cF v w'→Q w' s') :
  wpAny (model X.prog X.w) A (getItem (.ref a) u) Q E s:=by
 rcases g with ⟨kvs,k,e,ey,l⟩ | ⟨kvs,k,b,e,ey,eb,l⟩
 ·subst ey
  obtain⟨z,hd,vs,rel,dd⟩:=vL I.hok e
  obtain⟨w',hw,rw'⟩:=jZ.some_of (v:=v) (o:=valueAt vs k) (by rw[l];exact rel.val k)
  exact wpAny_getItem_of (wG ry) dd.mapOf hw (h w' _ (I.tok _) rw')
 ·subst ey
  cases (show u=Value.ref b from ry)
  obtain⟨z,hd,xs,rel,dd⟩:=wL I.hok e
  obtain⟨w',hw,rw'⟩:=jZ.some_of (v:=v) (o:=(atKey xs k).map (·.2)) (by rw[l];exact rel.val k)
  obtain⟨p,hp,hp2⟩:=Option.map_eq_some_iff.mp hw
  refine wpAny_getItem_heap (tupleKind_room_in1 hu) (rZ I.hok eb) dd hp ?_
  rw[hp2]
  exact h w' _ (I.tok _) rw'
theorem Pa {Q:Value→Shared→Prop} (hu:A.units+1 < cLine) (I:Inv X pins σ H s) (g:jC H a y o) (ry:cF y u) (h:∀s',Inv X pins σ H s'→Q (.bool (!o.isSome)) s') :
  wpAny (model X.prog X.w) A (compareOp .NotIn u (.ref a)) Q E s:=by
 rcases g with ⟨kvs,k,e,ey,l⟩ | ⟨kvs,k,b,e,ey,eb,l⟩
 ·subst ey
  obtain⟨z,hd,vs,rel,dd⟩:=vL I.hok e
  refine wpAny_notIn_of (wG ry) hd dd.mapOf ?_
  rw[← (rel.val k).isSome_eq,← l]
  exact h _ (I.tok _)
 ·subst ey
  cases (show u=Value.ref b from ry)
  obtain⟨z,hd,xs,rel,dd⟩:=wL I.hok e
  refine wpAny_notIn_heap (tupleKind_room_in1 hu) (rZ I.hok eb) hd dd ?_
  have q:=(rel.val k).isSome_eq
  rw[Option.isSome_map] at q
  rw[← q,← l]
  exact h _ (I.tok _)
theorem yJ {h':Heap} {t':Nat} {ob:HO} (I:Inv X pins σ H s) (mu:Mut (H a)) (hs:Heap.SameBut a s.heap h') (he:∃q,h'.get? a=some q) (new:dI X.prog X.w (upd H a ob) h' a ob) :
  Inv X pins σ (upd H a ob) { s with heap:=h',toks:=t' }:=
 I.write (x:=a) (e:=a) mu (.inl rfl) (fun b q hb z=>(hs.2 b hb).trans z) he new
theorem Lr {P:Program} {w:World} {H':Hp} {h':Heap} {kvs:List (Key × V)} {vs:List (Key × Value)} (z:kvs.length≤sizeLine) (hd:(a == sysModules)=false) (rel:KV kvs vs) (dd:h'.DictOf (dP P w) a vs) :
  dI P w H' h' a (.dK kvs):=⟨z,hd,vs,rel,dd⟩
theorem Gn {H':Hp} {Q:Unit→Shared→Prop} (hu:A.units+1 < cLine) (I:Inv X pins σ H s) (g:Kx H a y v H') (ry:cF y u) (rv:cF v r) (h:∀s',Inv X pins σ H' s'→Q () s') :
  wpAny (model X.prog X.w) A (setItem (.ref a) u r) Q E s:=by
 rcases g with ⟨kvs,k,e,ey,l,eH⟩ | ⟨kvs,k,b,e,ey,eb,l,eH⟩
 ·subst ey eH
  obtain⟨z,hd,vs,rel,dd⟩:=Sb I.hok e
  have hz:vs.length≤sizeLine:=by rw[← rel.length];exact z
  have hl:(kS kvs k v).length≤sizeLine:=by have:=kZ kvs k v;omega
  refine wpAny_setItem_pairs (hsz:=hz) (wG ry) dd fun h' dd' hs=>h _ ?_
  have he:∃q,h'.get? a=some q:=let ⟨q,_,_,hq,_⟩:=dd';⟨q,hq⟩
  exact yJ I (by rw[e];exact True.intro) hs he (Lr hl hd (rel.put k rv) dd')
 ·subst ey eH
  cases (show u=Value.ref b from ry)
  obtain⟨z,hd,xs,rel,dd⟩:=Wj I.hok e
  have hz:xs.length≤sizeLine:=by rw[← Paired.length rel];exact z
  have hl:(kS kvs k v).length≤sizeLine:=by have:=kZ kvs k v;omega
  refine wpAny_setItem_heap (hsz:=hz) (tupleKind_room_in1 hu) (rZ I.hok eb) dd fun h' dd' hs=>h _ ?_
  obtain⟨q,es,ep,hq,h2,h3,h4,_,h5⟩:=dd'
  refine yJ I (by rw[e];exact True.intro) hs ⟨q,hq⟩ ⟨hl,hd,_,(rel.put k eb rv).keeps fun c ys ec=>?_,q,es,ep,hq,h2,h3,h4,h5⟩
  rw[aW (fY ec e (fun z=>nomatch z))]
  exact ec
end
def Xr (i:Expr):Prop:=∀ov iv,subscripted i false ov iv=operate [ov,iv] (getItem ov iv)
theorem Qn {prog:Program} {w:World} {A:Around} {E:Value→Shared→Prop} {s:Shared} {env:Env} {value slice:Expr} {pos:Pos} {T id:String} {Q:Value→Shared→Prop}
  (hl:typeLookup (.type T) "__getitem__"=pure (some (.builtin id))) (hs:Xr slice)
  (h:wpAny (model prog w) A (eval value env) (fun o s₁=>wpAny (model prog w) A (eval slice env) (fun i s₂=>s₂.TypeIs o T∧wpAny (model prog w) A (getItem o i) Q E s₂) E s₁) E s) :
  wpAny (model prog w) A (eval (.Subscript value slice pos) env) Q E s:=by
 refine Subscript_ (wpAny_mono h (fun o s₁ h₁=>wpAny_mono h₁ (fun i s₂ h₂=>?_) fun _ _ x=>x) fun _ _ x=>x)
 obtain⟨hT,h₂⟩:=h₂
 unfold subscriptTail
 refine wpAny_bind ?_
 rw[getitemInPython_of_ne hT.not_modules]
 refine wpAny_bind (wpAny_specialOf hT hl ?_)
 have fin:wpAny (model prog w) A (subscripted slice false o i) (fun r s₃=>wpAny (model prog w) A (letTemporaryGo value o r >>= fun _=>pure r) Q E s₃) E s₂:=by
  rw[hs o i]
  exact wpAny_operating (wpAny_mono h₂ (fun r s₃ h₃=>wpAny_bind (wpAny_letTemporaryGo (wpAny_pure h₃))) fun _ _ x=>x)
 first
  |exact wpAny_pure (wpAny_bind fin)
  |exact wpAny_bind (wpAny_pure (wpAny_bind fin))
  |exact wpAny_bind fin
theorem zS {X:Cx} {pins:List (Addr × Obj)} {σ:St} {H:Hp} {s:Shared} {a:Addr} {y:V} {o:Option V} (I:Inv X pins σ H s) (g:jC H a y o):s.TypeIs (.ref a) "dict":=by
 rcases g with ⟨kvs,k,e,_,_⟩ | ⟨kvs,k,b,e,_,_,_⟩
 ·obtain⟨_,_,vs,_,dd⟩:=vL I.hok e
  exact dd.typeIs
 ·obtain⟨_,_,xs,_,dd⟩:=wL I.hok e
  exact dd.typeIs
def Vu (td ty:TE):TE:=fun σ H Q=>td σ H fun x H1=>ty σ H1 fun y H2=>∃a v,x=.ref a∧jC H2 a y (some v)∧Q v H2
def Pp (ty td:TE):TE:=fun σ H Q=>ty σ H fun y H1=>td σ H1 fun x H2=>∃a o,x=.ref a∧jC H2 a y o∧Q (.bl (!o.isSome)) H2
def Wf (td ty tv:TE):TS:=fun D σ H=>tv σ H fun v H1=>td σ H1 fun x H2=>ty σ H2 fun y H3=>∃a H4,x=.ref a∧Kx H3 a y v H4∧D.nx σ H4
section
variable {X:Cx} {o i e value:Expr} {pos pos' tpos:Pos} {td ty tv:TE}
theorem rB (hu:X.A.units+1 < cLine) (ho:PE X o td) (hi:PE X i ty) (hs:Xr i):PE X (.Subscript o i pos) (Vu td ty):=by
 intro pins s σ H Q I h
 refine Qn PySem.F.slot_dict_getitem.lookup hs (thn (ho pins s σ H _ I h) fun u s1 ⟨x,H1,I1,rx,q1⟩=>thn (hi pins s1 σ H1 _ I1 q1) fun iv s2 ⟨y,H2,I2,ry,a,v,ex,g,q2⟩=>?_)
 subst ex
 obtain rfl:u=Value.ref a:=rx
 exact⟨zS I2 g,Ie hu I2 g ry fun w' s3 I3 rw'=>⟨v,H2,I3,rw',q2⟩⟩
theorem Iw (hu:X.A.units+1 < cLine) (hi:PE X i ty) (ho:PE X o td):PC X .NotIn i o (Pp ty td):=by
 intro pins s σ H Q I h
 refine thn (hi pins s σ H _ I h) fun iv s1 ⟨y,H1,I1,ry,q1⟩=>thn (ho pins s1 σ H1 _ I1 q1) fun u s2 ⟨x,H2,I2,rx,a,ov,ex,g,q2⟩=>?_
 subst ex
 obtain rfl:u=Value.ref a:=rx
 exact Pa hu I2 g ry fun s3 I3=>⟨.bl (!ov.isSome),H2,I3,rfl,q2⟩
theorem Pl (hu:X.A.units+1 < cLine) (ho:PE X o td) (hi:PE X i ty) (hv:PE X value tv) (hs:swapsWith value (some (.Subscript o i pos')) pos.line X.env=pure false) :
  PS X (.Assign [.Subscript o i pos'] value pos) (Wf td ty tv):=by
 intro pins s σ H D I h
 refine wpAny_Assign_Subscript (thn (hv pins s σ H _ I h) fun r s1 ⟨v,H1,I1,rv,q1⟩=>thn (ho pins s1 σ H1 _ I1 q1) fun u s2 ⟨x,H2,I2,rx,q2⟩=>thn (hi pins s2 σ H2 _ I2 q2) fun iv s3 ⟨y,H3,I3,ry,a,H4,ex,g,q3⟩=>?_) hs
 subst ex
 obtain rfl:u=Value.ref a:=rx
 exact Gn hu I3 g ry rv fun s4 I4=>⟨σ,H4,I4,q3⟩
end
theorem Kk {P:Program} {w:World} {H:Hp} (h:Heap) (hb:sysModules < h.objs.size):dI P w H (h.push { cls:=.type "dict",data:=.dict #[] }) h.objs.size (.dK []):=
 ⟨Nat.zero_le _,beq_eq_false_iff_ne.mpr (Ne.symm (Nat.ne_of_lt hb)),[],.nil,Heap.DictOf.new h⟩
def Bi:List (TE × TE)→St→Hp→(List (V × V)→Hp→Prop)→Prop
 | [],_,H,Q=>Q [] H
 | (tk,tv) :: r,σ,H,Q=>tk σ H fun x H1=>tv σ H1 fun y H2=>Bi r σ H2 fun ps H3=>Q ((x,y) :: ps) H3
abbrev VV:List (V × V)→List (Value × Value)→Prop:=Paired fun p q=>cF p.1 q.1∧cF p.2 q.2
def PPs (X:Cx) (pos:Pos) (keys:List (Option Expr)) (values:List Expr) (trs:List (TE × TE)):Prop:=
 ∀(pins:List (Addr × Obj)) (s:Shared) (σ:St) (H:Hp) (Q:List (V × V)→Hp→Prop),Inv X pins σ H s→Bi trs σ H Q→
  wpAny (model X.prog X.w) X.A (evalPairs (pairTrees keys values X.env pos)) (fun vs s'=>∃ps H',Inv X pins σ H' s'∧VV ps vs∧Q ps H') X.xe s
theorem Em {X:Cx} {pos:Pos}:PPs X pos [] [] []:=fun pins s σ H Q I h=>pairTrees_nil_walk ⟨[],H,I,.nil,h⟩
theorem kH {X:Cx} {pos:Pos} {k v:Expr} {ks:List (Option Expr)} {vs:List Expr} {tk tv:TE} {trs:List (TE × TE)} (hk:PE X k tk) (hv:PE X v tv) (hr:PPs X pos ks vs trs) :
  PPs X pos (some k :: ks) (v :: vs) ((tk,tv) :: trs):=fun pins s σ H Q I h=>
 pairTrees_cons_walk (thn (hk pins s σ H _ I h) fun u s1 ⟨x,H1,I1,rx,q1⟩=>thn (hv pins s1 σ H1 _ I1 q1) fun w2 s2 ⟨y,H2,I2,ry,q2⟩=>
  thn (hr pins s2 σ H2 _ I2 q2) fun ws s3 ⟨ps,H3,I3,rel,q3⟩=>⟨(x,y) :: ps,H3,I3,.cons ⟨rx,ry⟩ rel,q3⟩)
def iS (kvs more:List (Key × V)):List (Key × V):=more.foldl (fun acc kv=>kS acc kv.1 kv.2) kvs
theorem KV.merge:∀{more:List (Key × V)} {rs:List (Key × Value)} {kvs:List (Key × V)} {vs:List (Key × Value)},KV more rs→KV kvs vs→KV (iS kvs more) (merged vs rs):=by
 intro more rs kvs vs r
 unfold KV at r
 induction r generalizing kvs vs with
 |nil=>intro q;exact q
 | @cons p q ps qs h t ih=>
  intro r0
  have e:KV (kS kvs p.1 p.2) (stored vs q.1 q.2):=by
   have:=r0.put p.1 h.2
   rw[← h.1];exact this
  exact ih e
theorem mL:∀(more kvs:List (Key × V)),(iS kvs more).length≤kvs.length+more.length
 | [],kvs=>by show kvs.length≤kvs.length+0;omega
 |p :: r,kvs=>by
  have h1:=mL r (kS kvs p.1 p.2)
  have h2:=kZ kvs p.1 p.2
  show (iS (kS kvs p.1 p.2) r).length≤_
  rw[List.length_cons];omega
theorem tX {P:Program} {w:World}:∀{kvs:List (Key × V)} {ws:List (Value × Value)},VV (kvs.map fun kv=>(kV kv.1,kv.2)) ws→∃rs,Carries (dP P w) ws rs∧KV kvs rs
 | [],_,r=>by rw[List.map_nil] at r;cases r;exact⟨[],True.intro,.nil⟩
 |p :: kvs,_,r=>by
  rw[List.map_cons] at r
  cases r with
  | @cons a b as bs h t=>
   obtain⟨rs,c,q⟩:=tX (P:=P) (w:=w) t
   obtain⟨b1,b2⟩:=b
   exact⟨(p.1,b2) :: rs,⟨wG h.1,rfl,c⟩,.cons ⟨rfl,h.2⟩ q⟩
def Wt (trs:List (TE × TE)):TE:=fun σ H Q=>∀p,H p=none→Bi trs σ (upd H p (.dK [])) fun ps H2=>H2 p=some (.dK [])∧∃kvs:List (Key × V),ps=kvs.map (fun kv=>(kV kv.1,kv.2))∧kvs.length≤15∧Q (.ref p) (upd H2 p (.dK (iS [] kvs)))
theorem Es {X:Cx} {pos:Pos} {keys:List (Option Expr)} {values:List Expr} {trs:List (TE × TE)} (h:PPs X pos keys values trs) (hall:keys.all (·.isSome)=true) (hl:keys.length=values.length) (h0:keys≠[])
  (h15:keys.length≤15):PE X (.Dict keys values pos) (Wt trs):=by
 intro pins s σ H Q I q
 have hn:=I.hok.fresh (Nat.le_refl s.heap.objs.size)
 have I1:=I.laid (a:=s.heap.objs.size) (o:=.dK []) (h':=s.heap.push { cls:=.type "dict",data:=.dict #[] }) (t':=s.toks) (fun _ _ q=>Heap.get?_push_of_some _ q) (Nat.le_refl _) (Kk s.heap I.big)
 refine wpAny_Dict_walk (knd:=dP X.prog X.w) hall hl h0 h15 (thn (h pins _ σ _ _ I1 (q _ hn)) fun ws s2 ⟨ps,H2,I2,rel,e,kvs,ep,lk,q2⟩=>?_)
 subst ep
 obtain⟨rs,c,rk⟩:=tX (P:=X.prog) (w:=X.w) rel
 obtain⟨z,hd,vs0,r0,dd⟩:=Sb I2.hok e
 cases r0
 refine⟨rs,c,dd,fun h' dd' hs=>⟨.ref s.heap.objs.size,_,?_,rfl,q2⟩⟩
 have hz:(iS [] kvs).length≤sizeLine:=by
  have h1:=mL kvs []
  rw[List.length_nil] at h1
  rw[sizeLine_eq];omega
 have he:∃q,h'.get? s.heap.objs.size=some q:=let ⟨q,_,_,hq,_⟩:=dd';⟨q,hq⟩
 exact yJ I2 (by rw[e];exact True.intro) hs he (Lr hz hd (rk.merge .nil) dd')
structure M1 (X:Cx) (o:Expr) (m:Str) (apos:Pos) (e:Expr) (cpos:Pos):Prop where
 base:attributeBase o m X.env (eval o X.env)=eval o X.env
 few:((backTo cpos (starEach [e] X.env)).all (fun x=>!x.1) && (backToKw cpos (keywordEach [] X.env)).all (fun x=>x.1.isSome)
  && decide (([e]:List Expr).length+([]:List Keyword).length+(if ([]:List Keyword).isEmpty then 0 else 1) < 30))=true
 line:(apos.endLine == cpos.line)=true
 trees:backTo cpos (starEach [e] X.env)=[(false,eval e X.env)]
def IsD (H:Hp) (a:Addr):Prop:=(∃kvs,Rd H a (.dK kvs))∨∃kvs,Rd H a (.dT kvs)
theorem Ur {X:Cx} {pins:List (Addr × Obj)} {σ:St} {H:Hp} {s:Shared} {a:Addr} (I:Inv X pins σ H s) (d:IsD H a) :
  s.TypeIs (.ref a) "dict"∧(∀b,Value.ref a=.ref b→∃ob,s.heap.get? b=some ob∧ob.dict=none)∧(a == sysModules)=false:=by
 rcases d with ⟨kvs,e⟩ | ⟨kvs,e⟩
 ·obtain⟨_,hd,vs,_,dd⟩:=vL I.hok e
  refine⟨dd.typeIs,fun b q=>?_,hd⟩
  cases q
  obtain⟨ob,_,_,h1,h2,_⟩:=dd
  exact⟨ob,h1,h2.2.1⟩
 ·obtain⟨_,hd,xs,_,dd⟩:=wL I.hok e
  refine⟨dd.typeIs,fun b q=>?_,hd⟩
  cases q
  obtain⟨ob,_,_,h1,h2,_⟩:=dd
  exact⟨ob,h1,h2.2.1⟩
section
variable {X:Cx} {pins:List (Addr × Obj)} {σ:St} {H:Hp} {s:Shared} {a:Addr} {y d:V} {u r:Value} {o:Option V} {A:Around} {E:Value→Shared→Prop}
theorem Uv {Q:Value→Shared→Prop} (hu:A.units+1 < cLine) (I:Inv X pins σ H s) (g:jC H a y o) (ry:cF y u) (h:∀w' s',Inv X pins σ H s'→cF (o.getD .non) w'→Q w' s') :
  wpAny (model X.prog X.w) A (call (.builtin "dict.get") [.ref a,u]) Q E s:=by
 rcases g with ⟨kvs,k,e,ey,l⟩ | ⟨kvs,k,b,e,ey,eb,l⟩
 ·subst ey
  obtain⟨z,hd,vs,rel,dd⟩:=vL I.hok e
  refine call_meetsIn PySem.F.slot_dict_get dd.typeIs PySem.F.entry_dict_get (PySem.F.args_dict_get_2 _ _) (meets_dict_get (dP X.prog X.w) a (wG ry) hd) ⟨_,dd.mapOf,h _ _ (I.tok _) ?_⟩
  rw[l]
  exact(rel.val k).getD rfl
 ·subst ey
  cases (show u=Value.ref b from ry)
  obtain⟨z,hd,xs,rel,dd⟩:=wL I.hok e
  refine call_meetsIn PySem.F.slot_dict_get dd.typeIs PySem.F.entry_dict_get (PySem.F.args_dict_get_2 _ _) (meetsH_dict_get (tupleKind (dP X.prog X.w)) a b hd) ⟨tupleKind_room_in1 hu,k,xs,rZ I.hok eb,dd,h _ _ (I.tok _) ?_⟩
  rw[l]
  exact(rel.val k).getD rfl
end
def Tu (td ty:TE):TE:=fun σ H Q=>td σ H fun x H1=>∃a,x=.ref a∧IsD H1 a∧ty σ H1 fun y H2=>∃o,jC H2 a y o∧Q (o.getD .non) H2
section
variable {X:Cx} {o e f:Expr} {apos cpos:Pos} {td ty tx:TE}
theorem Lj (hu:X.A.units+1 < cLine) (ho:PE X o td) (he:PE X e ty) (m:M1 X o "get" apos e cpos):PE X (.Call (.Attribute o "get" apos) [e] [] cpos) (Tu td ty):=by
 intro pins s σ H Q I h
 refine wpAny_Call_method m.base m.few m.line PySem.F.plainAttrs_dict PySem.F.slot_dict_get PySem.F.type_dict_get (thn (ho pins s σ H _ I h) fun u s1 ⟨x,H1,I1,rx,a,ex,d,q1⟩=>?_)
 subst ex
 obtain rfl:u=Value.ref a:=rx
 obtain⟨t1,t2,_⟩:=Ur I1 d
 refine⟨t1,t2,?_⟩
 rw[m.trees]
 refine Calls.callWith_builtin rfl (Calls.evalArgs_plain (Calls.spliced_cons (thn (he pins s1 σ H1 _ I1 q1) fun iv s2 ⟨y,H2,I2,ry,ov,g,q2⟩=>Calls.spliced_nil ?_)))
 exact Uv hu I2 g ry fun w' s3 I3 rw'=>⟨_,H2,I3,rw',q2⟩
end
end L2
set_option maxHeartbeats 2000000
namespace L2
open PySem PySem.Spec PyProof.Rows
def Ho:Kd→Mq.Q2→Mq.Q2→Mq.Q2→Mq.Q2
 | .pc,u,_,p=>Mq.pC u p
 | .pu,_,_,p=>p
 | .ho,_,v,_=>v
theorem Fq.mod {K:PySem.W.Frag} {a:Addr} {d:Option Addr} {n:Nat} {sl:Array (Option Value)} {i j:Int} {t u:Tok} (l:K.lookup a=some ⟨.type "tuple",d,.seq #[.int i t,.int j u] n,sl⟩) (H:Hp):Fq K H a (i,j):=
 .inr ⟨_,_,_,l,rfl,rfl,(by show 2≤sizeLine;decide),.cons ⟨_,rfl⟩ (.cons ⟨_,rfl⟩ .nil)⟩
abbrev RD:=Kd × Int × Int × Mq.Q2
inductive Rts (K:PySem.W.Frag) (H:Hp):List V→List RD→Prop where
 |nil:Rts K H [] []
 |cons {t z:Addr} {k:Kd} {i j:Int} {p:Mq.Q2} {xs:List V} {ds:List RD} (h:SqT K H t [.str k.wd,.int i,.int j,.ref z]) (f:Fq K H z p) (q:Rts K H xs ds):Rts K H (.ref t :: xs) ((k,i,j,p) :: ds)
section
variable {K:PySem.W.Frag} {H H':Hp}
theorem Rts.same (e:bC H H'):∀{xs:List V} {ds:List RD},Rts K H xs ds→Rts K H' xs ds
 |_,_,.nil=>.nil
 |_,_,.cons h f q=>.cons (e.seqT h) (e.fq f) (Rts.same e q)
theorem Rts.length:∀{xs:List V} {ds:List RD},Rts K H xs ds→xs.length=ds.length
 |_,_,.nil=>rfl
 |_,_,.cons _ _ q=>by simp[Rts.length q]
theorem Rts.app:∀{xs ys:List V} {ds es:List RD},Rts K H xs ds→Rts K H ys es→Rts K H (xs++ys) (ds++es)
 |_,_,_,_,.nil,r=>r
 |_,_,_,_,.cons h f q,r=>.cons h f (Rts.app q r)
theorem Rts.at:∀{xs:List V} {ds:List RD} {q:Nat} {d:RD},Rts K H xs ds→ds[q]?=some d→∃t z,xs[q]?=some (.ref t)∧SqT K H t [.str d.1.wd,.int d.2.1,.int d.2.2.1,.ref z]∧Fq K H z d.2.2.2
 |_,_,_,_,.nil,h=>by simp at h
 |_,_,0,_,.cons h f _,e=>by simp at e;subst e;exact⟨_,_,rfl,h,f⟩
 |_,_,i+1,_,.cons _ _ q,e=>by simpa using Rts.at q (by simpa using e)
theorem Rts.set {t z:Addr} {k:Kd} {i j:Int} {p:Mq.Q2} (h:SqT K H t [.str k.wd,.int i,.int j,.ref z]) (f:Fq K H z p):∀{xs:List V} {ds:List RD} (q:Nat),Rts K H xs ds→Rts K H (xs.set q (.ref t)) (ds.set q (k,i,j,p))
 |_,_,_,.nil=>.nil
 |_,_,0,.cons _ _ q=>.cons h f q
 |_,_,n+1,.cons a b q=>.cons a b (Rts.set h f n q)
theorem Rts.upd {l:Addr} {ys:List V} {o:HO} (hl:H l=some (.lst ys)):∀{xs:List V} {ds:List RD},Rts K H xs ds→Rts K (L2.upd H l o) xs ds
 |_,_,.nil=>.nil
 |_,_,.cons h f q=>.cons (h.upd hl) (f.upd hl) (Rts.upd hl q)
def rdd (d:RD):PyData:=rd4 d.1.wd d.2.1 d.2.2.1 d.2.2.2
theorem Rts.dat:∀{xs:List V} {ds:List RD},Rts K H xs ds→tT K H xs (ds.map rdd)
 |_,_,.nil=>.nil
 |_,_,.cons h f q=>.cons (Pb h f) (Rts.dat q)
theorem Bf:∀ds:List RD,PyData.canLayAll0 (ds.map rdd)=true
 | []=>rfl
 |d :: r=>by
  show ((rdd d).canLay0 && PyData.canLayAll0 (r.map rdd))=true
  rw[Bf r,show (rdd d).canLay0=true from Pn (Kd.lay _) _ _ _];rfl
theorem tJ:∀ds:List RD,PyData.depthAll (ds.map rdd)≤3
 | []=>by simp[PyData.depthAll]
 |d :: r=>by
  have b:=tJ r
  have a:(rdd d).depth≤3:=by simp[rdd,rd4,qd,PyData.depth,PyData.depthAll]
  simp only[List.map_cons,PyData.depthAll]
  omega
theorem Kh {a b:Addr} {xs ys:List V} {ds:List RD} {neg:Bool} {Q:VK} (h1:SqL K H a xs) (h2:SqL K H b ys) (f1:Rts K H xs ds) (f2:Rts K H ys ds) (z:Q (.bl (!neg)) H):Hf K neg (.ref a) (.ref b) H Q:=
 Sq (d:=.list (ds.map rdd)) (.lst h1 f1.dat) (.lst h2 f2.dat) (Bf ds) (by have:=tJ ds;simp only[PyData.depth];omega) z
end
def cL (l:Addr) (H H':Hp):Prop:=∀b o,H b=some o→b≠l→H' b=some o
theorem bC.x {l:Addr} {H H':Hp} (s:bC H H'):cL l H H':=fun b o h _=>s b o h
theorem cL.write {l:Addr} {H H1:Hp} {o:HO} (a:cL l H H1):cL l H (upd H1 l o):=fun c u h n=>by rw[aW n];exact a c u h n
section
variable {K:PySem.W.Frag} {H H':Hp} {l:Addr}
theorem cL.seqT {a:Addr} {xs ys:List V} (hl:H l=some (.lst ys)) (e:cL l H H') (h:SqT K H a xs):SqT K H' a xs:=by
 rcases h with (h | ⟨u,h⟩) | h
 ·exact .inl (.inl (e _ _ h (fY h hl (fun z=>by cases z))))
 ·exact .inl (.inr ⟨u,e _ _ h (fY h hl (fun z=>by cases z))⟩)
 ·exact .inr h
theorem cL.rts {ys:List V} (hl:H l=some (.lst ys)) (e:cL l H H'):∀{xs:List V} {ds:List RD},Rts K H xs ds→Rts K H' xs ds
 |_,_,.nil=>.nil
 |_,_,.cons h f q=>.cons (e.seqT hl h) (e.seqT hl f) (cL.rts hl e q)
end
theorem fpk:¬(("point_count":Str) = "kept"):=by decide +kernel
def mI (m:Int) (l:Addr):List (Str × V):=dY "kept" (.ref l) (dY "point_count" (.int m) [])
theorem Ax (m:Int) (l:Addr):(mI m l).lookup ("point_count":Str)=some (.int m):=by
 unfold mI
 rw[bM,if_neg fpk,bM,if_pos rfl]
theorem fG (m:Int) (l:Addr):(mI m l).lookup ("kept":Str)=some (.ref l):=by
 unfold mI
 rw[bM,if_pos rfl]
theorem dX (m:Int) (l:Addr) {x:Str} (h1:¬x = "point_count") (h2:¬x = "kept"):(mI m l).lookup x=none:=by
 unfold mI
 rw[bM,if_neg h2,bM,if_neg h1]
 rfl
def uG (m:Int) (d:RD):Prop:=0≤d.2.1∧d.2.1 < m∧0≤d.2.2.1∧d.2.2.1 < m∧Mq.Low d.2.2.2∧(d.1=.pc→0 < d.2.2.2.1)∧Mq.Bd 1000 d.2.2.2
structure cX (CN:Addr) (K:PySem.W.Frag) (H:Hp) (n l:Addr) (m:Int) (ds:List RD):Prop where
 ob:∃dx,H n=some (.ins CN dx (mI m l))
 ls:∃ts,H l=some (.lst ts)∧Rts K H ts ds
theorem cX.same {CN:Addr} {K:PySem.W.Frag} {H H':Hp} {n l:Addr} {m:Int} {ds:List RD} (e:bC H H') (h:cX CN K H n l m ds):cX CN K H' n l m ds:=
 let ⟨⟨dx,a⟩,ts,b,c⟩:=h;⟨⟨dx,e _ _ a⟩,ts,e _ _ b,c.same e⟩
theorem cX.x {CN:Addr} {K:PySem.W.Frag} {H H':Hp} {n l q:Addr} {m:Int} {ds:List RD} {ys:List V} (hq:H q=some (.lst ys)) (e:cL q H H') (ne:l≠q) (h:cX CN K H n l m ds):cX CN K H' n l m ds:=
 let ⟨⟨dx,a⟩,ts,b,c⟩:=h;⟨⟨dx,e _ _ a (fY a hq (fun z=>by cases z))⟩,ts,e _ _ b ne,e.rts hq c⟩
structure NT (K:PySem.W.Frag) (mg:Str→Option Value) (CN:Addr):Prop where
 cl:Cls K CN
 nP:gE K CN "point_count"
 nK:gE K CN "kept"
 t1:PySem.W.findIn K (.ref CN) "__class__"=some (some (.builtin "object.__class__"))
 t2:PySem.W.specialIn K (.builtin "object.__class__") "__get__"=some (some (.builtin "getset_descriptor.__get__"))
 t3:PySem.W.takesIn K (.builtin "object.__class__")=some true
 t4:PySem.W.mroIn K CN (.type "object")=some true
 mN:mg "Net"=some (.ref CN)
def rX (K:PySem.W.Frag) (CK:Kd→Addr):Sp:=fun vs H Q _=>∃(t:Addr) (v s g z:V),vs=[.ref t]∧SqT K H t [v,s,g,z]∧∃k:Kd,v=.str k.wd∧Zh CK H Q k s g z
def Nz (K:PySem.W.Frag):Sp:=fun vs H Q _=>∃(a:Addr) (p:Mq.Q2),vs=[.ref a]∧Fq K H a p∧Mq.Low p∧Q (.bl true) H
def Xj (K:PySem.W.Frag):Sp:=fun vs H Q _=>∃(a:Addr) (p:Mq.Q2) (n:Nat),vs=[.ref a]∧Fq K H a p∧Mq.Low p∧0 < p.1∧Mq.Bd n p∧n≤8000∧Q (.bl true) H
def Tx:Sp:=fun vs H Q _=>∃i b:Int,vs=[.int i,.int b]∧0≤i∧i < b∧Q (.bl true) H
def Sw (K:PySem.W.Frag):Sp:=fun vs H Q _=>∃(k:Kd) (z:Addr) (p:Mq.Q2),vs=[.str k.wd,.ref z]∧Fq K H z p∧Mq.Low p∧(k=.pc→0 < p.1)∧Mq.Bd 1000 p∧Q .non H
def Ex (CN:Addr):Sp:=fun vs H Q _=>∃(n dx:Addr) (m:Int),vs=[.ref n,.int m]∧H n=some (.ins CN dx [])∧1≤m∧m≤20∧∀l H',H l=none→(∀b o,H b=some o→b≠n→H' b=some o)→H' n=some (.ins CN dx (mI m l))→H' l=some (.lst [])→Q .non H'
def oV (CN:Addr) (K:PySem.W.Frag):Sp:=fun vs H Q _=>∃(n l:Addr) (m:Int) (ds:List RD),vs=[.ref n]∧cX CN K H n l m ds∧Q (.int m) H
def Ee (CN:Addr) (K:PySem.W.Frag):Sp:=fun vs H Q _=>∃(n l:Addr) (m:Int) (ds:List RD),vs=[.ref n]∧cX CN K H n l m ds∧∀a ts H',bC H H'→H a=none→H' a=some (.lst ts)→Rts K H' ts ds→Q (.ref a) H'
def Sj (CN:Addr) (K:PySem.W.Frag) (CK:Kd→Addr):Sp:=fun vs H Q _=>∃(n l x z:Addr) (m:Int) (ds:List RD) (k:Kd) (i j:Int) (p:Mq.Q2),vs=[.ref n,.ref x]∧cX CN K H n l m ds∧Rw CK H x k (.int i) (.int j) (.ref z)∧Fq K H z p∧uG m (k,i,j,p)∧ds.length < 40∧
 ∀H',cL l H H'→cX CN K H' n l m (ds++[(k,i,j,p)])→Q (.int ds.length) H'
def zC (CN:Addr) (K:PySem.W.Frag):Sp:=fun vs H Q _=>∃(n l z:Addr) (m q:Int) (ds:List RD) (k:Kd) (i j:Int) (p0 p:Mq.Q2),vs=[.ref n,.int q,.ref z]∧cX CN K H n l m ds∧0≤q∧ds[q.toNat]?=some (k,i,j,p0)∧Fq K H z p∧Mq.Low p∧(k=.pc→0 < p.1)∧Mq.Bd 1000 p∧
 ∀H',cL l H H'→cX CN K H' n l m (ds.set q.toNat (k,i,j,p))→Q .non H'
theorem Kz {a1 u:TS} {D:mC} {σ:St} {H:Hp} (P:St→Hp→Prop) (h1:∀X:St→Hp→Prop,(∀σ' H',P σ' H'→X σ' H')→(a1) { D with nx:=X } σ H) (h2:∀σ' H',P σ' H'→u D σ' H'):(iO a1 (u)) D σ H:=h1 _ h2
theorem Wd {a1 a2 u:TS} {D:mC} {σ:St} {H:Hp} (P:St→Hp→Prop) (h1:∀X:St→Hp→Prop,(∀σ' H',P σ' H'→X σ' H')→(iO a1 (a2)) { D with nx:=X } σ H) (h2:∀σ' H',P σ' H'→u D σ' H'):(iO a1 (iO a2 (u))) D σ H:=h1 _ h2
theorem Yk {a1 a2 a3 u:TS} {D:mC} {σ:St} {H:Hp} (P:St→Hp→Prop) (h1:∀X:St→Hp→Prop,(∀σ' H',P σ' H'→X σ' H')→(iO a1 (iO a2 (a3))) { D with nx:=X } σ H) (h2:∀σ' H',P σ' H'→u D σ' H'):(iO a1 (iO a2 (iO a3 (u)))) D σ H:=h1 _ h2
theorem Zi {a1 a2 a3 a4 u:TS} {D:mC} {σ:St} {H:Hp} (P:St→Hp→Prop) (h1:∀X:St→Hp→Prop,(∀σ' H',P σ' H'→X σ' H')→(iO a1 (iO a2 (iO a3 (a4)))) { D with nx:=X } σ H) (h2:∀σ' H',P σ' H'→u D σ' H'):(iO a1 (iO a2 (iO a3 (iO a4 (u))))) D σ H:=h1 _ h2
end L2
namespace Mq
def val (p:Q2):Rat:=(p.1:Rat) / (p.2:Rat)
theorem dU {b:Int} (h:b≠0):(b:Rat)≠0:=fun e=>h (Rat.intCast_inj.mp (by simpa using e))
theorem Bp {p:Q2} {t b:Int} (hp:p.2≠0) (hb:b≠0) (h:p.1*b=t*p.2):val p=(t:Rat) / (b:Rat):=by
 unfold val
 have h1:=dU hp
 have h2:=dU hb
 have h3:(p.1:Rat)*(b:Rat)=(t:Rat)*(p.2:Rat):=by rw[← Rat.intCast_mul,← Rat.intCast_mul,h]
 grind
theorem lP {t b:Int} (hb:b≠0):val (red t b)=(t:Rat) / (b:Rat):=by
 have:=(gU (t:=t) hb).pos
 exact Bp (by omega) hb (vQ hb)
theorem lH {p q:Q2} (hp:Low p) (hq:Low q) (h:val p=val q):p=q:=by
 refine Lk hp hq ?_
 have p1:=dU (show p.2≠0 by have:=hp.pos;omega)
 have q1:=dU (show q.2≠0 by have:=hq.pos;omega)
 unfold val at h
 have:(p.1:Rat)*(q.2:Rat)=(q.1:Rat)*(p.2:Rat):=by grind
 rw[← Rat.intCast_mul,← Rat.intCast_mul] at this
 exact Rat.intCast_inj.mp this
theorem Ah {p q:Q2} (hp:1≤p.2) (hq:1≤q.2):val (rV p q)=val p+val q:=by
 have p1:=dU (show p.2≠0 by omega)
 have q1:=dU (show q.2≠0 by omega)
 unfold rV
 rw[lP (kJ hp hq),Rat.intCast_add,Rat.intCast_mul,Rat.intCast_mul,Rat.intCast_mul]
 unfold val
 grind
theorem lU {p q:Q2} (hp:1≤p.2) (hq:1≤q.2):val (minus p q)=val p - val q:=by
 have p1:=dU (show p.2≠0 by omega)
 have q1:=dU (show q.2≠0 by omega)
 unfold minus
 rw[lP (kJ hp hq),Rat.intCast_sub,Rat.intCast_mul,Rat.intCast_mul,Rat.intCast_mul]
 unfold val
 grind
theorem Kn {p q:Q2} (hp:1≤p.2) (hq:1≤q.2) (h0:q.1≠0):val (pC p q)=val p / val q:=by
 have p1:=dU (show p.2≠0 by omega)
 have q1:=dU (show q.2≠0 by omega)
 have q2:=dU h0
 unfold pC
 rw[lP (rC hp h0),Rat.intCast_mul,Rat.intCast_mul]
 unfold val
 grind
theorem mG:val (0,1)=0:=by unfold val;simp;grind
theorem Et:val (1,1)=1:=by unfold val;simp;grind
theorem Ev {t b:Int} (ht:0 < t) (hb:0 < b):0 < (red t b).1:=by
 have h1:=vQ (t:=t) (b:=b) (by omega)
 have h2:=(gU (t:=t) (b:=b) (by omega)).pos
 have h3:0 < t*(red t b).2:=Int.mul_pos ht (by omega)
 rw[← h1] at h3
 exact Int.pos_of_mul_pos_left h3 (by omega)
def rs (n:Nat) (F:Nat→Rat):Rat:=match n with
 |0=>0
 |n+1=>rs n F+F n
theorem aK {n:Nat} {F G:Nat→Rat} (h:∀i,i < n→F i=G i):rs n F=rs n G:=by
 induction n with
 |zero=>rfl
 |succ n ih=>simp only[rs];rw[ih (fun i hi=>h i (by omega)),h n (by omega)]
theorem cZ (n:Nat) (F G:Nat→Rat):rs n (fun i=>F i+G i)=rs n F+rs n G:=by
 induction n with
 |zero=>simp[rs];grind
 |succ n ih=>simp only[rs];rw[ih];grind
theorem eU (n:Nat) (c:Rat) (F:Nat→Rat):rs n (fun i=>c*F i)=c*rs n F:=by
 induction n with
 |zero=>simp[rs]
 |succ n ih=>simp only[rs];rw[ih];grind
theorem iM (n:Nat) (F:Nat→Rat):rs n (fun i=>- F i)=- rs n F:=by
 induction n with
 |zero=>simp[rs]
 |succ n ih=>simp only[rs];rw[ih];grind
theorem dE (n:Nat):rs n (fun _=>0)=0:=by
 induction n with
 |zero=>rfl
 |succ n ih=>simp only[rs];rw[ih];grind
theorem xH (n k:Nat) (F:Nat→Rat):rs n (fun i=>if k=i then F i else 0)=if k < n then F k else 0:=by
 induction n with
 |zero=>simp[rs]
 |succ n ih=>
  simp only[rs]
  rw[ih]
  by_cases h1:k < n
  ·rw[if_pos h1,if_neg (by omega),if_pos (by omega)];grind
  ·by_cases h2:k=n
   ·subst h2;rw[if_neg h1,if_pos rfl,if_pos (by omega)];grind
   ·rw[if_neg h1,if_neg h2,if_neg (by omega)];grind
abbrev z0:Q2:=(0,1)
abbrev Row:=Nat × Nat × Q2
theorem iL.pos {ls:List Q2} (h:iL ls):Pos ls:=fun p hp=>(h p hp).pos
def mX (L b:Int):Int:=Int.fdiv L (gc L b)*b
theorem mQ {L b:Int} (hL:1≤L) (hb:1≤b):1≤mX L b∧(∃j,mX L b=L*j)∧(∃k,mX L b=k*b∧1≤k)∧mX L b≤L*b:=by
 have gp:0 < gc L b:=tD (by omega)
 have d1:gc L b ∣ L:=by unfold gc;exact Int.gcd_dvd_left ..
 have d2:gc L b ∣ b:=by unfold gc;exact Int.gcd_dvd_right ..
 obtain⟨k,hk⟩:=d1
 obtain⟨j,hj⟩:=d2
 have ek:Int.fdiv L (gc L b)=k:=fB (by omega) hk
 have k1:1≤k:=by
  have:0 < gc L b*k:=by omega
  have:=Int.pos_of_mul_pos_right this (by omega)
  omega
 unfold mX
 rw[ek]
 refine⟨?_,⟨j,?_⟩,⟨k,rfl,k1⟩,?_⟩
 ·have:0 < k*b:=Int.mul_pos (by omega) (by omega)
  omega
 ·generalize gc L b=g at *
  rw[hk,hj];grind
 ·have:k≤L:=by
   rw[hk]
   have:=Int.mul_le_mul_of_nonneg_right (show 1≤gc L b by omega) (show 0≤k by omega)
   omega
  exact Int.mul_le_mul_of_nonneg_right this (by omega)
def dL (ps:List Q2):Int:=ps.foldl (fun L p=>mX L p.2) 1
theorem Ic (ps:List Q2) (p:Q2):dL (ps++[p])=mX (dL ps) p.2:=by unfold dL;rw[List.foldl_append];rfl
theorem lF {ps:List Q2} {i:Nat} {p:Q2} (h:ps[i]?=some p):dL (ps.take (i+1))=mX (dL (ps.take i)) p.2:=by
 rw[List.take_add_one,h];exact Ic _ _
theorem mU {ps:List Q2} (hp:Pos ps) {n:Nat} (hb:∀p∈ps,Bd n p):∀i,i≤ps.length→1≤dL (ps.take i)∧B (1+n*i) (dL (ps.take i))∧∀p∈ps.take i,∃k,dL (ps.take i)=k*p.2
 |0,_=>⟨by show (1:Int)≤1;omega,show (1:Nat) < 2 ^ (1+n*0) by simp,fun p h=>by simp at h⟩
 |i+1,hi=>by
  obtain⟨h1,h2,h3⟩:=mU hp hb i (by omega)
  have e:ps[i]?=some ps[i]:=List.getElem?_eq_getElem (by omega)
  have mem:ps[i]∈ps:=List.getElem_mem _
  rw[lF e]
  obtain⟨l1,⟨j,l2⟩,⟨k,l3,l4⟩,l5⟩:=mQ h1 (hp _ mem)
  refine⟨l1,?_,fun p hpp=>?_⟩
  ·have:=h2.mul (hb _ mem).b
   refine B.mono (n:=1+n*i+n) (this.le ?_) (by rw[Nat.mul_succ];omega)
   have h0:1≤ps[i].2:=hp _ mem
   have:0≤dL (ps.take i)*ps[i].2:=Int.mul_nonneg (by omega) (by omega)
   omega
  ·rw[List.take_add_one,e] at hpp
   rcases List.mem_append.mp hpp with z | z
   ·obtain⟨q,hq⟩:=h3 p z
    exact⟨q*j,by rw[l2,hq];grind⟩
   ·have:p=ps[i]:=by simpa using z
    rw[this];exact⟨k,l3⟩
theorem rK {ps:List Q2} (hp:Pos ps):1≤dL ps:=by
 have:∀(l:List Q2) (L:Int),1≤L→Pos l→1≤l.foldl (fun L p=>mX L p.2) L:=fun l=>by
  induction l with
  |nil=>intro L h _;exact h
  |cons p l ih=>intro L h q;exact ih _ (mQ h (q p (by simp))).1 fun x hx=>q x (List.mem_cons_of_mem _ hx)
 exact this ps 1 (by omega) hp
def As (L:Int) (p:Q2):Int:=p.1*Int.fdiv L p.2
def iw (ps:List Q2):List Int:=ps.map (As (dL ps))
theorem Np {L k:Int} {p:Q2} (h:1≤p.2) (e:L=k*p.2):((As L p:Int):Rat)=val p*(L:Rat):=by
 have e1:Int.fdiv L p.2=k:=fB (by omega) (by rw[e,Int.mul_comm])
 have n:=dU (show p.2≠0 by omega)
 unfold As val
 rw[e1,e,Rat.intCast_mul,Rat.intCast_mul]
 grind
theorem zX {ps:List Q2} (hp:Pos ps):∀p∈ps,∃k,dL ps=k*p.2:=fun p hpp=>by
 have:∀(l:List Q2) (L:Int),1≤L→Pos l→(∃j,l.foldl (fun L p=>mX L p.2) L=L*j)∧∀p∈l,∃k,l.foldl (fun L p=>mX L p.2) L=k*p.2:=fun l=>by
  induction l with
  |nil=>intro L h _;exact⟨⟨1,by simp⟩,fun p h=>by simp at h⟩
  |cons q l ih=>
   intro L h hq
   obtain⟨l1,⟨j,l2⟩,⟨k,l3,l4⟩,l5⟩:=mQ h (hq q (by simp))
   obtain⟨⟨j2,i1⟩,i2⟩:=ih (mX L q.2) l1 fun x hx=>hq x (List.mem_cons_of_mem _ hx)
   refine⟨⟨j*j2,by rw[List.foldl_cons,i1,l2];grind⟩,fun p hp=>?_⟩
   rcases List.mem_cons.mp hp with rfl | hp
   ·exact⟨k*j2,by rw[List.foldl_cons,i1,l3];grind⟩
   ·exact i2 p hp
 exact(this ps 1 (by omega) hp).2 p hpp
def fA (X:List (List Q2)):Prop:=∀row∈X,Pos row
theorem Jx {row:List Q2} (h:Pos row) (j:Nat):1≤(row.getD j z0).2:=by
 rw[List.getD_eq_getElem?_getD]
 cases e:row[j]? with
 |none=>exact Int.le_refl 1
 |some v=>exact h v (List.mem_of_getElem? e)
end Mq
namespace L2
open PySem PySem.Spec PyProof.Rows
abbrev Je (scope:Scope) (cl:List (Str × Addr)) (x0:Str) (C:Addr) (env:Env):Env:={ compEnvC scope cl C env with cells:=(x0,C+1) :: cl }
abbrev Yb (X:Cx) (scope:Scope) (cl:List (Str × Addr)) (x0:Str) (Nc:List Str) (C:Addr) (s3:Shared) (H3:Hp) (fp:List Addr) (pins:List (Addr × Obj)):Cx:=
 { X with N:=Nc,s₀:=s3,H₀:=H3,env:=Je scope cl x0 C X.env,outer:=X.stack,ex:=fp,fn:=fun x=>x == x0,pn:=X.pn++pins,xe:=fun _ _=>False }
def Ite (K : PySem.W.Frag) (a : Addr) : It :=
  ⟨fun i H => ∃ xs x, SqL K H a xs ∧ xs[i]? = some x,
   fun i H v H' => ∃ T x, v = .ref T ∧ H T = none ∧ H' = upd H T (.tup [.int (i : Int), x]) ∧ ∀ xs, SqL K H a xs → xs[i]? = some x,
   fun i H => ∃ xs, SqL K H a xs ∧ xs.length ≤ i⟩
def Uo (e it l:Addr) (i:Nat) (h:Heap):Prop:=e≠it∧(∃old,IsEnum h e it (i:Int) old)∧h.IsListIter it l i
theorem Gz {P:Program} {w:World} {K:PySem.W.Frag} {elts:List Expr} {kk:Nat} {tpos:Pos} (e it l:Addr) :
  Iv P w K (.Tuple elts kk tpos) (Ite K l) [e,it] e (Uo e it l) where
 mem:=by simp
 obj:=fun i h st b hb=>by
  obtain⟨ne,⟨old,he⟩,⟨o1,e1,c1,d1⟩⟩:=st
  simp only[List.mem_cons,List.not_mem_nil,or_false] at hb
  rcases hb with rfl | rfl
  ·exact⟨_,he,fun v q=>by cases q⟩
  ·exact⟨o1,e1,fun v q=>by rw[d1] at q;cases q⟩
 keep:=fun i h h' st k=>by
  obtain⟨ne,⟨old,he⟩,⟨o1,e1,c1,d1⟩⟩:=st
  exact⟨ne,⟨old,k _ (by simp) _ he⟩,⟨o1,k _ (by simp) _ e1,c1,d1⟩⟩
 item:=by
  intro X hP hw hK hc i pins s σ H E I hf st hg
  subst hP hw hK
  obtain⟨ne,⟨old,he⟩,t1⟩:=st
  obtain⟨xs,x,hx,ex⟩:=hg
  obtain⟨its1,rv1,p1,z1⟩:=I.list hx
  obtain⟨u1,hu1,ru1⟩:=rv1.get ex
  refine wpAny_pyNext_enum_item he t1 p1.isList (x:=u1) (by simpa using hu1) ne fun h' g1 g2 g3 g4 kk'=>?_
  have hn:H s.heap.objs.size=none:=I.hok.fresh (Nat.le_refl _)
  have lt:∀b∈[e,it],b < s.heap.objs.size:=fun b hb=>by
   simp only[List.mem_cons,List.not_mem_nil,or_false] at hb
   obtain⟨o1,e1,_⟩:=t1
   rcases hb with rfl | rfl
   ·exact Heap.lt_size he
   ·exact Heap.lt_size e1
  have I1:Inv X pins σ (upd H s.heap.objs.size (.tup [.int (i:Int),x])) { s with heap:=s.heap.push { cls:=.type "tuple",data:=.seq #[.int i s.toks,u1] },toks:=s.toks+1 }:=
   I.laid (t':=s.toks+1) (fun b o e=>Heap.get?_push_of_some _ e) (Nat.le_refl _) (show dI X.prog X.w _ _ _ (.tup [.int (i:Int),x]) from ⟨by show 2≤sizeLine;decide,[.int i s.toks,u1],.cons ⟨_,rfl⟩ (.cons ru1 .nil),IsTup.new _ _⟩)
  have hf1:∀b∈[e,it],mD X pins (upd H s.heap.objs.size (.tup [.int (i:Int),x])) b:=fun b hb=>⟨by rw[aW (Nat.ne_of_lt (lt b hb))];exact(hf b hb).1,(hf b hb).2⟩
  have k1:∀b o,b∉[e,it]→(s.heap.push { cls:=.type "tuple",data:=.seq #[.int i s.toks,u1] }).get? b=some o→h'.get? b=some o:=fun b o nb e=>by
   simp only[List.mem_cons,List.not_mem_nil,or_false,not_or] at nb
   by_cases hb:b=s.heap.objs.size
   ·subst hb
    rw[Heap.get?_push_size _ rfl] at e
    cases e
    exact g3
   ·have e0:s.heap.get? b=some o:=by rw[Heap.get?_push_ne _ _ _ hb] at e;exact e
    exact kk' b o nb.1 nb.2 e0
  have I2:Inv X pins σ (upd H s.heap.objs.size (.tup [.int (i:Int),x])) { s with heap:=h',toks:=s.toks+1 }:=Inv.turnedL (s:={ s with heap:=s.heap.push { cls:=.type "tuple",data:=.seq #[.int i s.toks,u1] },toks:=s.toks+1 }) (t':=s.toks+1) I1 k1 hf1
  refine⟨_,rfl,wpAny_letOwnedTupleGo_enum (s:={ s with heap:=h',toks:=s.toks+1 }) g1 fun h2 q1 q2=>?_⟩
  have kz:∀b o,b≠e→h'.get? b=some o→h2.get? b=some o:=fun b o nb e=>(q2.2 b nb).trans e
  have I3:Inv X pins σ (upd H s.heap.objs.size (.tup [.int (i:Int),x])) { s with heap:=h2,toks:=s.toks+1 }:=Inv.turnedL (s:={ s with heap:=h',toks:=s.toks+1 }) (t':=s.toks+1) (fp:=[e]) I2 (fun b o nb e=>kz b o (by simpa using nb) e) fun b hb=>hf1 b (by simp at hb;simp[hb])
  obtain⟨o3,e3,c3,d3⟩:=g2
  refine⟨.ref s.heap.objs.size,_,I3,rfl,⟨_,x,rfl,hn,rfl,fun xs' h1=>?_⟩,⟨ne,⟨_,q1⟩,⟨o3,kz _ _ ne.symm e3,c3,d3⟩⟩,fun b hb=>(hf1 b hb).1⟩
  rw[I.list_inj h1 hx]
  exact ex
 done:=by
  intro X hP hw hK hc i pins s σ H E I hf st hg
  subst hP hw hK
  obtain⟨ne,⟨old,he⟩,t1⟩:=st
  obtain⟨xs,hx,hor⟩:=hg
  obtain⟨its1,rv1,p1,z1⟩:=I.list hx
  have l1':=rv1.length
  refine wpAny_pyNext_enum_end (I.ok.hd hc) he t1 p1.isList (by simp;omega) fun h' kk'=>⟨rfl,?_⟩
  refine I.turnedL (t':=s.toks) (fun b o nb e=>?_) hf
  simp only[List.mem_cons,List.not_mem_nil,or_false,not_or] at nb
  exact kk' b o nb.2 e
 self:=fun A i s Q E st h=>by
  obtain⟨ne,⟨old,he⟩,t1⟩:=st
  exact wpAny_pyIter_enum he h
section
variable {X:Cx}
def Wl (K:PySem.W.Frag) (ta:TA):TI:=fun σ H R=>ta σ H fun vs H1=>∃a,vs=[.ref a]∧(∃xs,SqL K H1 a xs)∧R (Ite K a) H1
theorem yP {e1:Expr} {ta:TA} {p pos:Pos} {elts:List Expr} {kk:Nat} {tpos:Pos} (hg:Gl X "enumerate") (hm:X.mg "enumerate"=none) (hv:bootBuiltins "enumerate"=some (.type "enumerate")) (ha:PA X [e1] ta)
  (hs:starEach [e1] X.env=(false,eval e1 X.env) :: starEach [] X.env:=by rfl) (hpl:(backTo pos (starEach [] X.env)).any (·.1)=false:=by rfl):PI X (.Tuple elts kk tpos) (.Call (.Name "enumerate" p) [e1] [] pos) (Wl X.K ta):=by
 intro pins s σ H R I h
 refine Call_ (jH I hg hm hv (PyProof.Rows.callWith_type1 (thn (ha pos pins s σ H _ I h) fun us s1 ⟨vs,H1,I1,r1,q1⟩=>?_) hs hpl))
 obtain⟨a,rfl,⟨xs,hx⟩,q⟩:=q1
 obtain⟨u,rfl,ra⟩:=Aa r1
 cases (show u=Value.ref a from ra)
 obtain⟨its1,rv1,p1,z1⟩:=I1.list hx
 have la:a < s1.heap.objs.size:=by obtain⟨o,e,_⟩:=p1.isList;exact Heap.lt_size e
 refine call_enumerate_list p1.isList fun h' g1 g2 g3 kk'=>?_
 refine wpAny_pyIter_enum g1 ?_
 refine⟨s1.heap.objs.size+1,[s1.heap.objs.size+1,s1.heap.objs.size],_,Ite X.K a,H1,rfl,I1.kept (t':=s1.toks) kk',Gz _ _ a,⟨?_,⟨_,g1⟩,g2⟩,fun c hc=>?_,q⟩
 ·exact Nat.succ_ne_self _
 ·have hle:s1.heap.objs.size≤c:=by
   simp only[List.mem_cons,List.not_mem_nil,or_false] at hc
   rcases hc with rfl | rfl<;>first | exact Nat.le_add_right _ _ | exact Nat.le_refl _
  exact I1.fpOk hle (I1.hok.fresh hle)
theorem Oa {K:PySem.W.Frag} {a:Addr} {xs:List V} {g:TG} {tb:TS} {D:mC} {σ:St} {H:Hp} (Pv:Nat→St→Hp→Prop) (h0:Pv 0 σ H) (hl:∀i σ H,i≤xs.length→Pv i σ H→SqL K H a xs)
  (hs:∀i x σ H T,xs[i]?=some x→Pv i σ H→H T=none→g (.ref T) σ (upd H T (.tup [.int (i:Int),x])) fun σ2 H2=>tb { D with nx:=Pv (i+1),ct:=Pv (i+1),bk:=D.nx } σ2 H2) (hd:∀σ H,Pv xs.length σ H→D.nx σ H) :
  ∃W:Nat→Nat→St→Hp→Prop,(∃m,W 0 m σ H)∧∀i m σ H,W i m σ H→
   ((Ite K a).stop i H∧D.nx σ H)∨((Ite K a).go i H∧∃N:St→Hp→Prop,(∀σ' H',N σ' H'→∃m',m' < m∧W (i+1) m' σ' H')∧∀x H',(Ite K a).yld i H x H'→g x σ H' fun σ2 H2=>tb { D with nx:=N,ct:=N,bk:=D.nx } σ2 H2):=by
 refine⟨fun i m σ H=>m=xs.length - i∧i≤xs.length∧Pv i σ H,⟨_,rfl,Nat.zero_le _,h0⟩,?_⟩
 rintro i m σ H ⟨rfl,hi,p⟩
 have qx:=hl i σ H hi p
 by_cases hlt:i < xs.length
 ·refine .inr ⟨⟨xs,xs[i],qx,by simp[hlt]⟩,Pv (i+1),fun σ' H' p'=>⟨xs.length - (i+1),by omega,rfl,hlt,p'⟩,fun v H' z=>?_⟩
  obtain⟨T,x,rfl,hT,rfl,hh⟩:=z
  exact hs i x σ H T (hh xs qx) p hT
 ·have e:i=xs.length:=by omega
  subst e
  exact .inl ⟨⟨xs,qx,Nat.le_refl _⟩,hd σ H p⟩
theorem wJ {K:PySem.W.Frag} {a:Addr} {xs:List V} {nl:Nat} {fr:List Nat} {g:TG} {tt:TT} {te:TE} {σ:St} {D:Addr} {H1:Hp} {Q:VK} (Pv:Nat→List V→Hp→Prop) (h0:Pv 0 [] (upd H1 D (.lst []))) (hl:∀i zs H,Pv i zs H→H D=some (.lst zs)) (hx:∀i zs H,i≤xs.length→Pv i zs H→SqL K H a xs)
  (hs:∀i zs x H T,xs[i]?=some x→Pv i zs H→H T=none→∀(C:Nat→List V→Hp→Prop),(∀zs H,Pv (i+1) zs H→C (i+1) zs H)→Dx nl fr g tt te σ D C i zs (.ref T) (upd H T (.tup [.int (i:Int),x]))) (hd:∀zs H,Pv xs.length zs H→Q (.ref D) H) :
  yY (Ite K a) nl fr g tt te σ D H1 Q:=by
 refine⟨fun i m zs H=>m=xs.length - i∧i≤xs.length∧Pv i zs H,⟨_,rfl,Nat.zero_le _,h0⟩,?_⟩
 rintro i m zs H ⟨rfl,hi,p⟩
 refine⟨hl i zs H p,?_⟩
 have qx:=hx i zs H hi p
 by_cases hlt:i < xs.length
 ·refine .inr ⟨⟨xs,xs[i],qx,by simp[hlt]⟩,fun v H' z=>?_⟩
  obtain⟨T,x,rfl,hT,rfl,hh⟩:=z
  exact hs i zs x H T (hh xs qx) p hT (fun j zs Hz=>∃m',m' < xs.length - i∧m'=xs.length - j∧j≤xs.length∧Pv j zs Hz) fun zs Hz z=>⟨xs.length - (i+1),by omega,rfl,hlt,z⟩
 ·have e:i=xs.length:=by omega
  subst e
  exact .inl ⟨⟨xs,qx,Nat.le_refl _⟩,hd zs H p⟩
end
end L2
set_option maxHeartbeats 4000000
namespace Shp
open PySem L2
theorem Rf {t b:Int} (h:0 < b):Mq.dvr t b=Mq.gc t b:=by unfold Mq.dvr;rw[if_neg (by omega)]
end Shp
namespace Mq
def skip (j k:Nat):Nat:=if k < j then k else k+1
def sgn (n:Nat):Rat:=if n % 2=0 then 1 else -1
theorem tO (n:Nat):sgn (n+1)=- sgn n:=by
 unfold sgn
 rcases Nat.mod_two_eq_zero_or_one n with h | h
 ·rw[if_neg (by omega),if_pos h]
 ·rw[if_pos (by omega),if_neg (by omega)];grind
abbrev Mat:=Nat→Nat→Rat
def det:Nat→Mat→Rat
 |0,_=>1
 |n+1,M=>rs (n+1) fun j=>sgn (n+j)*M n j*det n fun i k=>M i (skip j k)
theorem fD (n:Nat) (M:Mat):det (n+1) M=rs (n+1) fun j=>sgn (n+j)*M n j*det n fun i k=>M i (skip j k):=rfl
theorem Qk {j k n:Nat} (hk:k < n):skip j k < n+1:=by unfold skip;split<;>omega
theorem cN:∀{n:Nat} {M N:Mat},(∀i j,i < n→j < n→M i j=N i j)→det n M=det n N
 |0,_,_,_=>rfl
 |n+1,M,N,h=>by
  rw[fD,fD]
  exact aK fun j hj=>by rw[h n j (by omega) hj,cN (N:=fun i k=>N i (skip j k)) fun i k hi hk=>h i _ (by omega) (Qk hk)]
theorem vH {j k l:Nat} (h:j≤k):skip (k+1) (skip j l)=skip j (skip k l):=by
 unfold skip
 by_cases h1:l < j
 ·rw[if_pos h1,if_pos (show l < k by omega),if_pos (show l < k+1 by omega),if_pos h1]
 ·rw[if_neg h1]
  by_cases h2:l < k
  ·rw[if_pos h2,if_pos (show l+1 < k+1 by omega),if_neg h1]
  ·rw[if_neg h2,if_neg (show ¬l+1 < k+1 by omega),if_neg (show ¬l+1 < j by omega)]
theorem Ql (n m:Nat) (F:Nat→Nat→Rat):(rs n fun i=>rs m fun j=>F i j)=rs m fun j=>rs n fun i=>F i j:=by
 induction n with
 |zero=>simp only[rs];rw[dE]
 |succ n ih=>simp only[rs];rw[ih,← cZ]
theorem oJ (n:Nat) (F:Nat→Rat):rs (n+1) F=F 0+rs n fun i=>F (i+1):=by
 induction n with
 |zero=>simp only[rs];grind
 |succ n ih=>rw[show rs (n+1+1) F=rs (n+1) F+F (n+1) from rfl,ih];simp only[rs];grind
theorem wO (N:Nat) (X:Nat→Nat→Rat):(rs (N+1) fun j=>rs N fun k=>X j k)=(rs N fun k=>rs N fun j=>if k≤j then X (j+1) k else 0)+rs N fun j=>rs N fun k=>if j≤k then X j k else 0:=by
 have h1:(rs (N+1) fun j=>rs N fun k=>X j k)=(rs (N+1) fun j=>rs N fun k=>if k < j then X j k else 0)+rs (N+1) fun j=>rs N fun k=>if k < j then 0 else X j k:=by
  rw[← cZ]
  refine aK fun j _=>?_
  rw[← cZ]
  exact aK fun k _=>by split<;>grind
 have h2:(rs (N+1) fun j=>rs N fun k=>if k < j then X j k else 0)=rs N fun k=>rs N fun j=>if k≤j then X (j+1) k else 0:=by
  rw[Ql]
  refine aK fun k _=>?_
  rw[oJ,if_neg (by omega)]
  have:(rs N fun i=>if k < i+1 then X (i+1) k else 0)=rs N fun j=>if k≤j then X (j+1) k else 0:=aK fun i _=>by
   by_cases c:k≤i
   ·rw[if_pos (by omega),if_pos c]
   ·rw[if_neg (by omega),if_neg c]
  rw[this];grind
 have h3:(rs (N+1) fun j=>rs N fun k=>if k < j then 0 else X j k)=rs N fun j=>rs N fun k=>if j≤k then X j k else 0:=by
  show (rs N fun j=>rs N fun k=>if k < j then 0 else X j k)+(rs N fun k=>if k < N then 0 else X N k)=_
  have:(rs N fun k=>if k < N then 0 else X N k)=rs N fun _=>0:=aK fun k hk=>by rw[if_pos hk]
  rw[this,dE]
  have e2:(rs N fun j=>rs N fun k=>if k < j then 0 else X j k)=rs N fun j=>rs N fun k=>if j≤k then X j k else 0:=aK fun j _=>aK fun k _=>by
   by_cases c:j≤k
   ·rw[if_neg (by omega),if_pos c]
   ·rw[if_pos (by omega),if_neg c]
  rw[e2];grind
 rw[h1,h2,h3]
theorem Ci (N:Nat) (X Y:Nat→Nat→Rat) (h:∀j k,j≤k→Y (k+1) j=- X j k) (h':∀j k,j≤k→X (k+1) j=- Y j k):(rs (N+1) fun j=>rs N fun k=>Y j k)=- rs (N+1) fun j=>rs N fun k=>X j k:=by
 rw[wO,wO]
 have e1:(rs N fun k=>rs N fun j=>if k≤j then Y (j+1) k else 0)=- rs N fun j=>rs N fun k=>if j≤k then X j k else 0:=by
  rw[← iM]
  refine aK fun k _=>?_
  rw[← iM]
  exact aK fun j _=>by
   by_cases c:k≤j
   ·rw[if_pos c,if_pos c,h k j c]
   ·rw[if_neg c,if_neg c];grind
 have e2:(rs N fun k=>rs N fun j=>if k≤j then X (j+1) k else 0)=- rs N fun j=>rs N fun k=>if j≤k then Y j k else 0:=by
  rw[← iM]
  refine aK fun k _=>?_
  rw[← iM]
  exact aK fun j _=>by
   by_cases c:k≤j
   ·rw[if_pos c,if_pos c,h' k j c]
   ·rw[if_neg c,if_neg c];grind
 rw[e1,e2];grind
def cG (a:Nat) (M:Mat):Mat:=fun i=>if i=a then M (a+1) else if i=a+1 then M a else M i
theorem Ej (n:Nat) (M:Mat):det (n+2) M=rs (n+2) fun j=>rs (n+1) fun k=>(sgn (n+1+j)*M (n+1) j)*(sgn (n+k)*M n (skip j k)*det n fun i l=>M i (skip j (skip k l))):=by
 rw[fD]
 exact aK fun j _=>by rw[fD,← eU]
theorem nQ (a b:Nat):sgn (a+1+b)=- sgn (a+b):=by rw[show a+1+b=a+b+1 by omega,tO]
theorem uV (n:Nat) (M:Mat):det (n+2) (cG n M)=- det (n+2) M:=by
 rw[Ej,Ej]
 refine Ci (n+1) _ _ (fun j k hjk=>?_) (fun j k hjk=>?_)
 ·show (sgn (n+1+(k+1))*cG n M (n+1) (k+1))*(sgn (n+j)*cG n M n (skip (k+1) j)*det n fun i l=>cG n M i (skip (k+1) (skip j l)))=- ((sgn (n+1+j)*M (n+1) j)*(sgn (n+k)*M n (skip j k)*det n fun i l=>M i (skip j (skip k l))))
  have a1:cG n M (n+1)=M n:=by unfold cG;rw[if_neg (by omega),if_pos rfl]
  have a2:cG n M n=M (n+1):=by unfold cG;rw[if_pos rfl]
  have a3:(det n fun i l=>cG n M i (skip (k+1) (skip j l)))=det n fun i l=>M i (skip j (skip k l)):=cN fun i l hi _=>by
   show cG n M i (skip (k+1) (skip j l))=M i (skip j (skip k l))
   rw[vH hjk]
   unfold cG
   rw[if_neg (by omega),if_neg (by omega)]
  have a4:skip (k+1) j=j:=by unfold skip;rw[if_pos (by omega)]
  have a5:skip j k=k+1:=by unfold skip;rw[if_neg (by omega)]
  rw[a1,a2,a3,a4,a5,nQ,nQ,show n+(k+1)=n+k+1 by omega,tO]
  generalize (det n fun i l=>M i (skip j (skip k l)))=dd
  generalize sgn (n+k)=s1
  generalize sgn (n+j)=s2
  grind
 ·show (sgn (n+1+(k+1))*M (n+1) (k+1))*(sgn (n+j)*M n (skip (k+1) j)*det n fun i l=>M i (skip (k+1) (skip j l)))=- ((sgn (n+1+j)*cG n M (n+1) j)*(sgn (n+k)*cG n M n (skip j k)*det n fun i l=>cG n M i (skip j (skip k l))))
  have a1:cG n M (n+1)=M n:=by unfold cG;rw[if_neg (by omega),if_pos rfl]
  have a2:cG n M n=M (n+1):=by unfold cG;rw[if_pos rfl]
  have a3:(det n fun i l=>M i (skip (k+1) (skip j l)))=det n fun i l=>cG n M i (skip j (skip k l)):=cN fun i l hi _=>by
   show M i (skip (k+1) (skip j l))=cG n M i (skip j (skip k l))
   rw[vH hjk]
   unfold cG
   rw[if_neg (by omega),if_neg (by omega)]
  have a4:skip (k+1) j=j:=by unfold skip;rw[if_pos (by omega)]
  have a5:skip j k=k+1:=by unfold skip;rw[if_neg (by omega)]
  rw[a1,a2,a3,a4,a5,nQ,nQ,show n+(k+1)=n+k+1 by omega,tO]
  generalize (det n fun i l=>cG n M i (skip j (skip k l)))=dd
  generalize sgn (n+k)=s1
  generalize sgn (n+j)=s2
  grind
theorem kG:∀(n a:Nat) (M:Mat),a+1 < n→det n (cG a M)=- det n M
 |0,_,_,h=>absurd h (by omega)
 |n+1,a,M,h=>by
  by_cases e:a+1=n
  ·subst e;exact uV a M
  ·rw[fD,fD,← iM]
   refine aK fun j hj=>?_
   have e1:cG a M n j=M n j:=by unfold cG;rw[if_neg (by omega),if_neg (by omega)]
   have e2:(det n fun i k=>cG a M i (skip j k))=- det n fun i k=>M i (skip j k):=by
    rw[← kG n a (fun i k=>M i (skip j k)) (by omega)]
    exact cN fun i k _ _=>by
     show cG a M i (skip j k)=cG a (fun i k=>M i (skip j k)) i k
     unfold cG
     split
     ·rfl
     ·split<;>rfl
   rw[e1,e2];grind
theorem uX:∀(t n:Nat) (M:Mat) (i:Nat),i+t+1=n→(∀j,M i j=M n j)→det (n+1) M=0
 |0,n,M,i,h,e=>by
  have hn:n=i+1:=by omega
  subst hn
  have s:=uV i M
  have c:det (i+2) (cG i M)=det (i+2) M:=cN fun k j _ _=>by
   unfold cG
   by_cases k1:k=i
   ·rw[if_pos k1,k1];exact(e j).symm
   ·rw[if_neg k1]
    by_cases k2:k=i+1
    ·rw[if_pos k2,k2];exact e j
    ·rw[if_neg k2]
  rw[c] at s
  grind
 |t+1,n,M,i,h,e=>by
  have s:=kG (n+1) i M (by omega)
  have z:=uX t n (cG i M) (i+1) (by omega) fun j=>by
   have a1:cG i M (i+1)=M i:=by unfold cG;rw[if_neg (by omega),if_pos rfl]
   have a2:cG i M n=M n:=by unfold cG;rw[if_neg (by omega),if_neg (by omega)]
   rw[a1,a2];exact e j
  rw[z] at s
  grind
def xR (n:Nat) (S:Mat) (x:Nat→Rat):Mat:=fun i=>if i=n then x else S i
def F (n:Nat) (S:Mat) (c:Nat→Nat) (x:Nat→Rat):Rat:=det (n+1) (xR n (fun i j=>S i (c j)) fun j=>x (c j))
theorem Hd (n:Nat) (S:Mat) (c:Nat→Nat) (x:Nat→Rat):F n S c x=rs (n+1) fun j=>sgn (n+j)*x (c j)*det n fun i k=>S i (c (skip j k)):=by
 unfold F
 rw[fD]
 refine aK fun j _=>?_
 have e1:xR n (fun i j=>S i (c j)) (fun j=>x (c j)) n j=x (c j):=by unfold xR;rw[if_pos rfl]
 rw[e1,cN fun i k hi _=>show xR n (fun i j=>S i (c j)) (fun j=>x (c j)) i (skip j k)=S i (c (skip j k)) by unfold xR;rw[if_neg (by omega)]]
theorem Xi (n:Nat) (S:Mat) (c:Nat→Nat) (x y:Nat→Rat) (l:Rat):F n S c (fun j=>x j+l*y j)=F n S c x+l*F n S c y:=by
 rw[Hd,Hd,Hd,← eU,← cZ]
 exact aK fun j _=>by grind
theorem Fd (n:Nat) (S:Mat) (c:Nat→Nat) {i:Nat} (h:i < n):F n S c (S i)=0:=by
 unfold F
 refine uX (n - i - 1) n _ i (by omega) fun j=>?_
 unfold xR
 rw[if_neg (by omega),if_pos rfl]
theorem yO (n:Nat) (S:Mat) (c:Nat→Nat) (x:Nat→Rat) (h:∀j,j < n→x (c j)=0):F n S c x=x (c n)*det n fun i j=>S i (c j):=by
 rw[Hd]
 show (rs n fun j=>sgn (n+j)*x (c j)*det n fun i k=>S i (c (skip j k)))+sgn (n+n)*x (c n)*(det n fun i k=>S i (c (skip n k)))=_
 have z:(rs n fun j=>sgn (n+j)*x (c j)*det n fun i k=>S i (c (skip j k)))=rs n fun _=>0:=aK fun j hj=>by rw[h j hj];grind
 have s:sgn (n+n)=1:=by unfold sgn;rw[if_pos (by omega)]
 have d:(det n fun i k=>S i (c (skip n k)))=det n fun i j=>S i (c j):=cN fun i k _ hk=>by show S i (c (skip n k))=_;unfold skip;rw[if_pos hk]
 rw[z,dE,s,d];grind
theorem Ab {n:Nat} {F:Nat→Rat} (h:∀i,i < n→∃z:Int,F i=(z:Rat)):∃z:Int,rs n F=(z:Rat):=by
 induction n with
 |zero=>exact⟨0,by simp[rs]⟩
 |succ n ih=>
  obtain⟨a,ha⟩:=ih fun i hi=>h i (by omega)
  obtain⟨b,hb⟩:=h n (by omega)
  exact⟨a+b,by simp only[rs];rw[ha,hb,Rat.intCast_add]⟩
theorem Hs (n:Nat):∃z:Int,sgn n=(z:Rat):=by
 unfold sgn
 split
 ·exact⟨1,by simp⟩
 ·exact⟨-1,by rw[Rat.intCast_neg];simp⟩
theorem qI {a b:Rat} (h:∃z:Int,a=(z:Rat)) (k:∃z:Int,b=(z:Rat)):∃z:Int,a*b=(z:Rat):=by
 obtain⟨x,rfl⟩:=h
 obtain⟨y,rfl⟩:=k
 exact⟨x*y,by rw[Rat.intCast_mul]⟩
theorem wS:∀{n:Nat} {M:Mat},(∀i j,∃z:Int,M i j=(z:Rat))→∃z:Int,det n M=(z:Rat)
 |0,_,_=>⟨1,by simp[det]⟩
 |n+1,M,h=>by
  rw[fD]
  exact Ab fun j _=>qI (qI (Hs _) (h n j)) (wS fun i k=>h i _)
theorem Pg {n:Nat} {S:Mat} {c:Nat→Nat} {x:Nat→Rat} (h:∀i j,∃z:Int,S i j=(z:Rat)) (hx:∀j,∃z:Int,x j=(z:Rat)):∃z:Int,F n S c x=(z:Rat):=by
 unfold F
 refine wS fun i j=>?_
 unfold xR
 split
 ·exact hx _
 ·exact h i _
def Lin (Φ:(Nat→Rat)→Rat):Prop:=∀x y l,Φ (fun j=>x j+l*y j)=Φ x+l*Φ y
theorem Lin.zero {Φ:(Nat→Rat)→Rat} (h:Lin Φ):Φ (fun _=>0)=0:=by
 have:=h (fun _=>0) (fun _=>0) 1
 have e:(fun j:Nat=>(fun _=>(0:Rat)) j+1*(fun _=>(0:Rat)) j)=fun _=>0:=by funext j;show (0:Rat)+1*0=0;grind
 rw[e] at this
 grind
theorem Lin.mul {Φ:(Nat→Rat)→Rat} (h:Lin Φ) (l:Rat) (y:Nat→Rat):Φ (fun j=>l*y j)=l*Φ y:=by
 have:=h (fun _=>0) y l
 have e:(fun j:Nat=>(fun _=>(0:Rat)) j+l*y j)=fun j=>l*y j:=by funext j;show (0:Rat)+l*y j=_;grind
 rw[e,h.zero] at this
 grind
theorem Lin.sum {Φ:(Nat→Rat)→Rat} (h:Lin Φ) (a:Nat→Rat) (Y:Nat→Nat→Rat):∀n,Φ (fun j=>rs n fun k=>a k*Y k j)=rs n fun k=>a k*Φ (Y k)
 |0=>h.zero
 |n+1=>by
  have:=h (fun j=>rs n fun k=>a k*Y k j) (Y n) (a n)
  simp only[rs]
  rw[this,Lin.sum h a Y n]
theorem Eu (n:Nat) (S:Mat) (c:Nat→Nat):Lin (F n S c):=fun x y l=>Xi n S c x y l
def Wh (x:Rat):Prop:=∃z:Int,x=(z:Rat)
theorem Wh.mul {a b:Rat} (h:Wh a) (k:Wh b):Wh (a*b):=qI h k
theorem Wh.neg {a:Rat} (h:Wh a):Wh (-a):=by obtain⟨z,rfl⟩:=h;exact⟨-z,by rw[Rat.intCast_neg]⟩
theorem Wh.sub {a b:Rat} (h:Wh a) (k:Wh b):Wh (a - b):=by obtain⟨x,rfl⟩:=h;obtain⟨y,rfl⟩:=k;exact⟨x - y,by rw[Rat.intCast_sub]⟩
theorem Wh.one:Wh 1:=⟨1,by simp⟩
theorem Wh.nil:Wh 0:=⟨0,by simp⟩
structure Bar (m:Nat) (A E:Mat) (r col:Nat) (d:Rat) (c:Nat→Nat):Prop where
 dne:d≠0
 rm:r≤m
 rc:r≤col
 clt:∀j,j < r→c j < col
 cinj:∀i j,i < r→j < r→c i=c j→i=j
 wA:∀i j,Wh (A i j)
 wE:∀i j,i < m→Wh (E i j)
 i2:∀k j,k < r→j < r→E k (c j)=if j=k then d else 0
 i3:∀i x,r≤i→i < m→x < col→E i x=0
 i4:∀i x,i < m→d*A i x=(rs r fun k=>A i (c k)*E k x)+if i < r then 0 else E i x
 i5:det r (fun i j=>A i (c j))=d
 i6:∀Φ,Lin Φ→(∀s,s < r→Φ (A s)=0)→∀k,k < r→Φ (E k)=0
 full:r=col→∀j,j < r→c j=j
theorem Bar.start {m:Nat} {A:Mat} (wA:∀i j,Wh (A i j)):Bar m A A 0 0 1 id where
 dne:=by grind
 rm:=by omega
 rc:=by omega
 clt:=fun j h=>absurd h (by omega)
 cinj:=fun i j h=>absurd h (by omega)
 wA:=wA
 wE:=fun i j _=>wA i j
 i2:=fun k j h=>absurd h (by omega)
 i3:=fun i x _ _ h=>absurd h (by omega)
 i4:=fun i x _=>by simp only[rs];rw[if_neg (by omega)];grind
 i5:=rfl
 i6:=fun Φ _ _ k h=>absurd h (by omega)
 full:=fun _ j h=>absurd h (by omega)
section
variable {m:Nat} {A E:Mat} {r col:Nat} {d:Rat} {c:Nat→Nat}
theorem Bar.skip (h:Bar m A E r col d c) (hz:∀i,r≤i→i < m→E i col=0):Bar m A E r (col+1) d c:=
 { h with
  rc:=by have:=h.rc;omega
  clt:=fun j hj=>by have:=h.clt j hj;omega
  i3:=fun i x hi hm hx=>by
   by_cases e:x=col
   ·rw[e];exact hz i hi hm
   ·exact h.i3 i x hi hm (by omega)
  full:=fun e=>by have:=h.rc;omega }
def sw (p r i:Nat):Nat:=if i=r then p else if i=p then r else i
theorem wI {p r i:Nat} (hp:r≤p) (hi:i < r):sw p r i=i:=by unfold sw;rw[if_neg (by omega),if_neg (by omega)]
theorem Ry {p r i:Nat} (hp:r≤p) (hi:r≤i):r≤sw p r i:=by unfold sw;split;exact hp;split<;>omega
theorem xG {p r i m:Nat} (hp:p < m) (hr:r < m) (hi:i < m):sw p r i < m:=by unfold sw;split;exact hp;split<;>omega
theorem Lz (p r i:Nat):sw p r (sw p r i)=i:=by
 unfold sw
 by_cases h1:i=r
 ·rw[if_pos h1]
  by_cases h2:p=r
  ·rw[if_pos h2];omega
  ·rw[if_neg h2,if_pos rfl];exact h1.symm
 ·rw[if_neg h1]
  by_cases h2:i=p
  ·rw[if_pos h2,if_pos rfl];exact h2.symm
  ·rw[if_neg h2,if_neg h1,if_neg h2]
theorem Bar.swap (h:Bar m A E r col d c) {p:Nat} (hp:r≤p) (hpm:p < m):Bar m (fun i=>A (sw p r i)) (fun i=>E (sw p r i)) r col d c:=
 { h with
  wA:=fun i j=>h.wA _ j
  wE:=fun i j hi=>h.wE _ j (xG hpm (by omega) hi)
  i2:=fun k j hk hj=>by
   show E (sw p r k) (c j)=_
   rw[wI hp hk];exact h.i2 k j hk hj
  i3:=fun i x hi hm hx=>h.i3 _ x (Ry hp hi) (xG hpm (by omega) hm) hx
  i4:=fun i x hm=>by
   have e:(rs r fun k=>A (sw p r i) (c k)*E (sw p r k) x)=rs r fun k=>A (sw p r i) (c k)*E k x:=aK fun k hk=>by rw[wI hp hk]
   show d*A (sw p r i) x=(rs r fun k=>A (sw p r i) (c k)*E (sw p r k) x)+_
   rw[e,h.i4 _ x (xG hpm (by omega) hm)]
   congr 1
   by_cases hi:i < r
   ·rw[wI hp hi,if_pos hi]
   ·have:=Ry hp (show r≤i by omega)
    rw[if_neg (by omega),if_neg hi]
  i5:=by
   rw[← h.i5]
   exact cN fun i j hi _=>by show A (sw p r i) (c j)=_;rw[wI hp hi]
  i6:=fun Φ hΦ hs k hk=>by
   show Φ (E (sw p r k))=0
   rw[wI hp hk]
   exact h.i6 Φ hΦ (fun s hs'=>by have:=hs s hs';rwa [wI hp hs'] at this) k hk }
def clr (E:Mat) (r col:Nat) (d:Rat):Mat:=fun k x=>if k=r then E r x else (E r col*E k x - E k col*E r x) / d
def c1 (c:Nat→Nat) (r col:Nat):Nat→Nat:=fun j=>if j=r then col else c j
theorem iJ (c:Nat→Nat) {r col j:Nat} (h:j < r):c1 c r col j=c j:=by unfold c1;rw[if_neg (by omega)]
theorem mF (c:Nat→Nat) (r col:Nat):c1 c r col r=col:=by unfold c1;rw[if_pos rfl]
theorem yB (E:Mat) (r col:Nat) (d:Rat):clr E r col d r=E r:=by funext x;unfold clr;rw[if_pos rfl]
theorem kR (E:Mat) {r col k:Nat} {d:Rat} (h:k≠r) (x:Nat):clr E r col d k x=(E r col*E k x - E k col*E r x) / d:=by unfold clr;rw[if_neg h]
theorem Bar.j2 (h:Bar m A E r col d c) (hr:r < m):∀k j,k < r+1→j < r+1→clr E r col d k (c1 c r col j)=if j=k then E r col else 0:=fun k j hk hj=>by
 have hd:=h.dne
 by_cases kr:k=r
 ·subst kr
  rw[yB]
  by_cases jr:j=k
  ·rw[if_pos jr,jr,mF]
  ·rw[if_neg jr,iJ c (by omega)]
   exact h.i3 k _ (Nat.le_refl _) hr (h.clt j (by omega))
 ·rw[kR E kr]
  by_cases jr:j=r
  ·subst jr
   rw[mF,if_neg (by omega)]
   grind
  ·rw[iJ c (by omega),h.i2 k j (by omega) (by omega),h.i3 r (c j) (Nat.le_refl _) hr (h.clt j (by omega))]
   by_cases e:j=k
   ·rw[if_pos e,if_pos e];grind
   ·rw[if_neg e,if_neg e];grind
theorem Bar.j4 (h:Bar m A E r col d c) (hr:r < m):∀i x,i < m→E r col*A i x=(rs (r+1) fun k=>A i (c1 c r col k)*clr E r col d k x)+if i < r+1 then 0 else clr E r col d i x:=fun i x hi=>by
 have hd:=h.dne
 have q:=h.i4 i x hi
 have q2:=h.i4 i col hi
 show _=(rs r fun k=>A i (c1 c r col k)*clr E r col d k x)+A i (c1 c r col r)*clr E r col d r x+_
 rw[mF,yB]
 have e:(rs r fun k=>A i (c1 c r col k)*clr E r col d k x)=(E r col / d)*(rs r fun k=>A i (c k)*E k x)+(-(E r x / d))*rs r fun k=>A i (c k)*E k col:=by
  rw[← eU,← eU,← cZ]
  exact aK fun k hk=>by rw[iJ c hk,kR E (by omega)];grind
 rw[e]
 generalize (rs r fun k=>A i (c k)*E k x)=s1 at q ⊢
 generalize (rs r fun k=>A i (c k)*E k col)=s2 at q2 ⊢
 by_cases h1:i < r
 ·rw[if_pos h1] at q q2
  rw[if_pos (by omega)]
  have:s1=d*A i x:=by grind
  have:s2=d*A i col:=by grind
  subst s1 s2
  grind
 ·rw[if_neg h1] at q q2
  have a1:s1=d*A i x - E i x:=by grind
  have a2:s2=d*A i col - E i col:=by grind
  subst a1 a2
  by_cases h2:i=r
  ·subst h2
   rw[if_pos (by omega)]
   grind
  ·rw[if_neg (by omega),kR E h2]
   grind
theorem Bar.j6 (h:Bar m A E r col d c) (hr:r < m):∀Φ,Lin Φ→(∀s,s < r+1→Φ (A s)=0)→∀k,k < r+1→Φ (clr E r col d k)=0:=fun Φ hΦ hs k hk=>by
 have hd:=h.dne
 have z:=h.i6 Φ hΦ fun s hs'=>hs s (by omega)
 have zr:Φ (E r)=0:=by
  have e:E r=fun x=>(fun x=>d*A r x) x+(-1)*(fun x=>rs r fun k=>A r (c k)*E k x) x:=by
   funext x
   have:=h.i4 r x hr
   rw[if_neg (by omega)] at this
   show E r x=d*A r x+(-1)*(rs r fun k=>A r (c k)*E k x)
   grind
  rw[e,hΦ,hΦ.mul,hΦ.sum,hs r (by omega)]
  have:(rs r fun k=>A r (c k)*Φ (E k))=rs r fun _=>0:=aK fun k hk=>by rw[z k hk];grind
  rw[this,dE];grind
 by_cases kr:k=r
 ·rw[kr,yB];exact zr
 ·have e:clr E r col d k=fun x=>(fun x=>(E r col / d)*E k x) x+(-(E k col / d))*E r x:=by
   funext x
   rw[kR E kr]
   show _=(E r col / d)*E k x+(-(E k col / d))*E r x
   grind
  rw[e,hΦ,hΦ.mul,z k (by omega),zr];grind
theorem Bar.j5 (h:Bar m A E r col d c) (hr:r < m):det (r+1) (fun i j=>A i (c1 c r col j))=E r col:=by
 have hd:=h.dne
 have e1:det (r+1) (fun i j=>A i (c1 c r col j))=F r A (c1 c r col) (A r):=by
  unfold F
  exact cN fun i j hi _=>by
   unfold xR
   by_cases e:i=r
   ·rw[if_pos e,e]
   ·rw[if_neg e]
 have hΦ:=Eu r A (c1 c r col)
 have z:=h.i6 _ hΦ fun s hs=>Fd r A (c1 c r col) hs
 have eA:A r=fun x=>(fun x=>(1 / d)*E r x) x+(1 / d)*(fun x=>rs r fun k=>A r (c k)*E k x) x:=by
  funext x
  have:=h.i4 r x hr
  rw[if_neg (by omega)] at this
  show A r x=(1 / d)*E r x+(1 / d)*(rs r fun k=>A r (c k)*E k x)
  grind
 have zs:(rs r fun k=>A r (c k)*F r A (c1 c r col) (E k))=0:=by
  have:(rs r fun k=>A r (c k)*F r A (c1 c r col) (E k))=rs r fun _=>0:=aK fun k hk=>by rw[z k hk];grind
  rw[this,dE]
 have fb:=yO r A (c1 c r col) (E r) fun j hj=>by rw[iJ c hj];exact h.i3 r _ (Nat.le_refl _) hr (h.clt j hj)
 have dd:(det r fun i j=>A i (c1 c r col j))=d:=by rw[← h.i5];exact cN fun i j _ hj=>by show A i (c1 c r col j)=_;rw[iJ c hj]
 rw[mF,dd] at fb
 rw[e1,eA,hΦ,hΦ.mul,hΦ.sum,zs,fb]
 grind
theorem Bar.wV (h:Bar m A E r col d c) (hr:r < m) (he:E r col≠0):∀i x,i < m→Wh (clr E r col d i x):=by
 have j2:=h.j2 hr
 have j4:=h.j4 hr
 have j5:=h.j5 hr
 have j6:=h.j6 hr
 have cin:∀i j,i < r+1→j < r+1→c1 c r col i=c1 c r col j→i=j:=fun i j hi hj e=>by
  by_cases a:i=r
  ·by_cases b:j=r
   ·omega
   ·rw[a,mF,iJ c (by omega)] at e
    have:=h.clt j (by omega)
    omega
  ·by_cases b:j=r
   ·rw[b,mF,iJ c (by omega)] at e
    have:=h.clt i (by omega)
    omega
   ·rw[iJ c (by omega),iJ c (by omega)] at e
    exact h.cinj i j (by omega) (by omega) e
 have top:∀k x,k < r+1→Wh (clr E r col d k x):=fun k x hk=>by
  by_cases hx:∃j,j < r+1∧x=c1 c r col j
  ·obtain⟨j,hj,rfl⟩:=hx
   rw[j2 k j hk hj]
   split
   ·exact h.wE r col hr
   ·exact Wh.nil
  ·let c2:Nat→Nat:=fun j=>if j=r+1 then x else c1 c r col j
   let u:Nat→Rat:=fun j=>if j=c1 c r col k then 1 else 0
   have hΦ:=Eu (r+1) A c2
   have z:=j6 _ hΦ (fun s hs=>Fd (r+1) A c2 hs) k hk
   have eu:u=fun y=>(fun y=>u y+(-(1 / E r col))*clr E r col d k y) y+(1 / E r col)*clr E r col d k y:=by
    funext y
    show u y=u y+(-(1 / E r col))*clr E r col d k y+(1 / E r col)*clr E r col d k y
    grind
   have fb:=yO (r+1) A c2 (fun y=>u y+(-(1 / E r col))*clr E r col d k y) fun j hj=>by
    have ec:c2 j=c1 c r col j:=by show (if j=r+1 then x else c1 c r col j)=_;rw[if_neg (by omega)]
    rw[ec]
    show u (c1 c r col j)+(-(1 / E r col))*clr E r col d k (c1 c r col j)=0
    rw[j2 k j hk hj]
    show (if c1 c r col j=c1 c r col k then (1:Rat) else 0)+_=0
    by_cases e:j=k
    ·rw[if_pos e,if_pos (by rw[e])];grind
    ·rw[if_neg e,if_neg (fun q=>e (cin j k hj hk q))];grind
   have dd:(det (r+1) fun i j=>A i (c2 j))=E r col:=by
    rw[← j5]
    exact cN fun i j _ hj=>by show A i (if j=r+1 then x else c1 c r col j)=_;rw[if_neg (by omega)]
   have ux:u x=0:=by show (if x=c1 c r col k then (1:Rat) else 0)=0;rw[if_neg (fun q=>hx ⟨k,hk,q⟩)]
   have cx:c2 (r+1)=x:=by show (if r+1=r+1 then x else _)=x;rw[if_pos rfl]
   rw[dd,cx] at fb
   have val:F (r+1) A c2 u=- clr E r col d k x:=by
    rw[eu,hΦ,z,fb]
    show (u x+(-(1 / E r col))*clr E r col d k x)*E r col+_=_
    rw[ux];grind
   have wh:Wh (F (r+1) A c2 u):=Pg h.wA fun j=>by
    show Wh (if j=c1 c r col k then (1:Rat) else 0)
    split
    ·exact Wh.one
    ·exact Wh.nil
   rw[val] at wh
   have:=wh.neg
   rwa [show - - clr E r col d k x=clr E r col d k x by grind] at this
 intro i x hi
 by_cases h1:i < r+1
 ·exact top i x h1
 ·have q:=j4 i x hi
  rw[if_neg h1] at q
  have e:clr E r col d i x=E r col*A i x - rs (r+1) fun k=>A i (c1 c r col k)*clr E r col d k x:=by grind
  rw[e]
  exact Wh.sub (Wh.mul (h.wE r col hr) (h.wA i x)) (Ab fun k hk=>Wh.mul (h.wA _ _) (top k x hk))
theorem Bar.clear (h:Bar m A E r col d c) (hr:r < m) (he:E r col≠0):Bar m A (clr E r col d) (r+1) (col+1) (E r col) (c1 c r col) where
 dne:=he
 rm:=hr
 rc:=by have:=h.rc;omega
 clt:=fun j hj=>by
  by_cases e:j=r
  ·rw[e,mF];omega
  ·rw[iJ c (by omega)]
   have:=h.clt j (by omega)
   omega
 cinj:=fun i j hi hj e=>by
  by_cases a:i=r
  ·by_cases b:j=r
   ·omega
   ·rw[a,mF,iJ c (by omega)] at e
    have:=h.clt j (by omega)
    omega
  ·by_cases b:j=r
   ·rw[b,mF,iJ c (by omega)] at e
    have:=h.clt i (by omega)
    omega
   ·rw[iJ c (by omega),iJ c (by omega)] at e
    exact h.cinj i j (by omega) (by omega) e
 wA:=h.wA
 wE:=fun i j hi=>h.wV hr he i j hi
 i2:=h.j2 hr
 i3:=fun i x hi hm hx=>by
  rw[kR E (by omega)]
  by_cases e:x=col
  ·rw[e];grind
  ·rw[h.i3 i x (by omega) hm (by omega),h.i3 r x (Nat.le_refl _) hr (by omega)];grind
 i4:=h.j4 hr
 i5:=h.j5 hr
 i6:=h.j6 hr
 full:=fun e j hj=>by
  by_cases a:j=r
  ·rw[a,mF];omega
  ·rw[iJ c (by omega)]
   exact h.full (by omega) j (by omega)
end
def ent (R:List (List Int)) (i x:Nat):Int:=(R.getD i []).getD x 0
def at2 (R:List (List Int)):Mat:=fun i x=>((ent R i x:Int):Rat)
theorem Bar.congr {m:Nat} {A E E':Mat} {r col:Nat} {d:Rat} {c:Nat→Nat} (h:Bar m A E r col d c) (e:∀i,i < m→E i=E' i):Bar m A E' r col d c:=
 { h with
  wE:=fun i j hi=>by rw[← e i hi];exact h.wE i j hi
  i2:=fun k j hk hj=>by rw[← e k (by have:=h.rm;omega)];exact h.i2 k j hk hj
  i3:=fun i x hi hm hx=>by rw[← e i hm];exact h.i3 i x hi hm hx
  i4:=fun i x hm=>by
   rw[h.i4 i x hm]
   congr 1
   ·exact aK fun k hk=>by rw[e k (by have:=h.rm;omega)]
   ·rw[e i hm]
  i6:=fun Φ hΦ hs k hk=>by rw[← e k (by have:=h.rm;omega)];exact h.i6 Φ hΦ hs k hk }
theorem Mv (n:Nat):∀(t p r:Nat) (A:Mat),p=r+t+1→p < n→det n (fun i=>A (sw p r i))=- det n A
 |0,p,r,A,h,hp=>by
  subst h
  rw[← kG n r A (by omega)]
  exact cN fun i j _ _=>by
   show A (sw (r+0+1) r i) j=cG r A i j
   unfold sw cG
   by_cases h1:i=r
   ·rw[if_pos h1,if_pos h1]
   ·rw[if_neg h1,if_neg h1]
    by_cases h2:i=r+1
    ·rw[if_pos (by omega),if_pos h2]
    ·rw[if_neg (by omega),if_neg h2]
 |t+1,p,r,A,h,hp=>by
  have ih:=Mv n t (r+t+1) r (cG (r+t+1) A) rfl (by omega)
  have s1:=kG n (r+t+1) A (by omega)
  have s2:=kG n (r+t+1) (fun i=>cG (r+t+1) A (sw (r+t+1) r i)) (by omega)
  have e:det n (fun i=>A (sw p r i))=det n (cG (r+t+1) (fun i=>cG (r+t+1) A (sw (r+t+1) r i))):=cN fun i j _ _=>by
   subst h
   show A (sw (r+(t+1)+1) r i) j=cG (r+t+1) (fun i=>cG (r+t+1) A (sw (r+t+1) r i)) i j
   by_cases h1:i=r
   ·have a1:sw (r+(t+1)+1) r i=r+t+1+1:=by unfold sw;rw[if_pos h1];omega
    have a2:sw (r+t+1) r i=r+t+1:=by unfold sw;rw[if_pos h1]
    rw[a1]
    unfold cG
    rw[if_neg (by omega),if_neg (by omega)]
    dsimp only
    rw[a2,if_pos rfl]
   ·by_cases h2:i=r+t+1+1
    ·have a1:sw (r+(t+1)+1) r i=r:=by unfold sw;rw[if_neg h1,if_pos (by omega)]
     have a2:sw (r+t+1) r (r+t+1)=r:=by unfold sw;rw[if_neg (by omega),if_pos rfl]
     rw[a1]
     unfold cG
     rw[if_neg (by omega),if_pos h2]
     dsimp only
     rw[a2,if_neg (by omega),if_neg (by omega)]
    ·have a1:sw (r+(t+1)+1) r i=i:=by unfold sw;rw[if_neg h1,if_neg (by omega)]
     rw[a1]
     by_cases h3:i=r+t+1
     ·have a2:sw (r+t+1) r (r+t+1+1)=r+t+1+1:=by unfold sw;rw[if_neg (by omega),if_neg (by omega)]
      unfold cG
      rw[if_pos h3]
      dsimp only
      rw[a2,if_neg (by omega),if_pos rfl,h3]
     ·have a2:sw (r+t+1) r i=i:=by unfold sw;rw[if_neg h1,if_neg h3]
      unfold cG
      rw[if_neg h3,if_neg h2]
      dsimp only
      rw[a2,if_neg h3,if_neg h2]
  rw[e,s2,ih,s1];grind
def eZ (R:List (List Int)) (p r:Nat):List (List Int):=(R.set p (R.getD r [])).set r (R.getD p [])
theorem Vd (R:List (List Int)) (p r:Nat):(eZ R p r).length=R.length:=by unfold eZ;simp
theorem yC {R:List (List Int)} {p r:Nat} (hp:p < R.length) (hr:r < R.length) (i:Nat):(eZ R p r).getD i []=R.getD (sw p r i) []:=by
 unfold eZ sw
 rw[List.getD_eq_getElem?_getD]
 by_cases h1:i=r
 ·rw[if_pos h1,h1,List.getElem?_set_self (by simpa using hr)];rfl
 ·rw[if_neg h1,List.getElem?_set_ne (Ne.symm h1)]
  by_cases h2:i=p
  ·rw[if_pos h2,h2,List.getElem?_set_self hp];rfl
  ·rw[if_neg h2,List.getElem?_set_ne (Ne.symm h2),List.getD_eq_getElem?_getD]
def gC (upper row:List Int) (col:Nat) (dv:Int):List Int:=List.zipWith (fun here above=>Int.fdiv (upper.getD col 0*here - row.getD col 0*above) dv) row upper
def cH (R:List (List Int)) (r col:Nat) (dv:Int):List (List Int):=R.mapIdx fun i row=>if i=r then row else gC (R.getD r []) row col dv
theorem Fp (R:List (List Int)) (r col:Nat) (dv:Int):(cH R r col dv).length=R.length:=by unfold cH;simp
theorem oE {R:List (List Int)} {i:Nat} (hi:i < R.length) (r col:Nat) (dv:Int):(cH R r col dv).getD i []=if i=r then R.getD i [] else gC (R.getD r []) (R.getD i []) col dv:=by
 unfold cH
 rw[List.getD_eq_getElem?_getD,List.getElem?_mapIdx,List.getElem?_eq_getElem hi]
 have:R.getD i []=R[i]:=by rw[List.getD_eq_getElem?_getD,List.getElem?_eq_getElem hi];rfl
 rw[this]
 rfl
structure SI (m w:Nat) (A0:Mat) (R:List (List Int)) (r col:Nat) (d sg:Int):Prop where
 len:R.length=m
 wid:∀i,i < m→(R.getD i []).length=w
 bar:∃A c,Bar m A (at2 R) r col (d:Rat) c∧det m A=(sg:Rat)*det m A0
 one:sg=1∨sg=-1
theorem SI.start {m w:Nat} {R:List (List Int)} (h:R.length=m) (hw:∀i,i < m→(R.getD i []).length=w):SI m w (at2 R) R 0 0 1 1:=
 ⟨h,hw,⟨at2 R,id,by
  have:=Bar.start (m:=m) (A:=at2 R) fun i j=>⟨_,rfl⟩
  simpa using this,by simp⟩,.inl rfl⟩
theorem SI.skip {m w:Nat} {A0:Mat} {R:List (List Int)} {r col:Nat} {d sg:Int} (h:SI m w A0 R r col d sg) (hz:∀i,r≤i→i < m→ent R i col=0):SI m w A0 R r (col+1) d sg:=by
 obtain⟨A,c,B,e⟩:=h.bar
 exact⟨h.len,h.wid,⟨A,c,B.skip fun i h1 h2=>by unfold at2;rw[hz i h1 h2];simp,e⟩,h.one⟩
theorem SI.swap {m w:Nat} {A0:Mat} {R:List (List Int)} {r col:Nat} {d sg:Int} (h:SI m w A0 R r col d sg) {p:Nat} (hp:r < p) (hm:p < m):SI m w A0 (eZ R p r) r col d (-sg):=by
 obtain⟨A,c,B,e⟩:=h.bar
 have hl:=h.len
 have gd:=fun i=>yC (R:=R) (p:=p) (r:=r) (by omega) (by omega) i
 refine⟨(Vd R p r).trans hl,fun i hi=>?_,⟨_,c,(B.swap (by omega) hm).congr fun i hi=>?_,?_⟩,?_⟩
 ·rw[gd i];exact h.wid _ (xG hm (by omega) hi)
 ·funext x
  show (((R.getD (sw p r i) []).getD x 0:Int):Rat)=((((eZ R p r).getD i []).getD x 0:Int):Rat)
  rw[gd i]
 ·rw[Mv m (p - r - 1) p r A (by omega) hm,e,Rat.intCast_neg];grind
 ·rcases h.one with z | z
  ·right;omega
  ·left;omega
theorem kN {l:List Int} {x:Nat} (h:x < l.length):l[x]?=some (l.getD x 0):=by rw[List.getD_eq_getElem?_getD,List.getElem?_eq_getElem h];rfl
theorem tY {l:List Int} {x:Nat} (h:l.length≤x):l.getD x 0=0:=by rw[List.getD_eq_getElem?_getD,List.getElem?_eq_none h];rfl
theorem El {m w:Nat} {A A0:Mat} {R:List (List Int)} {r col:Nat} {d sg:Int} (h:SI m w A0 R r col d sg) {c:Nat→Nat} (B:Bar m A (at2 R) r col (d:Rat) c) (hr:r < m) (hc:col < w) (he:ent R r col≠0) {i:Nat} (hi:i < m) (hir:i≠r) (x:Nat) :
  ∃z:Int,(gC (R.getD r []) (R.getD i []) col d).getD x 0=z∧(z:Rat)=clr (at2 R) r col (d:Rat) i x∧(x < w→ent R r col*ent R i x - ent R i col*ent R r x=d*z):=by
 have dn:d≠0:=fun z=>B.dne (by rw[z];simp)
 have dq:=B.dne
 have heq:at2 R r col≠0:=fun z=>he (Rat.intCast_inj.mp (by unfold at2 at z;simpa using z))
 have wi:=h.wid i hi
 have wr:=h.wid r hr
 by_cases hx:x < w
 ·obtain⟨z,hz⟩:=B.wV hr heq i x hi
  have e1:ent R r col*ent R i x - ent R i col*ent R r x=d*z:=by
   rw[kR _ hir] at hz
   have:((ent R r col*ent R i x - ent R i col*ent R r x:Int):Rat)=((d*z:Int):Rat):=by
    rw[Rat.intCast_sub,Rat.intCast_mul,Rat.intCast_mul,Rat.intCast_mul,← hz]
    show at2 R r col*at2 R i x - at2 R i col*at2 R r x=_
    grind
   exact Rat.intCast_inj.mp this
  refine⟨z,?_,hz.symm,fun _=>e1⟩
  unfold gC
  have g1:(R.getD i [])[x]?=some ((R.getD i []).getD x 0):=kN (by omega)
  have g2:(R.getD r [])[x]?=some ((R.getD r []).getD x 0):=kN (by omega)
  rw[List.getD_eq_getElem?_getD (l:=List.zipWith _ _ _),List.getElem?_zipWith,g1,g2]
  exact fB dn e1
 ·refine⟨0,?_,?_,fun h=>absurd h hx⟩
  ·unfold gC
   exact tY (by rw[List.length_zipWith,wi,wr];omega)
  ·rw[kR _ hir]
   have a1:at2 R i x=0:=by unfold at2 ent;rw[tY (by omega)];simp
   have a2:at2 R r x=0:=by unfold at2 ent;rw[tY (by omega)];simp
   rw[a1,a2];simp;grind
theorem SI.clear {m w:Nat} {A0:Mat} {R:List (List Int)} {r col:Nat} {d sg:Int} (h:SI m w A0 R r col d sg) (hr:r < m) (hc:col < w) (he:ent R r col≠0):SI m w A0 (cH R r col d) (r+1) (col+1) (ent R r col) sg:=by
 obtain⟨A,c,B,e⟩:=h.bar
 have hl:=h.len
 have heq:at2 R r col≠0:=fun z=>he (Rat.intCast_inj.mp (by unfold at2 at z;simpa using z))
 refine⟨(Fp R r col d).trans hl,fun i hi=>?_,⟨A,_,(B.clear hr heq).congr fun i hi=>?_,e⟩,h.one⟩
 ·rw[oE (by omega)]
  split
  ·exact h.wid i hi
  ·unfold gC
   rw[List.length_zipWith,h.wid i hi,h.wid r hr,Nat.min_self]
 ·funext x
  show clr (at2 R) r col (d:Rat) i x=((((cH R r col d).getD i []).getD x 0:Int):Rat)
  rw[oE (by omega)]
  by_cases hir:i=r
  ·rw[if_pos hir,hir,yB];rfl
  ·rw[if_neg hir]
   obtain⟨z,h1,h2,_⟩:=El h B hr hc he hi hir x
   rw[h1,h2]
def BdR (n:Nat) (R:List (List Int)):Prop:=∀i x,B n (ent R i x)
theorem SI.whole {m w:Nat} {A0:Mat} {R:List (List Int)} {d sg:Int} (h:SI m w A0 R m m d sg):det m A0=(sg:Rat)*(d:Rat):=by
 obtain⟨A,c,B,e⟩:=h.bar
 have f:=B.full rfl
 have i5:=B.i5
 have:det m (fun i j=>A i (c j))=det m A:=cN fun i j _ hj=>by show A i (c j)=A i j;rw[f j hj]
 rw[this,e] at i5
 rcases h.one with z | z
 ·rw[z] at i5 ⊢;simp at i5 ⊢;exact i5
 ·rw[z,Rat.intCast_neg] at i5 ⊢;simp at i5 ⊢;grind
theorem SI.lame {m w:Nat} {A0:Mat} {R:List (List Int)} {r:Nat} {d sg:Int} (h:SI m w A0 R r m d sg) (hr:r < m):det m A0=0:=by
 obtain⟨A,c,B,e⟩:=h.bar
 obtain⟨n,rfl⟩:∃n,m=n+1:=⟨m - 1,by omega⟩
 have dq:=B.dne
 have e1:det (n+1) A=F n A id (A n):=by
  unfold F
  exact cN fun i j hi _=>by
   unfold xR
   by_cases z:i=n
   ·rw[if_pos z,z];rfl
   ·rw[if_neg z];rfl
 have hΦ:=Eu n A id
 have z:=B.i6 _ hΦ fun s hs=>Fd n A id (by omega)
 have eA:A n=fun x=>(fun x=>(1 / (d:Rat))*at2 R n x) x+(1 / (d:Rat))*(fun x=>rs r fun k=>A n (c k)*at2 R k x) x:=by
  funext x
  have:=B.i4 n x (by omega)
  rw[if_neg (by omega)] at this
  show A n x=(1 / (d:Rat))*at2 R n x+(1 / (d:Rat))*(rs r fun k=>A n (c k)*at2 R k x)
  grind
 have zs:(rs r fun k=>A n (c k)*F n A id (at2 R k))=0:=by
  have:(rs r fun k=>A n (c k)*F n A id (at2 R k))=rs r fun _=>0:=aK fun k hk=>by rw[z k hk];grind
  rw[this,dE]
 have zn:F n A id (at2 R n)=0:=by
  rw[Hd]
  have:(rs (n+1) fun j=>sgn (n+j)*at2 R n (id j)*det n fun i k=>A i (id (Mq.skip j k)))=rs (n+1) fun _=>0:=aK fun j hj=>by
   rw[show at2 R n (id j)=0 from B.i3 n j (by omega) (by omega) hj];grind
  rw[this,dE]
 have:det (n+1) A=0:=by
  rw[e1,eA,hΦ,hΦ.mul,hΦ.sum,zs,zn];grind
 rw[this] at e
 rcases h.one with q | q
 ·rw[q] at e;simp at e;exact e.symm
 ·rw[q,Rat.intCast_neg] at e;simp at e;grind
def Gi:Nat→(Nat→Rat)→Rat
 |0,_=>1
 |n+1,b=>Gi n b*b n
theorem qE:∀(n:Nat) (b:Nat→Rat) (Q:Mat),det n (fun i j=>b i*Q i j)=Gi n b*det n Q
 |0,_,_=>by simp[det,Gi]
 |n+1,b,Q=>by
  rw[fD,fD,← eU]
  refine aK fun j _=>?_
  have:=qE n b (fun i k=>Q i (Mq.skip j k))
  show sgn (n+j)*(b n*Q n j)*det n (fun i k=>b i*Q i (Mq.skip j k))=Gi n b*b n*_
  rw[this];grind
end Mq
namespace Shp
open PySem L2
inductive Imx (D:Addr) (H:Hp):List V→List (List Int)→Prop where
 |nil:Imx D H [] []
 |cons {u:Addr} {r:List Int} {us:List V} {R:List (List Int)} (ne:u≠D) (h:H u=some (.lst (r.map V.int))) (q:Imx D H us R):Imx D H (.ref u :: us) (r :: R)
theorem Imx.same {D:Addr} {H H':Hp} (e:bC H H'):∀{xs:List V} {R:List (List Int)},Imx D H xs R→Imx D H' xs R
 |_,_,.nil=>.nil
 |_,_,.cons n h q=>.cons n (e _ _ h) (q.same e)
theorem Imx.upd {D:Addr} {H:Hp} {o:HO}:∀{xs:List V} {R:List (List Int)},Imx D H xs R→Imx D (L2.upd H D o) xs R
 |_,_,.nil=>.nil
 |_,_,.cons n h q=>.cons n (by rw[aW n];exact h) q.upd
theorem Imx.length {D:Addr} {H:Hp}:∀{xs:List V} {R:List (List Int)},Imx D H xs R→xs.length=R.length
 |_,_,.nil=>rfl
 |_,_,.cons _ _ q=>by rw[List.length_cons,List.length_cons,q.length]
theorem Imx.get {D:Addr} {H:Hp}:∀{xs:List V} {R:List (List Int)} {i:Nat} {x:V},Imx D H xs R→xs[i]?=some x→∃u r,x=.ref u∧R[i]?=some r∧u≠D∧H u=some (.lst (r.map V.int))
 |_,_,0,_,.cons n h q,e=>by simp at e;exact⟨_,_,e.symm,rfl,n,h⟩
 |_,_,i+1,_,.cons n h q,e=>by simp at e;exact q.get e
theorem Imx.at {D:Addr} {H:Hp} {xs:List V} {R:List (List Int)} (h:Imx D H xs R) {i:Nat} (hi:i < R.length):∃u,xs[i]?=some (.ref u)∧u≠D∧H u=some (.lst ((R.getD i []).map V.int)):=by
 have hx:i < xs.length:=by rw[h.length];exact hi
 obtain⟨u,r,e1,e2,e3,e4⟩:=h.get (List.getElem?_eq_getElem hx)
 refine⟨u,by rw[List.getElem?_eq_getElem hx,e1],e3,?_⟩
 rw[List.getD_eq_getElem?_getD,e2];exact e4
theorem Imx.app {D:Addr} {H:Hp}:∀{xs ys:List V} {R S:List (List Int)},Imx D H xs R→Imx D H ys S→Imx D H (xs++ys) (R++S)
 |_,_,_,_,.nil,k=>k
 |_,_,_,_,.cons n h q,k=>.cons n h (q.app k)
theorem Imx.set {D:Addr} {H:Hp} {u:Addr} {r:List Int} (hn:u≠D) (hu:H u=some (.lst (r.map V.int))):∀{xs:List V} {R:List (List Int)} (i:Nat),Imx D H xs R→Imx D H (xs.set i (.ref u)) (R.set i r)
 |_,_,_,.nil=>by simp;exact .nil
 |_,_,0,.cons n h q=>.cons hn hu q
 |_,_,i+1,.cons n h q=>.cons n h (q.set hn hu i)
theorem Imx.other {D D':Addr} {H:Hp} (hD:H D'=none):∀{xs:List V} {R:List (List Int)},Imx D H xs R→Imx D' H xs R
 |_,_,.nil=>.nil
 |_,_,.cons n h q=>.cons (fun z=>by rw[z,hD] at h;cases h) h (q.other hD)
theorem jQ {l:List Int} {i:Nat} (h:i < l.length):(l.map V.int)[i]?=some (.int (l.getD i 0)):=by
 rw[List.getElem?_map,Mq.kN h];rfl
def Sd (K:PySem.W.Frag):Sp:=fun vs H Q _=>∃(a:Addr) (xs:List V) (ps:List Mq.Q2) (n:Nat),vs=[.ref a]∧SqL K H a xs∧Fqs K H xs ps∧Mq.Pos ps∧(∀p∈ps,Mq.Bd n p)∧ps.length≤100∧10+n+n*ps.length≤8000∧
 ∀t l H',bC H H'→H l=none→SqT K H' t [.ref l,.int (Mq.dL ps)]→H' l=some (.lst ((Mq.iw ps).map V.int))→Q (.ref t) H'
def Rs (K:PySem.W.Frag):Sp:=fun vs H Q _=>∃(l D:Addr) (zs:List V) (R:List (List Int)) (r c m w:Nat),vs=[.ref l,.int (r:Int),.int (c:Int)]∧SqL K H l zs∧Imx D H zs R∧R.length=m∧(∀i,i < m→(R.getD i []).length=w)∧c < w∧r≤m∧m≤100∧
 (∀p,r≤p→p < m→Mq.ent R p c≠0→Q (.int (p:Int)) H)∧((∀i,r≤i→i < m→Mq.ent R i c=0)→Q .non H)
def vY (K:PySem.W.Frag):Sp:=fun vs H Q _=>∃(u v:Addr) (row upper:List Int) (c n:Nat) (dv:Int),vs=[.ref u,.ref v,.int (c:Int),.int dv]∧SqL K H u (row.map V.int)∧SqL K H v (upper.map V.int)∧row.length=upper.length∧row.length≤100∧c < row.length∧dv≠0∧
 (∀i,Mq.B n (row.getD i 0))∧(∀i,Mq.B n (upper.getD i 0))∧Mq.B n dv∧n≤9000∧
 ∀l H',bC H H'→H l=none→H' l=some (.lst ((Mq.gC upper row c dv).map V.int))→Q (.ref l) H'
def vP (K:PySem.W.Frag):Sp:=fun vs H Q _=>∃(l D:Addr) (zs:List V) (R:List (List Int)) (r c m w n:Nat) (dv:Int),vs=[.ref l,.int (r:Int),.int (c:Int),.int dv]∧SqL K H l zs∧Imx D H zs R∧R.length=m∧(∀i,i < m→(R.getD i []).length=w)∧c < w∧w≤100∧r < m∧m≤100∧dv≠0∧Mq.BdR n R∧Mq.B n dv∧n≤9000∧
 ∀l' zs' H',bC H H'→H l'=none→H' l'=some (.lst zs')→Imx l' H' zs' (Mq.cH R r c dv)→Q (.ref l') H'
def Jq (l:Addr) (rank:Nat) (pivot sign:Int):HO:=.dK (iS [] [(.inr "rows",.ref l),(.inr "rank",.int (rank:Int)),(.inr "pivot",.int pivot),(.inr "sign",.int sign)])
def wgt (X:List (List Mq.Q2)):Rat:=Mq.det X.length fun i j=>Mq.val ((X.getD i []).getD j Mq.z0)
theorem Bc {H:Hp} {d l:Addr} {rank:Nat} {pivot sign:Int} (h:H d=some (Jq l rank pivot sign)):jC H d (.str "rows") (some (.ref l))∧jC H d (.str "rank") (some (.int (rank:Int)))∧jC H d (.str "pivot") (some (.int pivot))∧jC H d (.str "sign") (some (.int sign)):=by
 refine⟨?_,?_,?_,?_⟩
 ·exact jC.k (k:=(Sum.inr "rows":Key)) h
 ·exact jC.k (k:=(Sum.inr "rank":Key)) h
 ·exact jC.k (k:=(Sum.inr "pivot":Key)) h
 ·exact jC.k (k:=(Sum.inr "sign":Key)) h
def qU (X:List (List Mq.Q2)):Int:=X.foldl (fun b row=>b*Mq.dL row) 1
theorem wC {X:List (List Mq.Q2)} {i:Nat} {row:List Mq.Q2} (h:X[i]?=some row):qU (X.take (i+1))=qU (X.take i)*Mq.dL row:=by
 unfold qU;rw[List.take_add_one,h,List.foldl_append];rfl
theorem pY (X:List (List Mq.Q2)):∀i,i≤X.length→((qU (X.take i):Int):Rat)=Mq.Gi i fun k=>((Mq.dL (X.getD k []):Int):Rat)
 |0,_=>by simp[qU,Mq.Gi]
 |i+1,h=>by
  have e:X[i]?=some (X.getD i []):=by rw[List.getD_eq_getElem?_getD,List.getElem?_eq_getElem (by omega)];rfl
  rw[wC e,Rat.intCast_mul,pY X i (by omega)];rfl
theorem yV {X:List (List Mq.Q2)} (hX:Mq.fA X):∀i,i≤X.length→1≤qU (X.take i)
 |0,_=>by show (1:Int)≤1;omega
 |i+1,h=>by
  have e:X[i]?=some (X.getD i []):=by rw[List.getD_eq_getElem?_getD,List.getElem?_eq_getElem (by omega)];rfl
  rw[wC e]
  have h1:=yV hX i (by omega)
  have h2:=Mq.rK (hX _ (List.mem_of_getElem? e))
  have:=Int.mul_pos (show 0 < qU (X.take i) by omega) (show 0 < Mq.dL (X.getD i []) by omega)
  omega
theorem Ka {row:List Mq.Q2} (hp:Mq.Pos row) {j:Nat} (hj:j < row.length):(((Mq.iw row).getD j 0:Int):Rat)=((Mq.dL row:Int):Rat)*Mq.val (row.getD j Mq.z0):=by
 have ej:row[j]?=some (row.getD j Mq.z0):=by rw[List.getD_eq_getElem?_getD,List.getElem?_eq_getElem hj];rfl
 have mem:row.getD j Mq.z0∈row:=List.mem_of_getElem? ej
 obtain⟨k,hk⟩:=Mq.zX hp _ mem
 have e2:(Mq.iw row).getD j 0=Mq.As (Mq.dL row) (row.getD j Mq.z0):=by
  unfold Mq.iw
  rw[List.getD_eq_getElem?_getD,List.getElem?_map,ej];rfl
 rw[e2,Mq.Np (hp _ mem) hk];grind
theorem rQ (row:List Mq.Q2):(Mq.iw row).length=row.length:=by unfold Mq.iw;simp
end Shp
set_option maxHeartbeats 1000000
namespace Mq
theorem kO (m a:Nat) (v:Rat) (h:a < m):(rs m fun i=>if i=a then v else 0)=v:=by
 induction m with
 |zero=>omega
 |succ m ih=>
  simp only[rs]
  by_cases e:m=a
  ·subst e
   rw[if_pos rfl]
   have:(rs m fun i=>if i=m then v else 0)=rs m fun _=>0:=aK fun i hi=>by rw[if_neg (by omega)]
   rw[this,dE];grind
  ·rw[if_neg e,ih (by omega)];grind
theorem Wm (m p r:Nat) (hp:p < m) (hr:r < m) (F:Nat→Rat):(rs m fun i=>F (sw p r i))=rs m F:=by
 by_cases e:p=r
 ·subst e
  exact aK fun i _=>by
   congr 1
   unfold sw
   by_cases h:i=p
   ·rw[if_pos h,h]
   ·rw[if_neg h,if_neg h]
 have:(rs m fun i=>F (sw p r i))=rs m fun i=>F i+((if i=r then F p - F r else 0)+(if i=p then F r - F p else 0)):=aK fun i _=>by
  unfold sw
  by_cases h1:i=r
  ·rw[if_pos h1,if_pos h1,if_neg (by omega),h1];grind
  ·rw[if_neg h1,if_neg h1]
   by_cases h2:i=p
   ·rw[if_pos h2,if_pos h2,h2];grind
   ·rw[if_neg h2,if_neg h2];grind
 rw[this,cZ,cZ,kO m r _ hr,kO m p _ hp];grind
structure LI (m:Nat) (Aq:Mat) (R:List (List Int)):Prop where
 lin:∀i x,i < m→x < m→at2 R i x=rs m fun k=>at2 R i (m+k)*Aq k x
 ind:∀lam:Nat→Rat,(∀j,j < m→(rs m fun i=>lam i*at2 R i (m+j))=0)→∀i,i < m→lam i=0
theorem oR {R:List (List Int)} {p r:Nat} (hp:p < R.length) (hr:r < R.length) (i x:Nat):at2 (eZ R p r) i x=at2 R (sw p r i) x:=by
 show ((((eZ R p r).getD i []).getD x 0:Int):Rat)=_
 rw[yC hp hr];rfl
theorem LI.swap {m:Nat} {Aq:Mat} {R:List (List Int)} (h:LI m Aq R) (hl:R.length=m) {p r:Nat} (hp:p < m) (hr:r < m):LI m Aq (eZ R p r) where
 lin:=fun i x hi hx=>by
  rw[oR (by omega) (by omega),h.lin _ x (xG hp hr hi) hx]
  exact aK fun k _=>by rw[oR (by omega) (by omega)]
 ind:=fun lam hz i hi=>by
  have:=h.ind (fun i=>lam (sw p r i)) (fun j hj=>by
   rw[← hz j hj,← Wm m p r hp hr]
   exact aK fun i _=>by
    show lam (sw p r (sw p r i))*_=_
    rw[Lz,oR (by omega) (by omega)]) (sw p r i) (xG hp hr hi)
  have e:lam (sw p r (sw p r i))=0:=this
  rwa [Lz] at e
theorem rF {m w:Nat} {A0:Mat} {R:List (List Int)} {r col:Nat} {d sg:Int} (h:SI m w A0 R r col d sg) (hr:r < m) (hc:col < w) (he:ent R r col≠0) {i:Nat} (hi:i < m) (x:Nat) :
  at2 (cH R r col d) i x=if i=r then at2 R i x else (at2 R r col*at2 R i x - at2 R i col*at2 R r x) / (d:Rat):=by
 obtain⟨A,c,B,e⟩:=h.bar
 have hl:=h.len
 show ((((cH R r col d).getD i []).getD x 0:Int):Rat)=_
 rw[oE (by omega)]
 by_cases hir:i=r
 ·rw[if_pos hir,if_pos hir];rfl
 ·rw[if_neg hir,if_neg hir]
  obtain⟨z,h1,h2,_⟩:=El h B hr hc he hi hir x
  rw[h1,h2,kR _ hir]
theorem SI.dne {m w:Nat} {A0:Mat} {R:List (List Int)} {r col:Nat} {d sg:Int} (h:SI m w A0 R r col d sg):(d:Rat)≠0:=by
 obtain⟨A,c,B,e⟩:=h.bar
 exact B.dne
theorem LI.clear {m w:Nat} {Aq A0:Mat} {R:List (List Int)} {r col:Nat} {d sg:Int} (h:LI m Aq R) (s:SI m w A0 R r col d sg) (hr:r < m) (hc:col < w) (he:ent R r col≠0):LI m Aq (cH R r col d):=by
 have dn:=s.dne
 have hn:at2 R r col≠0:=fun z=>he (Rat.intCast_inj.mp (by unfold at2 at z;simpa using z))
 have cl:=fun (i:Nat) (hi:i < m) (x:Nat)=>rF s hr hc he hi x
 refine⟨fun i x hi hx=>?_,fun lam hz i hi=>?_⟩
 ·rw[cl i hi x]
  by_cases e:i=r
  ·rw[if_pos e,h.lin i x hi hx]
   exact aK fun k _=>by rw[cl i hi,if_pos e]
  ·rw[if_neg e,h.lin i x hi hx,h.lin r x hr hx]
   have:(rs m fun k=>at2 (cH R r col d) i (m+k)*Aq k x)=rs m fun k=>(at2 R r col / (d:Rat))*(at2 R i (m+k)*Aq k x)+(-(at2 R i col / (d:Rat)))*(at2 R r (m+k)*Aq k x):=aK fun k _=>by rw[cl i hi,if_neg e];grind
   rw[this,cZ,eU,eU];grind
 ·-- the factors of the rows as they were
  have key:=h.ind (fun i=>if i=r then lam r - (rs m fun k=>if k=r then 0 else lam k*(at2 R k col / (d:Rat))) else lam i*(at2 R r col / (d:Rat))) (fun j hj=>by
   have e0:=hz j hj
   have e1:(rs m fun i=>lam i*at2 (cH R r col d) i (m+j))=rs m fun i=>(if i=r then lam r*at2 R r (m+j) else 0)+((if i=r then 0 else lam i*(at2 R r col / (d:Rat))*at2 R i (m+j))+(-(at2 R r (m+j)))*(if i=r then 0 else lam i*(at2 R i col / (d:Rat)))):=aK fun i hi=>by
    rw[cl i hi]
    by_cases e:i=r
    ·rw[if_pos e,if_pos e,if_pos e,if_pos e,e];grind
    ·rw[if_neg e,if_neg e,if_neg e,if_neg e];grind
   rw[e1,cZ,cZ,eU,kO m r _ hr] at e0
   have e2:(rs m fun i=>(if i=r then lam r - (rs m fun k=>if k=r then 0 else lam k*(at2 R k col / (d:Rat))) else lam i*(at2 R r col / (d:Rat)))*at2 R i (m+j))=rs m fun i=>(if i=r then (lam r - (rs m fun k=>if k=r then 0 else lam k*(at2 R k col / (d:Rat))))*at2 R r (m+j) else 0)+(if i=r then 0 else lam i*(at2 R r col / (d:Rat))*at2 R i (m+j)):=aK fun i _=>by
    by_cases e:i=r
    ·rw[if_pos e,if_pos e,if_pos e,e];grind
    ·rw[if_neg e,if_neg e,if_neg e];grind
   rw[e2,cZ,kO m r _ hr]
   grind)
  have other:∀k,k < m→k≠r→lam k=0:=fun k hk e=>by
   have:=key k hk
   rw[if_neg e] at this
   have n2:at2 R r col / (d:Rat)≠0:=fun z=>hn (by grind)
   grind
  by_cases e:i=r
  ·have:=key r hr
   rw[if_pos rfl] at this
   have z:(rs m fun k=>if k=r then 0 else lam k*(at2 R k col / (d:Rat)))=rs m fun _=>0:=aK fun k hk=>by
    by_cases e:k=r
    ·rw[if_pos e]
    ·rw[if_neg e,other k hk e];grind
   rw[z,dE] at this
   rw[e];grind
  ·exact other i hi e
theorem LI.lame {m w:Nat} {Aq A0:Mat} {R:List (List Int)} {d sg:Int} {r:Nat} (h:LI m Aq R) (s:SI m w A0 R r m d sg) (hr:r < m):(∃k,k < m∧ent R (m - 1) (m+k)≠0)∧∀x,x < m→(rs m fun k=>at2 R (m - 1) (m+k)*Aq k x)=0:=by
 obtain⟨A,c,B,e⟩:=s.bar
 refine⟨Classical.byContradiction fun n=>?_,fun x hx=>?_⟩
 ·have all:∀k,k < m→ent R (m - 1) (m+k)=0:=fun k hk=>Classical.byContradiction fun z=>n ⟨k,hk,z⟩
  have:=h.ind (fun i=>if i=m - 1 then 1 else 0) (fun j hj=>by
   have:(rs m fun i=>(if i=m - 1 then (1:Rat) else 0)*at2 R i (m+j))=rs m fun _=>0:=aK fun i _=>by
    by_cases e:i=m - 1
    ·rw[if_pos e,e]
     have:at2 R (m - 1) (m+j)=0:=by unfold at2;rw[all j hj];simp
     rw[this];grind
    ·rw[if_neg e];grind
   rw[this,dE]) (m - 1) (by omega)
  rw[if_pos rfl] at this
  grind
 ·rw[← h.lin (m - 1) x (by omega) hx]
  exact B.i3 (m - 1) x (by omega) (by omega) hx
end Mq
set_option maxHeartbeats 2000000
namespace PySem
open Sem (wp)
section
variable {prog:Program} {w:World} {A:Around} {E:Value→Shared→Prop} {h:Heap} {g:Array GenState} {d:Drawn} {t:Nat} {os:OsState}
variable {nm q:Str} {C N f:Addr} {bs bm bmB:List Value} {hdct:Bool} {sn:List Str} {sub:List Value} {ab:Bool} {col:Option Bool} {dd:Option Addr} {k0 k1 k2 k3 k5:Option Value} {B Bn newId nid initId inN:String} {bmN:List Value}
abbrev Ty (h:Heap) (C:Addr) (rest:List Value):Heap:=(h.push { cls:=.type "tuple",data:=.seq rest.toArray }).push { cls:=.ref C,data:=.fields #[.ref h.objs.size,.none,.none,.none,.bool false,.none] }
end
end PySem
set_option maxHeartbeats 4000000
namespace Shp
open PySem L2
inductive Fmd (K:PySem.W.Frag) (H0:Hp) (D:Addr) (H:Hp):List V→List (List Mq.Q2)→Prop where
 |nil:Fmd K H0 D H [] []
 |cons {u:Addr} {xs:List V} {ps:List Mq.Q2} {us:List V} {X:List (List Mq.Q2)} (n0:H0 u=none) (ne:u≠D) (h:H u=some (.lst xs)) (f:Fqs K H xs ps) (q:Fmd K H0 D H us X):Fmd K H0 D H (.ref u :: us) (ps :: X)
theorem Fmd.same {K:PySem.W.Frag} {H0:Hp} {D:Addr} {H H':Hp} (e:bC H H'):∀{xs:List V} {X:List (List Mq.Q2)},Fmd K H0 D H xs X→Fmd K H0 D H' xs X
 |_,_,.nil=>.nil
 |_,_,.cons n0 n h f q=>.cons n0 n (e _ _ h) (f.same e) (q.same e)
theorem Fmd.length {K:PySem.W.Frag} {H0:Hp} {D:Addr} {H:Hp}:∀{xs:List V} {X:List (List Mq.Q2)},Fmd K H0 D H xs X→xs.length=X.length
 |_,_,.nil=>rfl
 |_,_,.cons _ _ _ _ q=>by rw[List.length_cons,List.length_cons,q.length]
def pL (X:List (List Mq.Q2)):Mq.Mat:=fun i j=>Mq.val ((X.getD i []).getD j Mq.z0)
def lB (m i:Nat) (row:List Mq.Q2):List Int:=Mq.iw row++(List.range m).map fun c=>if c=i then Mq.dL row else 0
def iZ (X:List (List Mq.Q2)):List (List Int):=X.mapIdx fun i row=>lB X.length i row
theorem Ny (X:List (List Mq.Q2)):(iZ X).length=X.length:=by unfold iZ;simp
theorem sQ {X:List (List Mq.Q2)} {i:Nat} (h:i < X.length):(iZ X).getD i []=lB X.length i (X.getD i []):=by
 unfold iZ
 rw[List.getD_eq_getElem?_getD,List.getElem?_mapIdx,List.getD_eq_getElem?_getD,List.getElem?_eq_getElem h];rfl
theorem uI {X:List (List Mq.Q2)} {i:Nat} (h:i < X.length):X[i]?=some (X.getD i []):=by rw[List.getD_eq_getElem?_getD,List.getElem?_eq_getElem h];rfl
theorem Al (m i:Nat) (row:List Mq.Q2):(lB m i row).length=row.length+m:=by unfold lB;simp[rQ]
theorem wK {X:List (List Mq.Q2)} (hX:Mq.fA X) (hw:∀row∈X,row.length=X.length) {i x:Nat} (hi:i < X.length) (hx:x < X.length):Mq.at2 (iZ X) i x=((Mq.dL (X.getD i []):Int):Rat)*pL X i x:=by
 have mem:=List.mem_of_getElem? (uI hi)
 show ((((iZ X).getD i []).getD x 0:Int):Rat)=_
 rw[sQ hi]
 unfold lB
 have l:=hw _ mem
 rw[List.getD_eq_getElem?_getD,List.getElem?_append_left (by rw[rQ];omega),← List.getD_eq_getElem?_getD]
 exact Ka (hX _ mem) (by omega)
theorem rS {X:List (List Mq.Q2)} (hw:∀row∈X,row.length=X.length) {i k:Nat} (hi:i < X.length) (hk:k < X.length):Mq.ent (iZ X) i (X.length+k)=if k=i then Mq.dL (X.getD i []) else 0:=by
 have mem:=List.mem_of_getElem? (uI hi)
 unfold Mq.ent
 rw[sQ hi]
 unfold lB
 have l:=hw _ mem
 rw[List.getD_eq_getElem?_getD,List.getElem?_append_right (by rw[rQ];omega),rQ,l,Nat.add_sub_cancel_left,List.getElem?_map,List.getElem?_range hk];rfl
theorem Po {X:List (List Mq.Q2)} (hX:Mq.fA X) (hw:∀row∈X,row.length=X.length):Mq.LI X.length (pL X) (iZ X) where
 lin:=fun i x hi hx=>by
  rw[wK hX hw hi hx]
  have:(Mq.rs X.length fun k=>Mq.at2 (iZ X) i (X.length+k)*pL X k x)=Mq.rs X.length fun k=>if k=i then ((Mq.dL (X.getD i []):Int):Rat)*pL X i x else 0:=Mq.aK fun k hk=>by
   show ((Mq.ent (iZ X) i (X.length+k):Int):Rat)*_=_
   rw[rS hw hi hk]
   by_cases e:k=i
   ·rw[if_pos e,if_pos e,e]
   ·rw[if_neg e,if_neg e];simp
  rw[this,Mq.kO _ _ _ hi]
 ind:=fun lam hz i hi=>by
  have e:=hz i hi
  have:(Mq.rs X.length fun j=>lam j*Mq.at2 (iZ X) j (X.length+i))=Mq.rs X.length fun j=>if j=i then lam i*((Mq.dL (X.getD i []):Int):Rat) else 0:=Mq.aK fun k hk=>by
   show _*((Mq.ent (iZ X) k (X.length+i):Int):Rat)=_
   rw[rS hw hk hi]
   by_cases e:k=i
   ·rw[if_pos e,if_pos e.symm,e]
   ·rw[if_neg e,if_neg (Ne.symm e)];simp
  rw[this,Mq.kO _ _ _ hi] at e
  have g:=Mq.rK (hX _ (List.mem_of_getElem? (uI hi)))
  have n:=Mq.dU (show Mq.dL (X.getD i [])≠0 by omega)
  grind
theorem Rh {X:List (List Mq.Q2)} {R:List (List Int)} (h:∀i j,i < X.length→j < X.length→Mq.at2 R i j=((Mq.dL (X.getD i []):Int):Rat)*pL X i j):Mq.det X.length (Mq.at2 R)=((qU X:Int):Rat)*wgt X:=by
 unfold wgt
 have hb:=pY X X.length (Nat.le_refl _)
 rw[List.take_length] at hb
 rw[hb,← Mq.qE]
 exact Mq.cN fun i j hi hj=>h i j hi hj
theorem Jm {X:List (List Mq.Q2)} {R R':List (List Int)} {w r:Nat} {d sg:Int} (hX:Mq.fA X) (hR:Mq.det X.length (Mq.at2 R)=((qU X:Int):Rat)*wgt X) (h:Mq.SI X.length w (Mq.at2 R) R' r X.length d sg):(r < X.length∧wgt X=0)∨(r=X.length∧wgt X≠0):=by
 have b1:=yV hX X.length (Nat.le_refl _)
 rw[List.take_length] at b1
 have bn:=Mq.dU (show qU X≠0 by omega)
 obtain⟨A,c,B,e⟩:=h.bar
 have rm:=B.rm
 have dn:=B.dne
 clear B
 by_cases hr:r < X.length
 ·left
  have e:=h.lame hr
  rw[hR] at e
  exact⟨hr,by grind⟩
 ·right
  have er:r=X.length:=by omega
  subst er
  refine⟨rfl,fun z=>?_⟩
  have e:=h.whole
  rw[hR,z] at e
  rcases h.one with q | q
  ·rw[q] at e;simp at e;grind
  ·rw[q,Rat.intCast_neg] at e;simp at e;grind
structure Stp (m w:Nat) (A0:Mq.Mat) (Pr:List (List Int)→Prop):Prop where
 sw:∀R r col d sg p,Mq.SI m w A0 R r col d sg→r < p→p < m→Pr R→Pr (Mq.eZ R p r)
 cl:∀R r col d sg,Mq.SI m w A0 R r col d sg→r < m→col < w→Mq.ent R r col≠0→Pr R→Pr (Mq.cH R r col d)
theorem Ve {m w:Nat} {A0 Aq:Mq.Mat}:Stp m w A0 (Mq.LI m Aq):=
 ⟨fun R r col d sg p s h1 h2 h=>h.swap s.len h2 (by omega),fun R r col d sg s h1 h2 h3 h=>h.clear s h1 h2 h3⟩
end Shp
set_option maxHeartbeats 2000000
set_option maxHeartbeats 4000000
namespace Mq
theorem Nk {row:List Q2} {j:Nat} (h:j < row.length):row[j]?=some (row.getD j z0):=by rw[List.getD_eq_getElem?_getD,List.getElem?_eq_getElem h];rfl
end Mq
namespace Shp
open PySem L2
theorem Fmd.get {K:PySem.W.Frag} {H0:Hp} {D:Addr} {H:Hp}:∀{xs:List V} {X:List (List Mq.Q2)} {i:Nat} {x:V},Fmd K H0 D H xs X→xs[i]?=some x→∃u ys ps,x=.ref u∧X[i]?=some ps∧H0 u=none∧u≠D∧H u=some (.lst ys)∧Fqs K H ys ps
 |_,_,0,_,.cons n0 n h f q,e=>by simp at e;exact⟨_,_,_,e.symm,rfl,n0,n,h,f⟩
 |_,_,i+1,_,.cons n0 n h f q,e=>by simp at e;exact q.get e
end Shp
set_option maxHeartbeats 1000000
namespace Mq
def KI (m:Nat) (A0:Mat) (R:List (List Int)):Prop:=∀Φ,Lin Φ→(∀k,k < m→Φ (at2 R k)=0)→∀i,i < m→Φ (A0 i)=0
theorem KI.swap {m:Nat} {A0:Mat} {R:List (List Int)} (h:KI m A0 R) (hl:R.length=m) {p r:Nat} (hp:p < m) (hr:r < m):KI m A0 (eZ R p r):=fun Φ lin hz=>by
 refine h Φ lin fun k hk=>?_
 have e:at2 R k=at2 (eZ R p r) (sw p r k):=by
  funext x
  rw[oR (by omega) (by omega),Lz]
 rw[e]
 exact hz _ (xG hp hr hk)
theorem KI.clear {m w:Nat} {A0 A1:Mat} {R:List (List Int)} {r col:Nat} {d sg:Int} (h:KI m A1 R) (s:SI m w A0 R r col d sg) (hr:r < m) (hc:col < w) (he:ent R r col≠0):KI m A1 (cH R r col d):=fun Φ lin hz=>by
 have dn:=s.dne
 have hn:at2 R r col≠0:=fun z=>he (Rat.intCast_inj.mp (by unfold at2 at z;simpa using z))
 have cl:=fun (i:Nat) (hi:i < m) (x:Nat)=>rF s hr hc he hi x
 have zr:Φ (at2 R r)=0:=by
  have e:at2 R r=at2 (cH R r col d) r:=by funext x;rw[cl r hr x,if_pos rfl]
  rw[e];exact hz r hr
 refine h Φ lin fun k hk=>?_
 by_cases e:k=r
 ·rw[e];exact zr
 ·have e2:at2 R k=fun x=>(fun x=>((d:Rat) / at2 R r col)*at2 (cH R r col d) k x) x+(at2 R k col / at2 R r col)*at2 R r x:=by
   funext x
   show _=((d:Rat) / at2 R r col)*at2 (cH R r col d) k x+_
   rw[cl k hk x,if_neg e]
   grind
  rw[e2,lin,lin.mul,hz k hk,zr];grind
theorem KI.whole {m w:Nat} {A0 A1:Mat} {R:List (List Int)} {d sg:Int} (h:KI m A1 R) (s:SI m w A0 R m m d sg) {i:Nat} (hi:i < m):(rs m fun k=>A1 i k*(at2 R k m / (d:Rat)))=A1 i m:=by
 obtain⟨A,c,B,e⟩:=s.bar
 have dn:=B.dne
 have:=h (fun f=>(rs m fun k=>f k*(at2 R k m / (d:Rat))) - f m) (fun x y l=>by
  have:(rs m fun k=>(x k+l*y k)*(at2 R k m / (d:Rat)))=(rs m fun k=>x k*(at2 R k m / (d:Rat))+l*(y k*(at2 R k m / (d:Rat)))):=aK fun k _=>by grind
  show (rs m fun k=>(x k+l*y k)*(at2 R k m / (d:Rat))) - (x m+l*y m)=((rs m fun k=>x k*(at2 R k m / (d:Rat))) - x m)+l*((rs m fun k=>y k*(at2 R k m / (d:Rat))) - y m)
  rw[this,cZ,eU];grind) (fun k hk=>by
  have:(rs m fun j=>at2 R k j*(at2 R j m / (d:Rat)))=rs m fun j=>if j=k then (d:Rat)*(at2 R k m / (d:Rat)) else 0:=aK fun j hj=>by
   have i2:=B.i2 k j hk hj
   rw[B.full rfl j hj] at i2
   rw[i2]
   by_cases z:j=k
   ·rw[if_pos z,if_pos z,z]
   ·rw[if_neg z,if_neg z];grind
  show (rs m fun j=>at2 R k j*(at2 R j m / (d:Rat))) - at2 R k m=0
  rw[this,kO m k _ hk];grind) i hi
 have e2:(rs m fun k=>A1 i k*(at2 R k m / (d:Rat))) - A1 i m=0:=this
 grind
end Mq
set_option maxHeartbeats 4000000
namespace Shp
open PySem L2
def kW (X:List (List Mq.Q2)) (qs:List Mq.Q2):List (List Mq.Q2):=List.zipWith (fun row q=>row++[q]) X qs
def gZ (X:List (List Mq.Q2)) (qs:List Mq.Q2):List (List Int):=(kW X qs).map Mq.iw
section
variable {X:List (List Mq.Q2)} {qs:List Mq.Q2}
theorem nX (hl:qs.length=X.length):(kW X qs).length=X.length:=by unfold kW;simp[hl]
theorem Ap (hl:qs.length=X.length):(gZ X qs).length=X.length:=by unfold gZ;rw[List.length_map,nX hl]
theorem nV (hl:qs.length=X.length) {i:Nat} (hi:i < X.length):(kW X qs).getD i []=X.getD i []++[qs.getD i Mq.z0]:=by
 unfold kW
 rw[List.getD_eq_getElem?_getD,List.getElem?_zipWith,uI hi,Mq.Nk (show i < qs.length by omega)];rfl
theorem tZ (hl:qs.length=X.length) {i:Nat} (hi:i < X.length):(gZ X qs).getD i []=Mq.iw (X.getD i []++[qs.getD i Mq.z0]):=by
 unfold gZ
 rw[List.getD_eq_getElem?_getD,List.getElem?_map,uI (X:=kW X qs) (by rw[nX hl];exact hi),nV hl hi];rfl
theorem rO (hX:Mq.fA X) (hq:Mq.Pos qs) (hl:qs.length=X.length) {i:Nat} (hi:i < X.length):Mq.Pos (X.getD i []++[qs.getD i Mq.z0]):=fun p hp=>by
 rcases List.mem_append.mp hp with z | z
 ·exact hX _ (List.mem_of_getElem? (uI hi)) p z
 ·have e:p=qs.getD i Mq.z0:=by simpa using z
  rw[e];exact Mq.Jx hq i
theorem Cg (hX:Mq.fA X) (hq:Mq.Pos qs) (hl:qs.length=X.length):Mq.fA (kW X qs):=fun row hr=>by
 obtain⟨i,hi,rfl⟩:=List.getElem_of_mem hr
 have hi':i < X.length:=by rw[nX hl] at hi;exact hi
 have e:=nV hl hi'
 rw[List.getD_eq_getElem?_getD,List.getElem?_eq_getElem hi] at e
 have e':(kW X qs)[i]=X.getD i []++[qs.getD i Mq.z0]:=e
 rw[e'];exact rO hX hq hl hi'
theorem tN (hX:Mq.fA X) (hq:Mq.Pos qs) (hl:qs.length=X.length) (hw:∀row∈X,row.length=X.length) {i x:Nat} (hi:i < X.length) (hx:x < X.length+1) :
  Mq.at2 (gZ X qs) i x=((Mq.dL ((kW X qs).getD i []):Int):Rat)*if x < X.length then pL X i x else Mq.val (qs.getD i Mq.z0):=by
 have l:=hw _ (List.mem_of_getElem? (uI hi))
 show ((((gZ X qs).getD i []).getD x 0:Int):Rat)=_
 rw[tZ hl hi,nV hl hi,Ka (rO hX hq hl hi) (by rw[List.length_append,l];simpa using hx)]
 congr 1
 by_cases h:x < X.length
 ·rw[if_pos h,List.getD_eq_getElem?_getD,List.getElem?_append_left (by rw[l];exact h),← List.getD_eq_getElem?_getD];rfl
 ·have ex:x=X.length:=by omega
  rw[if_neg h,List.getD_eq_getElem?_getD,List.getElem?_append_right (by rw[l];omega),l,ex,Nat.sub_self];rfl
theorem Oo (hX:Mq.fA X) (hq:Mq.Pos qs) (hl:qs.length=X.length) (hw:∀row∈X,row.length=X.length):Mq.det X.length (Mq.at2 (gZ X qs))=((qU (kW X qs):Int):Rat)*wgt X:=by
 unfold wgt
 have hb:=pY (kW X qs) (kW X qs).length (Nat.le_refl _)
 rw[List.take_length,nX hl] at hb
 rw[hb,← Mq.qE]
 refine Mq.cN fun i j hi hj=>?_
 rw[tN hX hq hl hw hi (by omega),if_pos hj];rfl
theorem Go {R R':List (List Int)} {w r:Nat} {d sg:Int} {f:Rat} (fn:f≠0) (hR:Mq.det X.length (Mq.at2 R)=f*wgt X) (h:Mq.SI X.length w (Mq.at2 R) R' r X.length d sg):(r < X.length∧wgt X=0)∨(r=X.length∧wgt X≠0):=by
 obtain⟨A,c,B,e⟩:=h.bar
 have rm:=B.rm
 have dn:=B.dne
 clear B
 by_cases hr:r < X.length
 ·left
  have e:=h.lame hr
  rw[hR] at e
  exact⟨hr,by grind⟩
 ·right
  have er:r=X.length:=by omega
  subst er
  refine⟨rfl,fun z=>?_⟩
  have e:=h.whole
  rw[hR,z] at e
  rcases h.one with q | q
  ·rw[q] at e;simp at e;grind
  ·rw[q,Rat.intCast_neg] at e;simp at e;grind
theorem Ln (hX:Mq.fA X) (hq:Mq.Pos qs) (hl:qs.length=X.length) (hw:∀row∈X,row.length=X.length) {R':List (List Int)} {w r:Nat} {d sg:Int} (h:Mq.SI X.length w (Mq.at2 (gZ X qs)) R' r X.length d sg):(r < X.length∧wgt X=0)∨(r=X.length∧wgt X≠0):=by
 have b1:=yV (Cg hX hq hl) (kW X qs).length (Nat.le_refl _)
 rw[List.take_length] at b1
 exact Go (Mq.dU (show qU (kW X qs)≠0 by omega)) (Oo hX hq hl hw) h
end
structure Slv (X:List (List Mq.Q2)) (qs ps:List Mq.Q2):Prop where
 len:ps.length=X.length
 low:Mq.iL ps
 bd:∀p∈ps,Mq.Bd 9000 p
 sum:∀i,i < X.length→(Mq.rs X.length fun j=>pL X i j*Mq.val (ps.getD j Mq.z0))=Mq.val (qs.getD i Mq.z0)
theorem Uz {X:List (List Mq.Q2)} {qs:List Mq.Q2} (hX:Mq.fA X) (hq:Mq.Pos qs) (hl:qs.length=X.length) (hw:∀row∈X,row.length=X.length) {R:List (List Int)} {w:Nat} {d sg:Int} (h:Mq.KI X.length (Mq.at2 (gZ X qs)) R) (s:Mq.SI X.length w (Mq.at2 (gZ X qs)) R X.length X.length d sg)
  {i:Nat} (hi:i < X.length):(Mq.rs X.length fun j=>pL X i j*(Mq.at2 R j X.length / (d:Rat)))=Mq.val (qs.getD i Mq.z0):=by
 have e:=h.whole s hi
 rw[tN hX hq hl hw hi (by omega),if_neg (by omega)] at e
 have e2:(Mq.rs X.length fun k=>Mq.at2 (gZ X qs) i k*(Mq.at2 R k X.length / (d:Rat)))=((Mq.dL ((kW X qs).getD i []):Int):Rat)*Mq.rs X.length fun k=>pL X i k*(Mq.at2 R k X.length / (d:Rat)):=by
  rw[← Mq.eU]
  refine Mq.aK fun k hk=>?_
  rw[tN hX hq hl hw hi (by omega),if_pos hk];grind
 rw[e2] at e
 have g:=Mq.rK (rO hX hq hl hi)
 have n:=Mq.dU (show Mq.dL ((kW X qs).getD i [])≠0 by rw[nV hl hi];omega)
 grind
end Shp
set_option maxHeartbeats 1000000
namespace Mq
def Wb (n:Nat) (x:Rat):Prop:=∃z:Int,x=(z:Rat)∧B n z
theorem Wb.mono {n m:Nat} {x:Rat} (h:Wb n x) (l:n≤m):Wb m x:=by obtain⟨z,e,b⟩:=h;exact⟨z,e,b.mono l⟩
theorem Wb.mul {n m:Nat} {x y:Rat} (h:Wb n x) (k:Wb m y):Wb (n+m) (x*y):=by
 obtain⟨a,rfl,b⟩:=h
 obtain⟨c,rfl,d⟩:=k
 exact⟨a*c,by rw[Rat.intCast_mul],b.mul d⟩
theorem Wb.sub {n:Nat} {x y:Rat} (h:Wb n x) (k:Wb n y):Wb (n+1) (x - y):=by
 obtain⟨a,rfl,b⟩:=h
 obtain⟨c,rfl,d⟩:=k
 exact⟨a - c,by rw[Rat.intCast_sub],b.sub d⟩
theorem Wb.neg {n:Nat} {x:Rat} (h:Wb n x):Wb n (-x):=by
 obtain⟨a,rfl,b⟩:=h
 exact⟨-a,by rw[Rat.intCast_neg],b.neg⟩
theorem Wb.zero (n:Nat):Wb n 0:=⟨0,by simp,Nat.two_pow_pos _⟩
theorem Wb.one:Wb 1 1:=⟨1,by simp,show (1:Nat) < 2 ^ 1 by decide⟩
theorem Wb.sgn {n:Nat} {x:Rat} (h:Wb n x) (k:Nat):Wb n (Mq.sgn k*x):=by
 unfold Mq.sgn
 split
 ·rw[show (1:Rat)*x=x by grind];exact h
 ·rw[show (-1:Rat)*x=-x by grind];exact h.neg
theorem Sg {n:Nat} {f:Nat→Rat}:∀K,(∀k,k < K→Wb n (f k))→∃z:Int,rs K f=(z:Rat)∧z.natAbs+K≤K*2 ^ n
 |0,_=>⟨0,by simp only[rs];simp,by simp⟩
 |K+1,h=>by
  obtain⟨z,e,b⟩:=Sg K fun k hk=>h k (by omega)
  obtain⟨y,e2,b2⟩:=h K (by omega)
  refine⟨z+y,by simp only[rs];rw[e,e2,Rat.intCast_add],?_⟩
  have:y.natAbs < 2 ^ n:=b2
  rw[Nat.succ_mul]
  omega
def SB (n m:Nat) (R:List (List Int)) (r col:Nat) (d:Int):Prop:=∃A c,Bar m A (at2 R) r col (d:Rat) c∧∀i x,i < m→Wb n (A i x)
theorem SB.start {n m:Nat} {R:List (List Int)} (hb:BdR n R):SB n m R 0 0 1:=
 ⟨at2 R,id,by
  have:=Bar.start (m:=m) (A:=at2 R) fun i j=>⟨_,rfl⟩
  simpa using this,fun i x _=>⟨ent R i x,rfl,hb i x⟩⟩
theorem SB.skip {n m:Nat} {R:List (List Int)} {r col:Nat} {d:Int} (h:SB n m R r col d) (hz:∀i,r≤i→i < m→ent R i col=0):SB n m R r (col+1) d:=by
 obtain⟨A,c,B,q⟩:=h
 exact⟨A,c,B.skip fun i h1 h2=>by unfold at2;rw[hz i h1 h2];simp,q⟩
theorem SB.swap {n m w:Nat} {A0:Mat} {R:List (List Int)} {r col:Nat} {d sg:Int} (h:SB n m R r col d) (s:SI m w A0 R r col d sg) {p:Nat} (hp:r < p) (hm:p < m):SB n m (eZ R p r) r col d:=by
 obtain⟨A,c,B,q⟩:=h
 have hl:=s.len
 refine⟨_,c,(B.swap (by omega) hm).congr fun i hi=>?_,fun i x hi=>q _ x (xG hm (by omega) hi)⟩
 funext x
 rw[oR (by omega) (by omega)]
theorem SB.clear {n m w:Nat} {A0:Mat} {R:List (List Int)} {r col:Nat} {d sg:Int} (h:SB n m R r col d) (s:SI m w A0 R r col d sg) (hr:r < m) (hc:col < w) (he:ent R r col≠0):SB n m (cH R r col d) (r+1) (col+1) (ent R r col):=by
 obtain⟨A,c,B,q⟩:=h
 have heq:at2 R r col≠0:=fun z=>he (Rat.intCast_inj.mp (by unfold at2 at z;simpa using z))
 refine⟨A,_,(B.clear hr heq).congr fun i hi=>?_,q⟩
 funext x
 rw[rF s hr hc he hi x]
 unfold clr
 by_cases e:i=r
 ·rw[if_pos e,if_pos e,e]
 ·rw[if_neg e,if_neg e]
end Mq
set_option maxHeartbeats 4000000
namespace Shp
open PySem L2
abbrev bq (n m:Nat):Nat:=(n+4)*(m+1)+7
end Shp
set_option maxHeartbeats 2000000
namespace L2
open PySem PySem.Spec PyProof.Rows
theorem aP.weak {P:Program} {w:World} {K:PySem.W.Frag} {mg:Str→Option Value} {base:Heap} {CX:CXT} {k:Nat} {f:Addr} {fd:FuncData} {ps:List Str} {sp sp':Sp} (F:aP P w K mg base CX k f fd ps sp) (h:∀vs H Q E,sp' vs H Q E→sp vs H Q E):aP P w K mg base CX k f fd ps sp':=
 ⟨fun vs H Q E q=>F.len vs H Q E (h _ _ _ _ q),fun A outer s H args us vs Q E hr he hb hv hs=>F.run A outer s H args us vs Q E hr he hb hv (h _ _ _ _ hs)⟩
abbrev cQ (m i j:Int):Prop:=0≤i∧i < m∧0≤j∧j < m
inductive Zv (K:PySem.W.Frag) (H:Hp):V→Option Mq.Q2→Prop where
 |fr {u:Addr} {p:Mq.Q2} (h:Fq K H u p) (l:Mq.Low p):Zv K H (.ref u) (some p)
 |ty {v:V} {t:Value} (h:TyQ K H v t) (n:PySem.W.kitOne K t (.type "tuple")=some false):Zv K H v none
 |len {u:Addr} {x y z:V} (h:SqT K H u [x,y,z]):Zv K H (.ref u) none
 |n0 {u:Addr} {x y:V} {t:Value} (h:SqT K H u [x,y]) (ty:mE K H x t) (n:rR t):Zv K H (.ref u) none
 |n1 {u:Addr} {i:Int} {y:V} {t:Value} (h:SqT K H u [.int i,y]) (ty:mE K H y t) (n:rR t):Zv K H (.ref u) none
 |fb {u:Addr} {p:Mq.Q2} (h:Fq K H u p) (c:p.2 < 1∨(1≤p.2∧Mq.gc p.1 p.2≠1)):Zv K H (.ref u) none
abbrev Bz (o:Option Mq.Q2):Prop:=∀p,o=some p→Mq.Bd 1000 p
def Nf (K:PySem.W.Frag):Sp:=fun vs H Q _=>∃(v:V) (o:Option Mq.Q2),vs=[v]∧Zv K H v o∧Q (.bl o.isSome) H
inductive gF (CK:Kd→Addr) (K:PySem.W.Frag) (H:Hp):List V→List RD→Prop where
 |nil:gF CK K H [] []
 |cons {x z:Addr} {k:Kd} {i j:Int} {p:Mq.Q2} {xs:List V} {ds:List RD} (h:Rw CK H x k (.int i) (.int j) (.ref z)) (f:Fq K H z p) (q:gF CK K H xs ds):gF CK K H (.ref x :: xs) ((k,i,j,p) :: ds)
section
variable {CK:Kd→Addr} {K:PySem.W.Frag} {H H':Hp}
theorem gF.same (e:bC H H'):∀{xs:List V} {ds:List RD},gF CK K H xs ds→gF CK K H' xs ds
 |_,_,.nil=>.nil
 |_,_,.cons h f q=>.cons (h.same e) (e.fq f) (gF.same e q)
theorem gF.length:∀{xs:List V} {ds:List RD},gF CK K H xs ds→xs.length=ds.length
 |_,_,.nil=>rfl
 |_,_,.cons _ _ q=>by simp[gF.length q]
theorem gF.app:∀{xs ys:List V} {ds es:List RD},gF CK K H xs ds→gF CK K H ys es→gF CK K H (xs++ys) (ds++es)
 |_,_,_,_,.nil,r=>r
 |_,_,_,_,.cons h f q,r=>.cons h f (gF.app q r)
theorem gF.at:∀{xs:List V} {ds:List RD} {q:Nat} {d:RD},gF CK K H xs ds→ds[q]?=some d→∃x z,xs[q]?=some (.ref x)∧Rw CK H x d.1 (.int d.2.1) (.int d.2.2.1) (.ref z)∧Fq K H z d.2.2.2
 |_,_,_,_,.nil,h=>by simp at h
 |_,_,0,_,.cons h f _,e=>by simp at e;subst e;exact⟨_,_,rfl,h,f⟩
 |_,_,i+1,_,.cons _ _ q,e=>by simpa using gF.at q (by simpa using e)
theorem gF.upd {l:Addr} {ys:List V} {o:HO} (hl:H l=some (.lst ys)):∀{xs:List V} {ds:List RD},gF CK K H xs ds→gF CK K (L2.upd H l o) xs ds
 |_,_,.nil=>.nil
 |_,_,.cons (h:=h) f q=>by
  obtain⟨dx,e⟩:=h
  exact .cons ⟨dx,by rw[aW (fY e hl (fun z=>by cases z))];exact e⟩ (f.upd hl) (gF.upd hl q)
end
def tH (CN:Addr) (K:PySem.W.Frag) (CK:Kd→Addr):Sp:=fun vs H Q _=>∃(n l:Addr) (m:Int) (ds:List RD),vs=[.ref n]∧cX CN K H n l m ds∧ds.length≤100∧∀a xs H',bC H H'→H a=none→H' a=some (.lst xs)→gF CK K H' xs ds→Q (.ref a) H'
end L2
set_option maxHeartbeats 1000000
namespace L2
open PySem PySem.Spec PyProof.Rows
abbrev RE:=RD × Mq.Q2
def flF (hp:List Mq.Q2) (d:RD):Mq.Q2:=Mq.minus (hp.getD d.2.1.toNat (0,1)) (hp.getD d.2.2.1.toNat (0,1))
def bY (k:Kd) (l:List RD):List RD:=l.filter fun d=>decide (d.1=k)
theorem Gp (k:Kd) (l:List RD) (e:RD):bY k (l++[e])=if e.1=k then bY k l++[e] else bY k l:=by
 unfold bY
 rw[List.filter_append]
 by_cases h:e.1=k
 ·rw[if_pos h];simp[h]
 ·rw[if_neg h];simp[h]
def Cb (K:PySem.W.Frag):Sp:=fun vs H Q _=>∃(a b:Addr) (p q:Mq.Q2) (n m:Nat),vs=[.ref a,.ref b]∧Fq K H a p∧Fq K H b q∧1≤p.2∧1≤q.2∧0 < q.1∧Mq.Bd n p∧Mq.Bd m q∧n+m+1≤9000∧mV H Q (Mq.pC p q)
section
variable {m n:Nat} {hp:List Mq.Q2} {d:RD} {e:RE}
theorem jD {ps:List Mq.Q2} {j:Nat} (h:j < ps.length):ps[j]?=some (ps.getD j (0,1)):=by rw[List.getD_eq_getElem?_getD,List.getElem?_eq_getElem h];rfl
end
def rzl (ps:List Mq.Q2) (j:Nat) (a:Mq.Q2):List Mq.Q2:=ps.set j (Mq.rV (ps.getD j (0,1)) a)
def iT (M:List (List Mq.Q2)) (i j:Nat):Mq.Q2:=(M.getD i []).getD j (0,1)
def rz (M:List (List Mq.Q2)) (i j:Nat) (a:Mq.Q2):List (List Mq.Q2):=M.set i (rzl (M.getD i []) j a)
structure MxB (M:List (List Mq.Q2)) (h w n:Nat):Prop where
 h:M.length=h
 w:∀ps∈M,ps.length=w
 l:∀ps∈M,∀p∈ps,Mq.Low p∧Mq.Bd n p
theorem MxB.mono {M:List (List Mq.Q2)} {h w n n':Nat} (b:MxB M h w n) (le:n≤n'):MxB M h w n':=⟨b.h,b.w,fun ps hp p hp'=>⟨(b.l ps hp p hp').1,(b.l ps hp p hp').2.mono le⟩⟩
theorem MxB.row {M:List (List Mq.Q2)} {h w n i:Nat} (b:MxB M h w n) (hi:i < h):M[i]?=some (M.getD i [])∧M.getD i []∈M∧(M.getD i []).length=w:=by
 have hi':i < M.length:=by rw[b.h];exact hi
 have e:M.getD i []=M[i]:=by rw[List.getD_eq_getElem?_getD,List.getElem?_eq_getElem hi'];rfl
 rw[e]
 exact⟨List.getElem?_eq_getElem hi',List.getElem_mem hi',b.w _ (List.getElem_mem hi')⟩
theorem MxB.at {M:List (List Mq.Q2)} {h w n i j:Nat} (b:MxB M h w n) (hi:i < h) (hj:j < w):(M.getD i [])[j]?=some (iT M i j)∧Mq.Low (iT M i j)∧Mq.Bd n (iT M i j):=by
 obtain⟨e,m,l⟩:=b.row hi
 have hj':j < (M.getD i []).length:=by rw[l];exact hj
 have:=jD hj'
 exact⟨this,b.l _ m _ (List.mem_of_getElem? this)⟩
theorem MxB.rz {M:List (List Mq.Q2)} {h w n k i j:Nat} {a:Mq.Q2} (b:MxB M h w n) (hi:i < h) (hj:j < w) (la:Mq.Low a) (ba:Mq.Bd k a):MxB (L2.rz M i j a) h w (n+k+1):=by
 obtain⟨e,m,l⟩:=b.row hi
 obtain⟨e2,l2,b2⟩:=b.at hi hj
 refine⟨by unfold L2.rz;rw[List.length_set];exact b.h,fun ps hp=>?_,fun ps hp p hp'=>?_⟩
 ·rcases List.mem_or_eq_of_mem_set hp with z | z
  ·exact b.w ps z
  ·rw[z];unfold rzl;rw[List.length_set];exact l
 ·rcases List.mem_or_eq_of_mem_set hp with z | z
  ·have:=b.l ps z p hp'
   exact⟨this.1,this.2.mono (by omega)⟩
  ·rw[z] at hp'
   unfold rzl at hp'
   rcases List.mem_or_eq_of_mem_set hp' with y | y
   ·have:=b.l _ m p y
    exact⟨this.1,this.2.mono (by omega)⟩
   ·rw[y]
    exact⟨Mq.zU l2.pos la.pos,Mq.Gb b2 ba l2.pos la.pos⟩
theorem yN {M:List (List Mq.Q2)} {h w n i j:Nat} {a:Mq.Q2} (b:MxB M h w n) (hi:i < h) (hj:j < w) (la:Mq.Low a) (x y:Nat):Mq.val (iT (L2.rz M i j a) x y)=Mq.val (iT M x y)+if i=x∧j=y then Mq.val a else 0:=by
 obtain⟨e,m,l⟩:=b.row hi
 obtain⟨e2,l2,b2⟩:=b.at hi hj
 have hl:i < M.length:=by rw[b.h];exact hi
 unfold iT L2.rz
 by_cases c:i=x
 ·subst c
  have e3:(M.set i (rzl (M.getD i []) j a)).getD i []=rzl (M.getD i []) j a:=by rw[List.getD_eq_getElem?_getD,List.getElem?_set,if_pos rfl,if_pos hl];rfl
  rw[e3]
  unfold rzl
  by_cases d:j=y
  ·subst d
   have e4:((M.getD i []).set j (Mq.rV ((M.getD i []).getD j (0,1)) a)).getD j (0,1)=Mq.rV ((M.getD i []).getD j (0,1)) a:=by rw[List.getD_eq_getElem?_getD,List.getElem?_set,if_pos rfl,if_pos (by rw[l];exact hj)];rfl
   rw[e4,if_pos ⟨rfl,rfl⟩]
   exact Mq.Ah l2.pos la.pos
  ·have e4:((M.getD i []).set j (Mq.rV ((M.getD i []).getD j (0,1)) a)).getD y (0,1)=(M.getD i []).getD y (0,1):=by rw[List.getD_eq_getElem?_getD,List.getElem?_set,if_neg d,← List.getD_eq_getElem?_getD]
   rw[e4,if_neg (fun z=>d z.2),Rat.add_zero]
 ·have e3:(M.set i (rzl (M.getD i []) j a)).getD x []=M.getD x []:=by rw[List.getD_eq_getElem?_getD,List.getElem?_set,if_neg c,← List.getD_eq_getElem?_getD]
  rw[e3,if_neg (fun z=>c z.1),Rat.add_zero]
structure LnB (R:List Mq.Q2) (w n:Nat):Prop where
 w:R.length=w
 l:∀p∈R,Mq.Low p∧Mq.Bd n p
theorem LnB.mono {R:List Mq.Q2} {w n n':Nat} (b:LnB R w n) (le:n≤n'):LnB R w n':=⟨b.w,fun p hp=>⟨(b.l p hp).1,(b.l p hp).2.mono le⟩⟩
theorem LnB.at {R:List Mq.Q2} {w n j:Nat} (b:LnB R w n) (hj:j < w):R[j]?=some (R.getD j (0,1))∧Mq.Low (R.getD j (0,1))∧Mq.Bd n (R.getD j (0,1)):=by
 have hj':j < R.length:=by rw[b.w];exact hj
 have:=jD hj'
 exact⟨this,b.l _ (List.mem_of_getElem? this)⟩
theorem LnB.set {R:List Mq.Q2} {w n j:Nat} {q:Mq.Q2} (b:LnB R w n) (lq:Mq.Low q) (bq:Mq.Bd n q):LnB (R.set j q) w n:=⟨by rw[List.length_set];exact b.w,fun p hp=>by
 rcases List.mem_or_eq_of_mem_set hp with z | z
 ·exact b.l p z
 ·rw[z];exact⟨lq,bq⟩⟩
theorem LnB.rz {R:List Mq.Q2} {w n k j:Nat} {a:Mq.Q2} (b:LnB R w n) (hj:j < w) (la:Mq.Low a) (ba:Mq.Bd k a):LnB (rzl R j a) w (n+k+1):=by
 obtain⟨_,l2,b2⟩:=b.at hj
 exact(b.mono (by omega)).set (Mq.zU l2.pos la.pos) (Mq.Gb b2 ba l2.pos la.pos)
theorem vW {R:List Mq.Q2} {j y:Nat} {q:Mq.Q2} (hj:j < R.length):(R.set j q).getD y (0,1)=if j=y then q else R.getD y (0,1):=by
 rw[List.getD_eq_getElem?_getD,List.getElem?_set]
 by_cases e:j=y
 ·rw[if_pos e,if_pos e,if_pos (by omega)];rfl
 ·rw[if_neg e,if_neg e,← List.getD_eq_getElem?_getD]
theorem Dw {R:List Mq.Q2} {w n j:Nat} {a:Mq.Q2} (b:LnB R w n) (hj:j < w) (la:Mq.Low a) (y:Nat):Mq.val ((rzl R j a).getD y (0,1))=Mq.val (R.getD y (0,1))+if j=y then Mq.val a else 0:=by
 obtain⟨_,l2,b2⟩:=b.at hj
 unfold rzl
 rw[vW (by rw[b.w];exact hj)]
 by_cases d:j=y
 ·subst d
  rw[if_pos rfl,if_pos rfl]
  exact Mq.Ah l2.pos la.pos
 ·rw[if_neg d,if_neg d,Rat.add_zero]
def SX (as:List Addr) (H H':Hp):Prop:=∀b o,H b=some o→b∉as→H' b=some o
theorem bC.sx {as:List Addr} {H H':Hp} (s:bC H H'):SX as H H':=fun b o e _=>s b o e
theorem SX.trans {as:List Addr} {H H1 H2:Hp} (a:SX as H H1) (b:SX as H1 H2):SX as H H2:=fun c o h n=>b c o (a c o h n) n
theorem SX.write {as:List Addr} {H H1:Hp} {l:Addr} {o:HO} (a:SX as H H1) (hl:l∈as):SX as H (upd H1 l o):=fun c u h n=>by rw[aW (fun z=>n (by rw[z];exact hl))];exact a c u h n
theorem SX.mono {as bs:List Addr} {H H':Hp} (a:SX as H H') (h:∀x∈as,x∈bs):SX bs H H':=fun c o e n=>a c o e fun z=>n (h c z)
theorem SX.same {as:List Addr} {H0 H H':Hp} (s:bC H0 H) (a:SX as H H') (h:∀x∈as,H0 x=none):bC H0 H':=fun c o e=>a c o (s c o e) fun z=>by rw[h c z] at e;cases e
def Pz (as:List Addr) (H:Hp):Prop:=∀a∈as,∃xs,H a=some (.lst xs)
theorem SX.seqT {K:PySem.W.Frag} {as:List Addr} {H H':Hp} (hl:Pz as H) (e:SX as H H') {a:Addr} {xs:List V} (h:SqT K H a xs):SqT K H' a xs:=by
 have nx:∀{o:HO},H a=some o→(∀ys,o≠.lst ys)→a∉as:=fun ho n z=>by
  obtain⟨ys,hy⟩:=hl a z
  rw[hy] at ho
  exact n ys (Option.some.inj ho).symm
 rcases h with (h | ⟨u,h⟩) | h
 ·exact .inl (.inl (e _ _ h (nx h fun ys z=>by cases z)))
 ·exact .inl (.inr ⟨u,e _ _ h (nx h fun ys z=>by cases z)⟩)
 ·exact .inr h
theorem SX.rw {CK:Kd→Addr} {as:List Addr} {H H':Hp} (hl:Pz as H) (e:SX as H H') {x:Addr} {k:Kd} {s g z:V} (h:Rw CK H x k s g z):Rw CK H' x k s g z:=by
 obtain⟨dx,q⟩:=h
 refine⟨dx,e _ _ q fun y=>?_⟩
 obtain⟨ys,hy⟩:=hl x y
 rw[hy] at q;cases q
theorem SX.fqs {K:PySem.W.Frag} {as:List Addr} {H H':Hp} (hl:Pz as H) (e:SX as H H'):∀{xs:List V} {ps:List Mq.Q2},Fqs K H xs ps→Fqs K H' xs ps
 |_,_,.nil=>.nil
 |_,_,.cons f q=>.cons (e.seqT hl f) (SX.fqs hl e q)
structure Mx (K:PySem.W.Frag) (H:Hp) (D:Addr) (as:List Addr) (M:List (List Mq.Q2)):Prop where
 d:H D=some (.lst (as.map V.ref))
 n:as.Nodup
 nd:D∉as
 la:as.length=M.length
 r:∀(i:Nat) (a:Addr) (ps:List Mq.Q2),as[i]?=some a→M[i]?=some ps→∃xs,H a=some (.lst xs)∧Fqs K H xs ps
theorem Mx.lsts {K:PySem.W.Frag} {H:Hp} {D:Addr} {as:List Addr} {M:List (List Mq.Q2)} (m:Mx K H D as M):Pz as H:=fun a ha=>by
 obtain⟨i,hi⟩:=List.getElem?_of_mem ha
 have il:=(List.getElem?_eq_some_iff.mp hi).1
 have il':i < M.length:=by rw[← m.la];exact il
 obtain⟨xs,h,_⟩:=m.r i a M[i] hi (List.getElem?_eq_getElem il')
 exact⟨xs,h⟩
theorem Mx.same {K:PySem.W.Frag} {H H':Hp} {D:Addr} {as:List Addr} {M:List (List Mq.Q2)} (s:bC H H') (m:Mx K H D as M):Mx K H' D as M:=⟨s _ _ m.d,m.n,m.nd,m.la,fun i a ps h1 h2=>by
 obtain⟨xs,h,f⟩:=m.r i a ps h1 h2
 exact⟨xs,s _ _ h,f.same s⟩⟩
theorem Mx.other {K:PySem.W.Frag} {H:Hp} {D l:Addr} {as:List Addr} {M:List (List Mq.Q2)} {ys:List V} {o:HO} (m:Mx K H D as M) (hl:H l=some (.lst ys)) (n1:l≠D) (n2:l∉as):Mx K (upd H l o) D as M:=⟨by rw[aW (Ne.symm n1)];exact m.d,m.n,m.nd,m.la,fun i a ps h1 h2=>by
 obtain⟨xs,h,f⟩:=m.r i a ps h1 h2
 exact⟨xs,by rw[aW (fun z=>n2 (by rw[← z];exact List.mem_of_getElem? h1))];exact h,f.upd hl⟩⟩
theorem Mx.set {K:PySem.W.Frag} {H H1:Hp} {D a v:Addr} {as:List Addr} {M:List (List Mq.Q2)} {i j:Nat} {ps:List Mq.Q2} {xs:List V} {q:Mq.Q2} (m:Mx K H D as M) (ha:as[i]?=some a) (hp:M[i]?=some ps) (hx:H a=some (.lst xs)) (hF:Fqs K H xs ps) (s:bC H H1) (fv:Fq K H1 v q):Mx K (upd H1 a (.lst (xs.set j (.ref v)))) D as (M.set i (ps.set j q))∧SX as H (upd H1 a (.lst (xs.set j (.ref v)))):=by
 have ma:=List.mem_of_getElem? ha
 have hx1:=s _ _ hx
 have il:=(List.getElem?_eq_some_iff.mp ha).1
 refine⟨⟨?_,m.n,m.nd,by rw[List.length_set];exact m.la,fun k b qs h1 h2=>?_⟩,s.sx.write ma⟩
 ·rw[aW (fun z=>m.nd (by rw[z];exact ma))];exact s _ _ m.d
 ·rw[List.getElem?_set] at h2
  by_cases c:i=k
  ·subst c
   rw[ha] at h1
   have h1:a=b:=Option.some.inj h1
   subst h1
   rw[if_pos rfl] at h2
   split at h2
   ·have h2:ps.set j q=qs:=Option.some.inj h2
    rw[← h2]
    exact⟨_,aC,(Fqs.set fv j (hF.same s)).upd hx1⟩
   ·cases h2
  ·rw[if_neg c] at h2
   obtain⟨ys,hy,fy⟩:=m.r k b qs h1 h2
   have nb:b≠a:=fun z=>by
    subst z
    have kl:=(List.getElem?_eq_some_iff.mp h1).1
    have e1:as[i]'il=b:=(List.getElem?_eq_some_iff.mp ha).2
    have e2:as[k]'kl=b:=(List.getElem?_eq_some_iff.mp h1).2
    exact c ((List.getElem_inj m.n).mp (e1.trans e2.symm))
   exact⟨ys,by rw[aW nb];exact s _ _ hy,(fy.same s).upd hx1⟩
def cA (k:Kd):Nat:=if k=.ho then 1 else 0
def en (M:List (List Mq.Q2)) (d:RD) (c:Nat) (a:Mq.Q2):List (List Mq.Q2):=rz (rz M d.2.1.toNat c a) d.2.2.1.toNat c (Mq.minus (0,1) a)
def dl (s g x:Nat):Rat:=(if s=x then 1 else 0) - (if g=x then 1 else 0)
def cM (d:RD) (h x y:Nat):Rat:=match d.1 with
 | .pc=>dl d.2.1.toNat d.2.2.1.toNat x*dl d.2.1.toNat d.2.2.1.toNat y*(1 / Mq.val d.2.2.2)
 | .pu=>0
 | .ho=>dl d.2.1.toNat d.2.2.1.toNat x*(if h=y then 1 else 0)+(if h=x then 1 else 0)*dl d.2.1.toNat d.2.2.1.toNat y
def cR (d:RD) (h x:Nat):Rat:=match d.1 with
 | .pc=>0
 | .pu=>- dl d.2.1.toNat d.2.2.1.toNat x*Mq.val d.2.2.2
 | .ho=>if h=x then Mq.val d.2.2.2 else 0
def eqM:Nat→List RD→Nat→Nat→Rat
 |_,[],_,_=>0
 |h,d :: ds,x,y=>cM d h x y+eqM (h+cA d.1) ds x y
def eqR:Nat→List RD→Nat→Rat
 |_,[],_=>0
 |h,d :: ds,x=>cR d h x+eqR (h+cA d.1) ds x
def bU (ds:List RD):Nat:=(bY .ho ds).length
theorem gX (ds:List RD) (d:RD):bU (ds++[d])=bU ds+cA d.1:=by
 unfold bU cA
 rw[Gp]
 split
 ·rw[List.length_append];rfl
 ·rfl
theorem fR (d:RD) (ds:List RD):bU (d :: ds)=cA d.1+bU ds:=by
 unfold bU cA bY
 by_cases h:d.1=.ho
 ·rw[List.filter_cons_of_pos (by exact decide_eq_true h),if_pos h,List.length_cons];omega
 ·rw[List.filter_cons_of_neg (by simp[h]),if_neg h];omega
theorem zA (d:RD) (x y:Nat):∀(ds:List RD) (h:Nat),eqM h (ds++[d]) x y=eqM h ds x y+cM d (h+bU ds) x y
 | [],h=>by show cM d h x y+0=0+cM d (h+0) x y;rw[Nat.add_zero];grind
 |e :: ds,h=>by
  show cM e h x y+eqM (h+cA e.1) (ds++[d]) x y=cM e h x y+eqM (h+cA e.1) ds x y+_
  rw[zA d x y ds,fR,Nat.add_assoc];grind
theorem zM (d:RD) (x:Nat):∀(ds:List RD) (h:Nat),eqR h (ds++[d]) x=eqR h ds x+cR d (h+bU ds) x
 | [],h=>by show cR d h x+0=0+cR d (h+0) x;rw[Nat.add_zero];grind
 |e :: ds,h=>by
  show cR e h x+eqR (h+cA e.1) (ds++[d]) x=cR e h x+eqR (h+cA e.1) ds x+_
  rw[zM d x ds,fR,Nat.add_assoc];grind
theorem gR:Mq.Low (1,1):=⟨by decide,by decide⟩
theorem kP {a:Mq.Q2} {k:Nat} (la:Mq.Low a) (ba:Mq.Bd k a):Mq.Low (Mq.minus (0,1) a)∧Mq.Bd (k+2) (Mq.minus (0,1) a)∧Mq.val (Mq.minus (0,1) a)=- Mq.val a:=by
 have h01:1≤((0,1):Mq.Q2).2:=by decide
 have b01:Mq.Bd 1 (0,1):=⟨show (0:Nat) < 2 ^ 1 by decide,show (1:Nat) < 2 ^ 1 by decide⟩
 refine⟨Mq.jE h01 la.pos,(Mq.zW b01 ba h01 la.pos).mono (by omega),?_⟩
 rw[Mq.lU h01 la.pos,Mq.mG];grind
theorem Be {M:List (List Mq.Q2)} {h w n k c:Nat} {d:RD} {a:Mq.Q2} (b:MxB M h w n) (pt:cQ (h:Int) d.2.1 d.2.2.1) (hc:c < w) (la:Mq.Low a) (ba:Mq.Bd k a):MxB (en M d c a) h w (n+2*k+4)∧∀x y,Mq.val (iT (en M d c a) x y)=Mq.val (iT M x y)+dl d.2.1.toNat d.2.2.1.toNat x*(if c=y then 1 else 0)*Mq.val a:=by
 obtain⟨i0,i1,j0,j1⟩:=pt
 obtain⟨ln,bn,vn⟩:=kP la ba
 have b1:=b.rz (i:=d.2.1.toNat) (by omega) hc la ba
 have b2:=b1.rz (i:=d.2.2.1.toNat) (by omega) hc ln bn
 refine⟨b2.mono (by omega),fun x y=>?_⟩
 unfold en
 rw[yN b1 (by omega) hc ln,yN b (by omega) hc la,vn]
 unfold dl
 by_cases c1:d.2.1.toNat=x<;>by_cases c2:d.2.2.1.toNat=x<;>by_cases c3:c=y<;>simp only[c1,c2,c3,true_and,and_true,false_and,and_false,and_self,if_true,if_false]<;>grind
def hM (M:List (List Mq.Q2)) (d:RD) (c:Nat):List (List Mq.Q2):=rz (rz (en M d c (1,1)) c d.2.1.toNat (1,1)) c d.2.2.1.toNat (Mq.minus (0,1) (1,1))
def pM (M:List (List Mq.Q2)) (d:RD):List (List Mq.Q2):=en (en M d d.2.1.toNat (Mq.pC (1,1) d.2.2.2)) d d.2.2.1.toNat (Mq.minus (0,1) (Mq.pC (1,1) d.2.2.2))
def pR (rs:List Mq.Q2) (d:RD):List Mq.Q2:=rzl (rzl rs d.2.1.toNat (Mq.minus (0,1) d.2.2.2)) d.2.2.1.toNat d.2.2.2
theorem gN:Mq.Bd 1 (1,1):=⟨show (1:Nat) < 2 ^ 1 by decide,show (1:Nat) < 2 ^ 1 by decide⟩
theorem h11:1≤((1,1):Mq.Q2).2:=by decide
theorem yZ {p:Mq.Q2} {k:Nat} (l:Mq.Low p) (h0:0 < p.1) (b:Mq.Bd k p):Mq.Low (Mq.pC (1,1) p)∧Mq.Bd (k+1) (Mq.pC (1,1) p)∧Mq.val (Mq.pC (1,1) p)=1 / Mq.val p:=by
 refine⟨Mq.Ku h11 (by omega),(Mq.Ps gN b h11 (by omega)).mono (by omega),?_⟩
 rw[Mq.Kn h11 l.pos (by omega),Mq.Et]
theorem Xm {M:List (List Mq.Q2)} {w n k m h:Nat} {d:RD} (b:MxB M w w n) (pt:cQ (m:Int) d.2.1 d.2.2.1) (hm:m≤w) (hk:d.1=.pc) (l:Mq.Low d.2.2.2) (h0:0 < d.2.2.2.1) (bk:Mq.Bd k d.2.2.2):MxB (pM M d) w w (n+4*k+20)∧∀x y,Mq.val (iT (pM M d) x y)=Mq.val (iT M x y)+cM d h x y:=by
 obtain⟨i0,i1,j0,j1⟩:=pt
 obtain⟨ls,bs,vs⟩:=yZ l h0 bk
 obtain⟨ln,bn,vn⟩:=kP ls bs
 have pt':cQ (w:Int) d.2.1 d.2.2.1:=⟨i0,by omega,j0,by omega⟩
 obtain⟨b1,v1⟩:=Be b pt' (c:=d.2.1.toNat) (by omega) ls bs
 obtain⟨b2,v2⟩:=Be b1 pt' (c:=d.2.2.1.toNat) (by omega) ln bn
 refine⟨b2.mono (by omega),fun x y=>?_⟩
 unfold pM
 rw[v2,v1,vn,vs]
 unfold cM
 rw[hk]
 show _=_+dl d.2.1.toNat d.2.2.1.toNat x*dl d.2.1.toNat d.2.2.1.toNat y*(1 / Mq.val d.2.2.2)
 generalize 1 / Mq.val d.2.2.2=v
 generalize dl d.2.1.toNat d.2.2.1.toNat x=u
 unfold dl
 by_cases c1:d.2.1.toNat=y<;>by_cases c2:d.2.2.1.toNat=y<;>simp only[c1,c2,if_true,if_false]<;>grind
theorem Xa {M:List (List Mq.Q2)} {w n m c:Nat} {d:RD} (b:MxB M w w n) (pt:cQ (m:Int) d.2.1 d.2.2.1) (hm:m≤w) (hc:c < w) (hk:d.1=.ho):MxB (hM M d c) w w (n+20)∧∀x y,Mq.val (iT (hM M d c) x y)=Mq.val (iT M x y)+cM d c x y:=by
 obtain⟨i0,i1,j0,j1⟩:=pt
 have pt':cQ (w:Int) d.2.1 d.2.2.1:=⟨i0,by omega,j0,by omega⟩
 obtain⟨ln,bn,vn⟩:=kP gR gN
 obtain⟨b1,v1⟩:=Be b pt' hc gR gN
 have b2:=b1.rz (i:=c) (j:=d.2.1.toNat) hc (by omega) gR gN
 have b3:=b2.rz (i:=c) (j:=d.2.2.1.toNat) hc (by omega) ln bn
 refine⟨b3.mono (by omega),fun x y=>?_⟩
 unfold hM
 rw[yN b2 hc (by omega) ln,yN b1 hc (by omega) gR,v1,vn,Mq.Et]
 unfold cM
 rw[hk]
 show _=_+(dl d.2.1.toNat d.2.2.1.toNat x*(if c=y then 1 else 0)+(if c=x then 1 else 0)*dl d.2.1.toNat d.2.2.1.toNat y)
 generalize dl d.2.1.toNat d.2.2.1.toNat x=u
 unfold dl
 by_cases c1:d.2.1.toNat=y<;>by_cases c2:d.2.2.1.toNat=y<;>by_cases c3:c=x<;>by_cases c4:c=y<;>simp only[c1,c2,c3,c4,true_and,and_true,false_and,and_false,and_self,if_true,if_false]<;>grind
theorem Sc {rs:List Mq.Q2} {w n k m h:Nat} {d:RD} (b:LnB rs w n) (pt:cQ (m:Int) d.2.1 d.2.2.1) (hm:m≤w) (hk:d.1=.pu) (l:Mq.Low d.2.2.2) (bk:Mq.Bd k d.2.2.2):LnB (pR rs d) w (n+4*k+20)∧∀x,Mq.val ((pR rs d).getD x (0,1))=Mq.val (rs.getD x (0,1))+cR d h x:=by
 obtain⟨i0,i1,j0,j1⟩:=pt
 obtain⟨ln,bn,vn⟩:=kP l bk
 have b1:=b.rz (j:=d.2.1.toNat) (by omega) ln bn
 have b2:=b1.rz (j:=d.2.2.1.toNat) (by omega) l bk
 refine⟨b2.mono (by omega),fun x=>?_⟩
 unfold pR
 rw[Dw b1 (by omega) l,Dw b (by omega) ln,vn]
 unfold cR
 rw[hk]
 show _=_ + - dl d.2.1.toNat d.2.2.1.toNat x*Mq.val d.2.2.2
 unfold dl
 by_cases c1:d.2.1.toNat=x<;>by_cases c2:d.2.2.1.toNat=x<;>simp only[c1,c2,if_true,if_false]<;>grind
theorem uO {m:Nat}:∀(ds:List RD) (h x:Nat),(∀d∈ds,cQ (m:Int) d.2.1 d.2.2.1)→m≤h→h+bU ds≤x→eqR h ds x=0
 | [],_,_,_,_,_=>rfl
 |d :: ds,h,x,pt,hm,hx=>by
  rw[fR] at hx
  have ih:=uO ds (h+cA d.1) x (fun e he=>pt e (List.mem_cons_of_mem _ he)) (by omega) (by omega)
  obtain⟨i0,i1,j0,j1⟩:=pt d (by simp)
  show cR d h x+eqR (h+cA d.1) ds x=0
  rw[ih]
  have z:dl d.2.1.toNat d.2.2.1.toNat x=0:=by unfold dl;rw[if_neg (by omega),if_neg (by omega)];grind
  unfold cR
  cases hk:d.1 with
  |pc=>show (0:Rat)+0=0;grind
  |pu=>show - dl d.2.1.toNat d.2.2.1.toNat x*Mq.val d.2.2.2+0=0;rw[z];grind
  |ho=>
   have:cA d.1=1:=by unfold cA;rw[if_pos hk]
   show (if h=x then Mq.val d.2.2.2 else 0)+0=0
   rw[if_neg (by omega)];grind
theorem Xo {rs:List Mq.Q2} {w n k m c:Nat} {d:RD} (b:LnB rs w n) (hc:c < w) (hk:d.1=.ho) (l:Mq.Low d.2.2.2) (bk:Mq.Bd k d.2.2.2) (h0:Mq.val (rs.getD c (0,1))=0):LnB (rs.set c d.2.2.2) w (n+k)∧∀x,Mq.val ((rs.set c d.2.2.2).getD x (0,1))=Mq.val (rs.getD x (0,1))+cR d c x:=by
 refine⟨(b.mono (by omega)).set l (bk.mono (by omega)),fun x=>?_⟩
 rw[vW (by rw[b.w];exact hc)]
 unfold cR
 rw[hk]
 show _=_+if c=x then Mq.val d.2.2.2 else 0
 by_cases e:c=x
 ·subst e;rw[if_pos rfl,if_pos rfl,h0];grind
 ·rw[if_neg e,if_neg e];grind
def rE (K:PySem.W.Frag):Sp:=fun vs H Q _=>∃(l z:Addr) (j:Nat) (xs:List V) (ps:List Mq.Q2) (a:Mq.Q2) (n m:Nat),vs=[.ref l,.int (j:Int),.ref z]∧H l=some (.lst xs)∧Fqs K H xs ps∧j < ps.length∧1≤(ps.getD j (0,1)).2∧Mq.Bd n (ps.getD j (0,1))∧Fq K H z a∧1≤a.2∧Mq.Bd m a∧n+m+1≤9000∧∀v H1,bC H H1→Fq K H1 v (Mq.rV (ps.getD j (0,1)) a)→Q .non (upd H1 l (.lst (xs.set j (.ref v))))
def wT (K:PySem.W.Frag) (CK:Kd→Addr):Sp:=fun vs H Q _=>∃(D x z:Addr) (zz:V) (as:List Addr) (M:List (List Mq.Q2)) (d:RD) (w n k c:Nat) (a:Mq.Q2),vs=[.ref D,.ref x,.int (c:Int),.ref z]∧Mx K H D as M∧MxB M w w n∧Rw CK H x d.1 (.int d.2.1) (.int d.2.2.1) zz∧cQ (w:Int) d.2.1 d.2.2.1∧c < w∧Fq K H z a∧Mq.Low a∧Mq.Bd k a∧n+2*k+4≤9000∧∀H',SX as H H'→Mx K H' D as (en M d c a)→Q .non H'
def Bb (K:PySem.W.Frag) (CK:Kd→Addr):Sp:=fun vs H Q _=>∃(D x zz:Addr) (as:List Addr) (M:List (List Mq.Q2)) (d:RD) (w n k:Nat),vs=[.ref D,.ref x]∧Mx K H D as M∧MxB M w w n∧Rw CK H x d.1 (.int d.2.1) (.int d.2.2.1) (.ref zz)∧Fq K H zz d.2.2.2∧cQ (w:Int) d.2.1 d.2.2.1∧Mq.Low d.2.2.2∧0 < d.2.2.2.1∧Mq.Bd k d.2.2.2∧n+4*k+20≤9000∧∀H',SX as H H'→Mx K H' D as (pM M d)→Q .non H'
def sY (K:PySem.W.Frag) (CK:Kd→Addr):Sp:=fun vs H Q _=>∃(R x zz:Addr) (ys:List V) (rs:List Mq.Q2) (d:RD) (w n k:Nat),vs=[.ref R,.ref x]∧H R=some (.lst ys)∧Fqs K H ys rs∧LnB rs w n∧Rw CK H x d.1 (.int d.2.1) (.int d.2.2.1) (.ref zz)∧Fq K H zz d.2.2.2∧cQ (w:Int) d.2.1 d.2.2.1∧Mq.Low d.2.2.2∧Mq.Bd k d.2.2.2∧n+4*k+20≤9000∧∀ys' H',SX [R] H H'→H' R=some (.lst ys')→Fqs K H' ys' (pR rs d)→Q .non H'
def Am (K:PySem.W.Frag) (CK:Kd→Addr):Sp:=fun vs H Q _=>∃(D R x zz:Addr) (as:List Addr) (M:List (List Mq.Q2)) (ys:List V) (rs:List Mq.Q2) (d:RD) (w n c:Nat),vs=[.ref D,.ref R,.ref x,.int (c:Int)]∧Mx K H D as M∧MxB M w w n∧H R=some (.lst ys)∧Fqs K H ys rs∧rs.length=w∧R≠D∧R∉as∧Rw CK H x d.1 (.int d.2.1) (.int d.2.2.1) (.ref zz)∧Fq K H zz d.2.2.2∧cQ (w:Int) d.2.1 d.2.2.1∧c < w∧n+20≤9000∧∀ys' H',SX (R :: as) H H'→Mx K H' D as (hM M d c)→H' R=some (.lst ys')→Fqs K H' ys' (rs.set c d.2.2.2)→Q .non H'
structure Fms (K:PySem.W.Frag) (H0 H:Hp) (us:List V) (X:List (List Mq.Q2)):Prop where
 l:us.length=X.length
 r:∀(i:Nat) (x:V) (ps:List Mq.Q2),us[i]?=some x→X[i]?=some ps→∃(a:Addr) (xs:List V),x=.ref a∧H0 a=none∧H a=some (.lst xs)∧Fqs K H xs ps
structure xQ (m:Nat) (ds:List RD) (N:Nat) (X:List (List Mq.Q2)) (Y:List Mq.Q2):Prop where
 x:MxB X (m - 1+bU ds) (m - 1+bU ds) N
 y:LnB Y (m - 1+bU ds) N
 vx:∀i j,Mq.val (iT X i j)=eqM m ds (i+1) (j+1)
 vy:∀i,Mq.val (Y.getD i (0,1))=eqR m ds (i+1)
end L2
set_option maxHeartbeats 4000000
namespace K66
open PySem L2
def top (i:Nat):Stmt:=PySem.Challenge.pw_ohmyard_k66_between.main.body.getD i (.Pass ⟨0,0,0,0⟩)
section
variable {P:Program} {w:World} {K:PySem.W.Frag} {mg:Str→Option Value} {base:Heap} {f g1 g2 g3 g4 g5 g6 g7 g8:Addr} {fd gd1 gd2 gd3 gd4 gd5 gd6 gd7 gd8:FuncData} {CX:CXT}
abbrev qA:Stmt:=top 15
theorem Ox:aS ["thing"] ["thing"] (aD qA):=⟨rfl,rfl,rfl,by decide +kernel,rfl,by decide +kernel,by decide +kernel⟩
theorem Jp {dV:Value} (F:cB K "is_whole" "is_whole" qA dV f fd) (b:Bl mg):aP P w K mg base CX 1 f fd ["thing"] (oA K):=by
 refine F.ok Ox (fun vs H Q E h=>?_) (fun cdv A outer s H vs Q E hr h=>?_)
 ·obtain⟨x,rfl,_⟩:=h
  rfl
 obtain⟨x,rfl,h⟩:=h
 refine⟨_,aG (aY (sX (hZ (i:=0) rfl (Or.inl rfl) b.isi b.int rfl rfl PyProof.Rows.boot_int) (xE (Tz (hZ (i:=0) rfl (Or.inl rfl) b.isi b.bool rfl rfl PyProof.Rows.boot_bool))))),?_⟩
 rcases h with ⟨i,rfl,q⟩ | ⟨t,ty,nw,q⟩
 ·exact⟨_,_,_,rfl,.of (.int i),rfl,_,rfl,gJ ⟨_,_,false,rfl,.of (.int i),(by with_unfolding_all rfl),_,rfl,q⟩⟩
 ·rcases nw with rfl | rfl | rfl | rfl | rfl
  ·exact⟨_,_,true,rfl,.of ty,(by with_unfolding_all rfl),_,rfl,gJ ⟨_,_,_,rfl,.of ty,rfl,_,rfl,q⟩⟩
  all_goals exact⟨_,_,false,rfl,.of ty,(by with_unfolding_all rfl),_,rfl,eV q⟩
abbrev sGc:Stmt:=top 17
theorem Oj:aS ["one","other","rest"] ["one","other"] (aD sGc):=⟨rfl,rfl,rfl,by decide +kernel,rfl,by decide +kernel,by decide +kernel⟩
theorem Wu {dV:Value} (F:cB K "greatest_common" "greatest_common" sGc dV f fd) (b:Bl mg):aP P w K mg base CX 1 f fd ["one","other"] Pj:=by
 refine F.ok Oj (fun vs H Q E h=>?_) (fun cdv A outer s H vs Q E hr h=>?_)
 ·obtain⟨x,y,rfl,_⟩:=h
  rfl
 obtain⟨x,y,rfl,q⟩:=h
 refine⟨_,aB (sV PassesOwn.never (bG mO (pv 1) aF (bL _)) (aB (aT (i:=2) Oj.nd rfl (Or.inl rfl) (aV jT (pv 0) (pv 1)))
  (aB (aT (i:=0) Oj.nd rfl (Or.inl rfl) (pv 1)) (aG (aT (i:=1) Oj.nd rfl (Or.inl rfl) (pv 2))))))
  (aG (aY (cK tF rfl b.abs PyProof.Rows.boot_abs (aA (pv 0) aE)))),?_⟩
 refine sS (fun σ H'=>H'=H∧∃u v z,σ=[some (.int u),some (.int v),z]∧Mq.gc u v=Mq.gc x y) (fun σ _=>match σ with | [_,some (.int v),_]=>v.natAbs | _=>0) ⟨rfl,x,y,none,rfl,rfl⟩ ?_ ?_
 ·rintro σ H' ⟨rfl,u,v,z,rfl,e⟩
  refine⟨_,rfl,rfl,_,rfl,?_⟩
  refine oH (fun c=>?_) (fun c=>?_)
  ·have hv:v≠0:=by intro q;subst q;simp at c
   refine⟨_,rfl,_,rfl,_,_,rfl,rfl,hv,_,rfl,_,rfl,⟨rfl,v,Int.fmod u v,_,rfl,(Mq.Ei u v).trans e⟩,Mq.vU hv⟩
  ·have hv:v=0:=by
    simp at c
    exact c
   subst hv
   refine⟨_,rfl,_,rfl,?_⟩
   rw[← Mq.Fh,e]
   exact q
 ·rintro σ H Q Q' m ⟨v,h1,h2,k,h3,h4⟩
  exact⟨v,h1,h2,k,h3,m _ _ h4⟩
abbrev qC:Stmt:=top 23
theorem Ri:aS ["one","other"] ["one","other"] (aD qC):=⟨rfl,rfl,rfl,by decide +kernel,rfl,by decide +kernel,by decide +kernel⟩
theorem Jb {dV:Value} (F:cB K "under" "under" qC dV f fd):aP P w K mg base CX 1 f fd ["one","other"] (Fx K):=by
 refine F.ok Ri (fun vs H Q E h=>?_) (fun cdv A outer s H vs Q E hr h=>?_)
 ·obtain⟨a,b,p,q,n,m,rfl,_⟩:=h
  rfl
 obtain⟨a,b,p,q,n,m,rfl,ha,hb,bp,bq,hn,z⟩:=h
 refine⟨_,aG (aY (hV uT (aV dG (aX bA (pv 0) aF (fun _ _=>rfl)) (aX bA (pv 1) aF (fun _ _=>rfl))) (aV dG (aX bA (pv 1) aF (fun _ _=>rfl)) (aX bA (pv 0) aF (fun _ _=>rfl))) (bL _))),?_⟩
 exact fX rfl ha (dH rfl hb (dF bp.a bq.b (by omega) (by omega) (fX rfl hb (dH rfl ha (dF bq.a bp.b (by omega) (by omega) ⟨_,_,rfl,rfl,z⟩)))))
abbrev jX:Stmt:=top 18
theorem Bm:aS ["top","bottom","shared"] ["top","bottom"] (aD jX):=⟨rfl,rfl,rfl,by decide +kernel,rfl,by decide +kernel,by decide +kernel⟩
theorem Ol {dV:Value} (F:cB K "fraction" "fraction" jX dV f fd)
  (G1:aP P w K mg base CX0 1 g1 gd1 ["thing"] (oA K)) (b1:aR K gd1 ["thing"] []) (k1:PySem.W.keepIn K (.ref g1)=true) (m1:mg "is_whole"=some (.ref g1))
  (G2:aP P w K mg base CX0 1 g2 gd2 ["one","other"] Pj) (b2:aR K gd2 ["one","other"] []) (k2:PySem.W.keepIn K (.ref g2)=true) (m2:mg "greatest_common"=some (.ref g2)) :
  aP P w K mg base CX 2 f fd ["top","bottom"] jM:=by
 refine F.ok Bm (fun vs H Q E h=>?_) (fun cdv A outer s H vs Q E hr h=>?_)
 ·obtain⟨t,b,n,rfl,_⟩:=h
  rfl
 obtain⟨t,b,n,rfl,hb,hB,hn,q⟩:=h
 refine⟨_,aB (cD (PW.pt (kL (fM (dD (aI G1 hr rfl m1 k1 b1 .nil aL (aA (pv 0) aE)))) (kL (fM (dD (aI G1 hr rfl m1 k1 b1 .nil aL (aA (pv 1) aE)))) (jS (bG eQ (pv 1) aF (bL _)))))) Id bK)
  (aB (aT (i:=2) Bm.nd rfl (Or.inl rfl) (aI G2 hr rfl m2 k2 b2 .nil aL (aA (pv 0) (aA (pv 1) aE))))
  (aB (cD (bG uT (pv 1) aF (bL _)) (aG (aT (i:=2) Bm.nd rfl (Or.inl rfl) (Ji Df (pv 2)))) bK)
  (aG (aY (cW (aA (aV iN (pv 0) (pv 2)) (aA (aV iN (pv 1) (pv 2)) aE))))))),?_⟩
 have hd:=Mq.oU (t:=t) hb
 have hdB:Mq.B n (Mq.dvr t b):=hB.le (Mq.Cj hb)
 have c0:decide (V.int b=V.int 0)=false:=decide_eq_false (fun z=>hb (by cases z;rfl))
 refine⟨_,rfl,_,rfl,.inl ⟨t,rfl,_,rfl,eV ⟨_,rfl,_,rfl,.inl ⟨b,rfl,_,rfl,eV ⟨_,rfl,rfl,_,rfl,?_⟩⟩⟩⟩⟩
 rw[c0]
 refine eV ⟨_,rfl,_,rfl,t,b,rfl,?_⟩
 refine⟨_,rfl,_,_,rfl,rfl,_,rfl,?_⟩
 refine oH (fun c=>?_) (fun c=>?_)
 ·have hlt:b < 0:=of_decide_eq_true c
  have e:Mq.dvr t b=-Mq.gc t b:=by unfold Mq.dvr;rw[if_pos hlt]
  rw[e] at hd hdB
  have q':mV H Q (t.fdiv (-Mq.gc t b),b.fdiv (-Mq.gc t b)):=by
   have z:=q
   unfold Mq.red at z
   rw[e] at z
   exact z
  refine⟨_,rfl,_,rfl,?_⟩
  refine⟨_,rfl,_,rfl,?_⟩
  refine fC hd hdB hn ⟨_,rfl,_,rfl,fC hd hdB hn ⟨by show 2≤sizeLine;decide,fun p hp=>?_⟩⟩
  exact q' p _ (aH hp _) aC
 ·have hlt:¬b < 0:=fun z=>c (decide_eq_true z)
  have e:Mq.dvr t b=Mq.gc t b:=by unfold Mq.dvr;rw[if_neg hlt]
  rw[e] at hd hdB
  have q':mV H Q (t.fdiv (Mq.gc t b),b.fdiv (Mq.gc t b)):=by
   have z:=q
   unfold Mq.red at z
   rw[e] at z
   exact z
  refine⟨_,rfl,_,rfl,?_⟩
  refine fC hd hdB hn ⟨_,rfl,_,rfl,fC hd hdB hn ⟨by show 2≤sizeLine;decide,fun p hp=>?_⟩⟩
  exact q' p _ (aH hp _) aC
abbrev pF:Stmt:=top 20
theorem On:aS ["one","other"] ["one","other"] (aD pF):=⟨rfl,rfl,rfl,by decide +kernel,rfl,by decide +kernel,by decide +kernel⟩
theorem Jd {dV:Value} (F:cB K "minus" "minus" pF dV f fd)
  (G1:aP P w K mg base CX0 2 g1 gd1 ["top","bottom"] jM) (b1:aR K gd1 ["top","bottom"] []) (k1:PySem.W.keepIn K (.ref g1)=true) (m1:mg "fraction"=some (.ref g1)) :
  aP P w K mg base CX 3 f fd ["one","other"] (mP K Mq.minus):=by
 refine F.ok On (fun vs H Q E h=>?_) (fun cdv A outer s H vs Q E hr h=>?_)
 ·obtain⟨a,b,p,q,n,m,rfl,_⟩:=h
  rfl
 obtain⟨a,b,p,q,n,m,rfl,ha,hb,lp,lq,bp,bq,hn,z⟩:=h
 refine⟨_,aG (aY (aI G1 hr rfl m1 k1 b1 .nil aL (aA
  (aV iI (aV dG (aX bA (pv 0) aF (fun _ _=>rfl)) (aX bA (pv 1) aF (fun _ _=>rfl))) (aV dG (aX bA (pv 1) aF (fun _ _=>rfl)) (aX bA (pv 0) aF (fun _ _=>rfl))))
  (aA (aV dG (aX bA (pv 0) aF (fun _ _=>rfl)) (aX bA (pv 1) aF (fun _ _=>rfl))) aE)))),?_⟩
 refine fX rfl ha (dH rfl hb (dF bp.a bq.b (by omega) (by omega) (fX rfl hb (dH rfl ha (dF bq.a bp.b (by omega) (by omega) ⟨_,_,rfl,rfl,?_⟩)))))
 refine dH rfl ha (dH rfl hb (dF bp.b bq.b (by omega) (by omega) ⟨_,_,n+m,rfl,Mq.kJ lp lq,bp.b.mul bq.b,by omega,z⟩))
abbrev wR:Stmt:=top 19
theorem Ug:aS ["one","other"] ["one","other"] (aD wR):=⟨rfl,rfl,rfl,by decide +kernel,rfl,by decide +kernel,by decide +kernel⟩
theorem Qh {dV:Value} (F:cB K "plus" "plus" wR dV f fd)
  (G1:aP P w K mg base CX0 2 g1 gd1 ["top","bottom"] jM) (b1:aR K gd1 ["top","bottom"] []) (k1:PySem.W.keepIn K (.ref g1)=true) (m1:mg "fraction"=some (.ref g1)) :
  aP P w K mg base CX 3 f fd ["one","other"] (mP K Mq.rV):=by
 refine F.ok Ug (fun vs H Q E h=>?_) (fun cdv A outer s H vs Q E hr h=>?_)
 ·obtain⟨a,b,p,q,n,m,rfl,_⟩:=h
  rfl
 obtain⟨a,b,p,q,n,m,rfl,ha,hb,lp,lq,bp,bq,hn,z⟩:=h
 refine⟨_,aG (aY (aI G1 hr rfl m1 k1 b1 .nil aL (aA
  (aV dC (aV dG (aX bA (pv 0) aF (fun _ _=>rfl)) (aX bA (pv 1) aF (fun _ _=>rfl))) (aV dG (aX bA (pv 1) aF (fun _ _=>rfl)) (aX bA (pv 0) aF (fun _ _=>rfl))))
  (aA (aV dG (aX bA (pv 0) aF (fun _ _=>rfl)) (aX bA (pv 1) aF (fun _ _=>rfl))) aE)))),?_⟩
 refine fX rfl ha (dH rfl hb (dF bp.a bq.b (by omega) (by omega) (fX rfl hb (dH rfl ha (dF bq.a bp.b (by omega) (by omega) ⟨_,_,rfl,rfl,?_⟩)))))
 refine dH rfl ha (dH rfl hb (dF bp.b bq.b (by omega) (by omega) ⟨_,_,n+m,rfl,Mq.kJ lp lq,bp.b.mul bq.b,by omega,z⟩))
variable {CR:Addr} {CK:Kd→Addr} {fW fJ fT fS:Kd→Addr} {fdW fdJ fdT fdS:Kd→FuncData}
abbrev pB:Stmt:=cV (top 35) 0
theorem Oz:aS ["self","start","goal","size"] ["self","start","goal","size"] (aD pB):=⟨rfl,rfl,rfl,by decide +kernel,rfl,by decide +kernel,by decide +kernel⟩
theorem Jg {dV:Value} (F:cB K "__init__" "Row.__init__" pB dV f fd) (T:RT K mg CR CK):aP P w K mg base CX 1 f fd ["self","start","goal","size"] (wW CK):=by
 refine F.ok Oz (fun vs H Q E h=>?_) (fun cdv A outer s H vs Q E hr h=>?_)
 ·obtain⟨x,dx,k,s,g,z,rfl,_⟩:=h
  rfl
 obtain⟨x,dx,k,s,g,z,rfl,hx,q⟩:=h
 refine⟨_,(aB (kI (pv 0) (pv 1) rfl) (aB (kI (pv 0) (pv 2) rfl) (aG (kI (pv 0) (pv 3) rfl)))),?_⟩
 have l1:=eP ("start":Str) s []
 have l2:=eP ("goal":Str) g (dY "start" s [])
 simp only[List.length_nil] at l1
 refine⟨_,rfl,_,rfl,x,CK k,dx,[],rfl,hx,T.cl k,T.nS k,(by show 0 < 1000;decide),?_⟩
 refine⟨_,rfl,_,rfl,x,CK k,dx,_,rfl,aC,T.cl k,T.nG k,by omega,?_⟩
 refine⟨_,rfl,_,rfl,x,CK k,dx,_,rfl,aC,T.cl k,T.nZ k,by omega,?_⟩
 rw[oB,oB]
 exact q
abbrev jF:Stmt:=cV (top 36) 0
theorem Hu:aS ["self"] ["self"] (aD jF):=⟨rfl,rfl,rfl,by decide +kernel,rfl,by decide +kernel,by decide +kernel⟩
theorem Cl {dV:Value} (F:cB K "word" "Piece.word" jF dV f fd):aP P w K mg base CX 1 f fd ["self"] (kY .pc):=by
 refine F.ok Hu (fun vs H Q E h=>?_) (fun cdv A outer s H vs Q E hr h=>?_)
 ·obtain⟨x,rfl,_⟩:=h
  rfl
 obtain⟨x,rfl,q⟩:=h
 exact⟨_,(aG (aY cI)),q⟩
abbrev jG:Stmt:=cV (top 37) 0
theorem Hg:aS ["self"] ["self"] (aD jG):=⟨rfl,rfl,rfl,by decide +kernel,rfl,by decide +kernel,by decide +kernel⟩
theorem Bs {dV:Value} (F:cB K "word" "Push.word" jG dV f fd):aP P w K mg base CX 1 f fd ["self"] (kY .pu):=by
 refine F.ok Hg (fun vs H Q E h=>?_) (fun cdv A outer s H vs Q E hr h=>?_)
 ·obtain⟨x,rfl,_⟩:=h
  rfl
 obtain⟨x,rfl,q⟩:=h
 exact⟨_,(aG (aY cI)),q⟩
abbrev iX:Stmt:=cV (top 38) 0
theorem Hi:aS ["self"] ["self"] (aD iX):=⟨rfl,rfl,rfl,by decide +kernel,rfl,by decide +kernel,by decide +kernel⟩
theorem Dc {dV:Value} (F:cB K "word" "Hold.word" iX dV f fd):aP P w K mg base CX 1 f fd ["self"] (kY .ho):=by
 refine F.ok Hi (fun vs H Q E h=>?_) (fun cdv A outer s H vs Q E hr h=>?_)
 ·obtain⟨x,rfl,_⟩:=h
  rfl
 obtain⟨x,rfl,q⟩:=h
 exact⟨_,(aG (aY cI)),q⟩
abbrev pX:Stmt:=cV (top 35) 1
theorem Oy:aS ["self"] ["self"] (aD pX):=⟨rfl,rfl,rfl,by decide +kernel,rfl,by decide +kernel,by decide +kernel⟩
theorem Lf {dV:Value} (F:cB K "told" "Row.told" pX dV f fd) (T:RT K mg CR CK)
  (GW:∀k,aP P w K mg base CX0 1 (fW k) (fdW k) ["self"] (kY k)) (bW:∀k,aR K (fdW k) ["self"] []) (mW:∀k,gD K (CK k) "word" (fW k)):aP P w K mg base CX 2 f fd ["self"] (xL CK):=by
 refine F.ok Oy (fun vs H Q E h=>?_) (fun cdv A outer s H vs Q E hr h=>?_)
 ·obtain⟨x,k,s,g,z,rfl,_⟩:=h
  rfl
 obtain⟨x,k,s,g,z,rfl,⟨dx,hx⟩,q⟩:=h
 refine⟨_,(aG (aY (cW (aA (gA (pv 0) T.cl mW GW hr bW .nil aL) (aA (bV (pv 0) rfl) (aA (bV (pv 0) rfl) (aA (bV (pv 0) rfl) aE))))))),?_⟩
 refine⟨_,rfl,k,x,dx,_,rfl,hx,(eE _ _ _ (by decide +kernel) (by decide +kernel) (by decide +kernel)),_,rfl,?_⟩
 refine⟨_,rfl,x,CK k,dx,_,_,rfl,hx,T.cl k,T.nS k,dB _ _ _,?_⟩
 refine⟨_,rfl,x,CK k,dx,_,_,rfl,hx,T.cl k,T.nG k,dQ _ _ _,?_⟩
 refine⟨_,rfl,x,CK k,dx,_,_,rfl,hx,T.cl k,T.nZ k,fV _ _ _,?_⟩
 exact⟨by show 4≤sizeLine;decide,q⟩
abbrev pU:Stmt:=top 39
theorem Eb:aS ["told","word"] ["told"] (aD pU):=⟨rfl,rfl,rfl,by decide +kernel,rfl,by decide +kernel,by decide +kernel⟩
theorem Mh {dV:Value} {gI:Addr} {gdI:FuncData} (F:cB K "row_of" "row_of" pU dV f fd) (T:RT K mg CR CK) (b:Bl mg) (ms:mg "str"=none)
  (GI:aP P w K mg base CX0 1 gI gdI ["self","start","goal","size"] (wW CK)) (bI:aR K gdI ["self","start","goal","size"] []) (MK:∀k,Mk K (CK k) gI):aP P w K mg base CX 3 f fd ["told"] (rX K CK):=by
 refine F.ok Eb (fun vs H Q E h=>?_) (fun cdv A outer s H vs Q E hr h=>?_)
 ·obtain⟨t,v,s,g,z,rfl,_⟩:=h
  rfl
 obtain⟨t,v,s,g,z,rfl,hT,k,rfl,q⟩:=h
 refine⟨_,(aB (aT (i:=1) Eb.nd rfl (Or.inl rfl) (aX bA (pv 0) aF (fun _ _=>rfl)))
  (aB (cD (PW.pt (yS (dD (hZ (i:=1) rfl (Or.inl rfl) b.isi ms rfl rfl PyProof.Rows.boot_str)) (rA (bG eQ (pv 1) cI (bL _))))) (aG (aY (lK (MK .pc) GI hr rfl (T.mK .pc) bI .nil aL (aA (aX bA (pv 0) aF (fun _ _=>rfl)) (aA (aX bA (pv 0) aF (fun _ _=>rfl)) (aA (aX bA (pv 0) aF (fun _ _=>rfl)) aE)))))) bK)
  (aB (cD (PW.pt (yS (dD (hZ (i:=1) rfl (Or.inl rfl) b.isi ms rfl rfl PyProof.Rows.boot_str)) (rA (bG eQ (pv 1) cI (bL _))))) (aG (aY (lK (MK .pu) GI hr rfl (T.mK .pu) bI .nil aL (aA (aX bA (pv 0) aF (fun _ _=>rfl)) (aA (aX bA (pv 0) aF (fun _ _=>rfl)) (aA (aX bA (pv 0) aF (fun _ _=>rfl)) aE)))))) bK)
  (aB (cD (PW.pt (yS (dD (hZ (i:=1) rfl (Or.inl rfl) b.isi ms rfl rfl PyProof.Rows.boot_str)) (rA (bG eQ (pv 1) cI (bL _))))) (aG (aY (lK (MK .ho) GI hr rfl (T.mK .ho) bI .nil aL (aA (aX bA (pv 0) aF (fun _ _=>rfl)) (aA (aX bA (pv 0) aF (fun _ _=>rfl)) (aA (aX bA (pv 0) aF (fun _ _=>rfl)) aE)))))) bK)
  (aG fE))))),?_⟩
 cases k
 ·refine Wd (fun _ _=>False) (fun X _=>?_) (fun _ _ h=>h.elim)
  refine⟨_,rfl,t,_,0,_,rfl,rfl,hT,rfl,?_⟩
  exact⟨_,_,true,rfl,.of (.str _),rfl,_,rfl,gJ ⟨_,rfl,rfl,_,rfl,ifT (dR .pc .pc) ⟨_,rfl,t,_,1,s,rfl,rfl,hT,rfl,_,rfl,t,_,2,g,rfl,rfl,hT,rfl,_,rfl,t,_,3,z,rfl,rfl,hT,rfl,fun x dx h1 h2 ne=>⟨x,dx,.pc,s,g,z,rfl,aC,rfl,by rw[oB];exact q x _ (Rw.new h1 h2 ne) h1 ⟨dx,aC⟩⟩⟩⟩⟩
 ·refine Yk (fun _ _=>False) (fun X _=>?_) (fun _ _ h=>h.elim)
  refine⟨_,rfl,t,_,0,_,rfl,rfl,hT,rfl,?_⟩
  exact⟨_,_,true,rfl,.of (.str _),rfl,_,rfl,gJ ⟨_,rfl,rfl,_,rfl,ifF (dR .pu .pc) (⟨_,_,true,rfl,.of (.str _),rfl,_,rfl,gJ ⟨_,rfl,rfl,_,rfl,ifT (dR .pu .pu) ⟨_,rfl,t,_,1,s,rfl,rfl,hT,rfl,_,rfl,t,_,2,g,rfl,rfl,hT,rfl,_,rfl,t,_,3,z,rfl,rfl,hT,rfl,fun x dx h1 h2 ne=>⟨x,dx,.pu,s,g,z,rfl,aC,rfl,by rw[oB];exact q x _ (Rw.new h1 h2 ne) h1 ⟨dx,aC⟩⟩⟩⟩⟩)⟩⟩
 ·refine Zi (fun _ _=>False) (fun X _=>?_) (fun _ _ h=>h.elim)
  refine⟨_,rfl,t,_,0,_,rfl,rfl,hT,rfl,?_⟩
  exact⟨_,_,true,rfl,.of (.str _),rfl,_,rfl,gJ ⟨_,rfl,rfl,_,rfl,ifF (dR .ho .pc) (⟨_,_,true,rfl,.of (.str _),rfl,_,rfl,gJ ⟨_,rfl,rfl,_,rfl,ifF (dR .ho .pu) (⟨_,_,true,rfl,.of (.str _),rfl,_,rfl,gJ ⟨_,rfl,rfl,_,rfl,ifT (dR .ho .ho) ⟨_,rfl,t,_,1,s,rfl,rfl,hT,rfl,_,rfl,t,_,2,g,rfl,rfl,hT,rfl,_,rfl,t,_,3,z,rfl,rfl,hT,rfl,fun x dx h1 h2 ne=>⟨x,dx,.ho,s,g,z,rfl,aC,rfl,by rw[oB];exact q x _ (Rw.new h1 h2 ne) h1 ⟨dx,aC⟩⟩⟩⟩⟩)⟩⟩)⟩⟩
abbrev Gm:Stmt:=top 16
theorem Vx:aS ["thing"] ["thing"] (aD Gm):=⟨rfl,rfl,rfl,by decide +kernel,rfl,by decide +kernel,by decide +kernel⟩
theorem Ui {dV:Value} (F:cB K "is_fraction" "is_fraction" Gm dV f fd)
  (b:Bl mg) (ml:mg "len"=none) (mt:mg "tuple"=none)
  (G1:aP P w K mg base CX0 1 g1 gd1 ["thing"] (oA K)) (b1:aR K gd1 ["thing"] []) (k1:PySem.W.keepIn K (.ref g1)=true) (m1:mg "is_whole"=some (.ref g1))
  (G2:aP P w K mg base CX0 1 g2 gd2 ["one","other"] Pj) (b2:aR K gd2 ["one","other"] []) (k2:PySem.W.keepIn K (.ref g2)=true) (m2:mg "greatest_common"=some (.ref g2)) :
  aP P w K mg base CX 2 f fd ["thing"] (Nf K):=by
 refine F.ok Vx (fun vs H Q E h=>?_) (fun cdv A outer s H vs Q E hr h=>?_)
 ·obtain⟨v,o,rfl,hz,q⟩:=h
  rfl
 obtain⟨v,o,rfl,hz,q⟩:=h
 refine⟨_,(aB (cD (PW.pt (kL (fM (dD (hZ (i:=0) rfl (Or.inl rfl) b.isi mt rfl rfl PyProof.Rows.boot_tuple))) (jS (bG mO (cK bO rfl ml PySem.boot_len (aA (pv 0) aE)) aF (bL _))))) (aG (aY jW)) bK)
  (aB (cD (PW.pt (kL (fM (dD (aI G1 hr rfl m1 k1 b1 .nil aL (aA (aX bA (pv 0) aF (fun _ _=>rfl)) aE)))) (jS (fM (dD (aI G1 hr rfl m1 k1 b1 .nil aL (aA (aX bA (pv 0) aF (fun _ _=>rfl)) aE))))))) (aG (aY jW)) bK)
  (aG (aY (sX (hV Jn (aX bA (pv 0) aF (fun _ _=>rfl)) aF (bL _)) (xE (hV eQ (aI G2 hr rfl m2 k2 b2 .nil aL (aA (aX bA (pv 0) aF (fun _ _=>rfl)) (aA (aX bA (pv 0) aF (fun _ _=>rfl)) aE))) aF (bL _)))))))),?_⟩
 cases hz with
 |fr fa hp=>
  refine⟨_,_,true,rfl,.tup fa,rfl,_,rfl,eV ⟨_,rfl,_,_,rfl,.inr fa,rfl,_,rfl,eV ?_⟩⟩
  refine fX rfl fa ⟨_,rfl,.inl ⟨_,rfl,_,rfl,eV (dH rfl fa ⟨_,rfl,.inl ⟨_,rfl,_,rfl,eV ?_⟩⟩)⟩⟩
  have h1:=hp.pos
  refine dH rfl fa ⟨_,_,rfl,rfl,_,rfl,ifT (decide_eq_true (by omega)) (fX rfl fa (dH rfl fa ⟨_,_,rfl,rfl,?_⟩))⟩
  rw[hp.one]
  exact q
 |ty h n=>exact⟨_,_,false,rfl,h,n,_,rfl,gJ q⟩
 |len h=>exact⟨_,_,true,rfl,.tup h,rfl,_,rfl,eV ⟨_,rfl,_,_,rfl,.inr h,rfl,_,rfl,gJ q⟩⟩
 |n0 h ty n=>
  refine⟨_,_,true,rfl,.tup h,rfl,_,rfl,eV ⟨_,rfl,_,_,rfl,.inr h,rfl,_,rfl,eV ?_⟩⟩
  exact⟨_,rfl,_,_,0,_,rfl,rfl,h,rfl,_,rfl,.inr ⟨_,ty,n,_,rfl,gJ q⟩⟩
 |n1 h ty n=>
  refine⟨_,_,true,rfl,.tup h,rfl,_,rfl,eV ⟨_,rfl,_,_,rfl,.inr h,rfl,_,rfl,eV ?_⟩⟩
  exact⟨_,rfl,_,_,0,_,rfl,rfl,h,rfl,_,rfl,.inl ⟨_,rfl,_,rfl,eV ⟨_,rfl,_,_,1,_,rfl,rfl,h,rfl,_,rfl,.inr ⟨_,ty,n,_,rfl,gJ q⟩⟩⟩⟩
 |fb fa c=>
  refine⟨_,_,true,rfl,.tup fa,rfl,_,rfl,eV ⟨_,rfl,_,_,rfl,.inr fa,rfl,_,rfl,eV ?_⟩⟩
  refine fX rfl fa ⟨_,rfl,.inl ⟨_,rfl,_,rfl,eV (dH rfl fa ⟨_,rfl,.inl ⟨_,rfl,_,rfl,eV ?_⟩⟩)⟩⟩
  rcases c with c | ⟨c,d⟩
  ·exact dH rfl fa ⟨_,_,rfl,rfl,_,rfl,ifF (decide_eq_false (by omega)) q⟩
  ·refine dH rfl fa ⟨_,_,rfl,rfl,_,rfl,ifT (decide_eq_true c) (fX rfl fa (dH rfl fa ⟨_,_,rfl,rfl,?_⟩))⟩
   rw[decide_eq_false (fun e=>d (by injection e))]
   exact q
abbrev sPS:Stmt:=top 41
theorem Ys:aS ["thing"] ["thing"] (aD sPS):=⟨rfl,rfl,rfl,by decide +kernel,rfl,by decide +kernel,by decide +kernel⟩
theorem Xz {dV:Value} (F:cB K "is_piece_size" "is_piece_size" sPS dV f fd)
  {aN:Addr} (fN:∀H,Fq K H aN (0,1)) (mNO:mg "NOUGHT"=some (.ref aN))
  (G1:aP P w K mg base CX0 2 g1 gd1 ["thing"] (Nz K)) (b1:aR K gd1 ["thing"] []) (k1:PySem.W.keepIn K (.ref g1)=true) (m1:mg "is_fraction"=some (.ref g1))
  (G2:aP P w K mg base CX0 1 g2 gd2 ["one","other"] (Fx K)) (b2:aR K gd2 ["one","other"] []) (k2:PySem.W.keepIn K (.ref g2)=true) (m2:mg "under"=some (.ref g2)) :
  aP P w K mg base CX 3 f fd ["thing"] (Xj K):=by
 refine F.ok Ys (fun vs H Q E h=>?_) (fun cdv A outer s H vs Q E hr h=>?_)
 ·obtain⟨a,p,n,rfl,fa,hp,h0,hb,hn,q⟩:=h
  rfl
 obtain⟨a,p,n,rfl,fa,hp,h0,hb,hn,q⟩:=h
 have r1:=hr.mono (show 1≤2 by omega)
 refine⟨_,(aG (aY (sX (aI G1 hr rfl m1 k1 b1 .nil aL (aA (pv 0) aE)) (xE (aI G2 r1 rfl m2 k2 b2 .nil aL (aA (dA (v:=.ref aN) rfl mNO rfl) (aA (pv 0) aE))))))),?_⟩
 refine⟨_,rfl,a,p,rfl,fa,hp,_,rfl,gJ ⟨_,rfl,aN,a,_,p,1,n,rfl,fN _,fa,⟨show (0:Nat) < 2 ^ 1 by decide,show (1:Nat) < 2 ^ 1 by decide⟩,hb,by omega,?_⟩⟩
 rw[decide_eq_true (show (0:Int)*p.2 < p.1*1 by omega)]
 exact q
abbrev sNB:Stmt:=top 46
theorem Yo:aS ["thing","bound"] ["thing","bound"] (aD sNB):=⟨rfl,rfl,rfl,by decide +kernel,rfl,by decide +kernel,by decide +kernel⟩
theorem Wi {dV:Value} (F:cB K "is_number_below" "is_number_below" sNB dV f fd)
  (G1:aP P w K mg base CX0 1 g1 gd1 ["thing"] (oA K)) (b1:aR K gd1 ["thing"] []) (k1:PySem.W.keepIn K (.ref g1)=true) (m1:mg "is_whole"=some (.ref g1)) :
  aP P w K mg base CX 2 f fd ["thing","bound"] Tx:=by
 refine F.ok Yo (fun vs H Q E h=>?_) (fun cdv A outer s H vs Q E hr h=>?_)
 ·obtain⟨i,b',rfl,h0,h1,q⟩:=h
  rfl
 obtain⟨i,b',rfl,h0,h1,q⟩:=h
 refine⟨_,(aG (aY (sX (aI G1 hr rfl m1 k1 b1 .nil aL (aA (pv 0) aE)) (sX (hV Jn (pv 0) aF (bL _)) (xE (hV uT (pv 0) (pv 1) (bL _))))))),?_⟩
 refine⟨_,rfl,_,rfl,.inl ⟨i,rfl,_,rfl,gJ ⟨_,rfl,_,_,rfl,rfl,_,rfl,ifT (decide_eq_true h0) ⟨_,rfl,_,rfl,_,_,rfl,rfl,?_⟩⟩⟩⟩
 show Q (.bl (decide (i < b'))) H
 rw[decide_eq_true h1]
 exact q
abbrev sRS:Stmt:=top 49
theorem Ye:aS ["word","size"] ["word","size"] (aD sRS):=⟨rfl,rfl,rfl,by decide +kernel,rfl,by decide +kernel,by decide +kernel⟩
theorem Xb {dV:Value} (F:cB K "refuse_size" "refuse_size" sRS dV f fd)
  (G1:aP P w K mg base CX0 2 g1 gd1 ["thing"] (Nz K)) (b1:aR K gd1 ["thing"] []) (k1:PySem.W.keepIn K (.ref g1)=true) (m1:mg "is_fraction"=some (.ref g1))
  (G2:aP P w K mg base CX0 3 g2 gd2 ["thing"] (Xj K)) (b2:aR K gd2 ["thing"] []) (k2:PySem.W.keepIn K (.ref g2)=true) (m2:mg "is_piece_size"=some (.ref g2)) :
  aP P w K mg base CX 4 f fd ["word","size"] (Sw K):=by
 refine F.ok Ye (fun vs H Q E h=>?_) (fun cdv A outer s H vs Q E hr h=>?_)
 ·obtain⟨k,z,p,rfl,fz,hp,h0,hb,q⟩:=h
  rfl
 obtain⟨k,z,p,rfl,fz,hp,h0,hb,q⟩:=h
 have r2:=hr.mono (show 2≤3 by omega)
 refine⟨_,(aB (cD (fM (dD (aI G1 r2 rfl m1 k1 b1 .nil aL (aA (pv 1) aE)))) (aG fE) bK)
  (aG (cD (PW.pt (yS (bG eQ (pv 0) cI (bL _)) (rA (fM (dD (aI G2 hr rfl m2 k2 b2 .nil aL (aA (pv 1) aE))))))) (aG fE) bK))),?_⟩
 refine⟨_,rfl,z,p,rfl,fz,hp,_,rfl,eV ?_⟩
 cases k
 ·exact⟨_,rfl,rfl,_,rfl,ifT (dR .pc .pc) ⟨_,rfl,z,p,_,rfl,fz,hp,h0 rfl,hb,by omega,_,rfl,eV q⟩⟩
 ·exact⟨_,rfl,rfl,_,rfl,ifF (dR .pu .pc) (eV q)⟩
 ·exact⟨_,rfl,rfl,_,rfl,ifF (dR .ho .pc) (eV q)⟩
theorem uF:(["point","many"]:List Str).Nodup:=by decide +kernel
def Pm (K:PySem.W.Frag):Sp:=fun vs H Q _=>∃(l:Addr) (i j m:Int),vs=[.ref l,.int m]∧SqL K H l [.int i,.int j]∧0≤i∧i < m∧0≤j∧j < m∧∀H',bC H H'→Q .non H'
def Wp:Sp:=fun vs H Q _=>∃k c:Int,vs=[.int k,.int c]∧0≤k∧k < c∧Q .non H
abbrev sRP:Stmt:=top 47
theorem Zd:aS ["some","many"] ["some","many"] (aD sRP):=⟨rfl,rfl,rfl,by decide +kernel,rfl,by decide +kernel,by decide +kernel⟩
theorem Ya {dV:Value} (F:cB K "refuse_points" "refuse_points" sRP dV f fd)
  (ma:mg "all"=none)
  (G1:aP P w K mg base CX0 2 g1 gd1 ["thing","bound"] Tx) (b1:aR K gd1 ["thing","bound"] []) (k1:PySem.W.keepIn K (.ref g1)=true) (m1:mg "is_number_below"=some (.ref g1)) :
  aP P w K mg base CX 3 f fd ["some","many"] (Pm K):=by
 refine F.ok Zd (fun vs H Q E h=>?_) (fun cdv A outer s H vs Q E hr h=>?_)
 ·obtain⟨l,i,j,m,rfl,hl,i0,i1,j0,j1,q⟩:=h
  rfl
 obtain⟨l,i,j,m,rfl,hl,i0,i1,j0,j1,q⟩:=h
 refine⟨_,(aG (cD (fM (dD (cK (La rfl) rfl ma PyProof.Rows.boot_all (aA (gV (nl:=1) (fr:=[1]) (Nc:=["point","many"]) (cl:=[("many",s.heap.objs.size+1)]) rfl ⟨rfl,rfl,by decide +kernel,by decide +kernel,fun x c h=>h,gQ rfl,rfl,fun i n h=>match i,h with | 0,h=>by cases h;exact⟨1,rfl,rfl,rfl,rfl,.inl rfl⟩ | k+1,h=>by rw[show 1+(k+1)=k+2 by omega] at h;cases h⟩
    (cY (pv 0)) (fun C s3 H3 fp pins=>(bF (i:=0) uF rfl (Or.inl rfl))) (fun C s3 H3 fp pins=>gB)
    (fun C s3 H3 fp pins=>(aI G1 hr rfl m1 k1 b1 .nil aL (aA (pv 0) (aA (pv 1) aE))))) aE)))) (aG fE) bK)),?_⟩
 refine⟨_,rfl,l,rfl,⟨_,hl⟩,fun D hD=>?_⟩
 have sD:=aH hD (.lst [])
 refine fZ (xs:=[.int i,.int j]) (fun k zs H'=>bC H H'∧H' D=some (.lst zs)∧zs=(List.replicate k true).map V.bl) ⟨sD,aC,rfl⟩ (fun k zs H' h=>h.2.1) (fun k zs H' _ h=>h.1.seq hl) ?_ ?_
 ·rintro k zs x H1 hx ⟨s1,e1,rfl⟩ C hC
  have hk:k < 2:=(List.getElem?_eq_some_iff.mp hx).1
  obtain⟨y,rfl,y0,y1⟩:∃y,x=.int y∧0≤y∧y < m:=by
   rcases List.mem_cons.mp (List.mem_of_getElem? hx) with z | z
   ·exact⟨i,z,i0,i1⟩
   ·exact⟨j,by simpa using z,j0,j1⟩
  refine⟨gH.1,gH.2,gJ ?_⟩
  refine⟨_,rfl,_,rfl,y,m,rfl,y0,y1,e1,bH (by rw[List.length_map,List.length_replicate];omega),hC _ _ ⟨s1.change hD,aC,?_⟩⟩
  rw[List.replicate_succ',List.map_append];rfl
 ·rintro zs H1 ⟨s1,e1,rfl⟩
  refine⟨D,_,rfl,SqL.of e1,_,rfl,ifF ?_ ?_⟩
  ·simp
  ·exact q _ s1
abbrev sRN:Stmt:=top 48
theorem Yj:aS ["k","count"] ["k","count"] (aD sRN):=⟨rfl,rfl,rfl,by decide +kernel,rfl,by decide +kernel,by decide +kernel⟩
theorem Xe {dV:Value} (F:cB K "refuse_number" "refuse_number" sRN dV f fd)
  (G1:aP P w K mg base CX0 2 g1 gd1 ["thing","bound"] Tx) (b1:aR K gd1 ["thing","bound"] []) (k1:PySem.W.keepIn K (.ref g1)=true) (m1:mg "is_number_below"=some (.ref g1)) :
  aP P w K mg base CX 3 f fd ["k","count"] Wp:=by
 refine F.ok Yj (fun vs H Q E h=>?_) (fun cdv A outer s H vs Q E hr h=>?_)
 ·obtain⟨k,c,rfl,u0,u1,q⟩:=h
  rfl
 obtain⟨k,c,rfl,u0,u1,q⟩:=h
 refine⟨_,(aG (cD (fM (dD (aI G1 hr rfl m1 k1 b1 .nil aL (aA (pv 0) (aA (pv 1) aE))))) (aG fE) bK)),?_⟩
 exact⟨_,rfl,_,rfl,k,c,rfl,u0,u1,_,rfl,eV q⟩
abbrev oZ:Stmt:=cV (top 45) 0
theorem Ow:aS ["self","many"] ["self","many"] (aD oZ):=⟨rfl,rfl,rfl,by decide +kernel,rfl,by decide +kernel,by decide +kernel⟩
theorem Nu {dV:Value} {CN:Addr} (F:cB K "__init__" "Net.__init__" oZ dV f fd) (NTx:NT K mg CN)
  {tM:Tok} (mMP:mg "MOST_POINTS"=some (.int 20 tM))
  (G1:aP P w K mg base CX0 1 g1 gd1 ["thing"] (oA K)) (b1:aR K gd1 ["thing"] []) (k1:PySem.W.keepIn K (.ref g1)=true) (m1:mg "is_whole"=some (.ref g1)):aP P w K mg base CX 2 f fd ["self","many"] (Ex CN):=by
 refine F.ok Ow (fun vs H Q E h=>?_) (fun cdv A outer s H vs Q E hr h=>?_)
 ·obtain⟨n,dx,m,rfl,hn,h1,h20,q⟩:=h
  rfl
 obtain⟨n,dx,m,rfl,hn,h1,h20,q⟩:=h
 refine⟨_,(aB (cD (PW.pt (kL (fM (dD (aI G1 hr rfl m1 k1 b1 .nil aL (aA (pv 1) aE)))) (kL (bG uT (pv 1) aF (bL _)) (jS (bG Aj (pv 1) (dA (v:=.int 20) rfl mMP ⟨_,rfl⟩) (bL _)))))) (aG fE) bK)
  (aB (kI (pv 0) (pv 1) rfl)
  (aG (kI (pv 0) (cS aE) rfl)))),?_⟩
 refine⟨_,rfl,_,rfl,.inl ⟨m,rfl,_,rfl,eV ⟨_,rfl,_,_,rfl,rfl,_,rfl,ifF (decide_eq_false (by omega)) ⟨_,rfl,_,_,rfl,rfl,_,rfl,ifF (decide_eq_false (by omega)) ?_⟩⟩⟩⟩
 refine⟨_,rfl,_,rfl,n,CN,dx,[],rfl,hn,NTx.cl,NTx.nP,(by show 0 < 1000;decide),?_⟩
 refine⟨by show 0≤sizeLine;decide,fun l hl=>?_⟩
 have nl:n≠l:=fun z=>by subst z;rw[aC] at hl;cases hl
 have hl0:H l=none:=by rw[aW (Ne.symm nl)] at hl;exact hl
 have l1:=eP ("point_count":Str) (.int m) []
 simp only[List.length_nil] at l1
 refine⟨_,rfl,n,CN,dx,dY "point_count" (.int m) [],rfl,by rw[aW nl];exact aC,NTx.cl,NTx.nK,by omega,?_⟩
 refine q l _ hl0 (fun b o e hb=>?_) aC (by rw[aW (Ne.symm nl)];exact aC)
 rw[aW hb,aW (aZ e hl0),aW hb]
 exact e
abbrev vB:Stmt:=cV (top 45) 1
theorem Tv:aS ["self"] ["self"] (aD vB):=⟨rfl,rfl,rfl,by decide +kernel,rfl,by decide +kernel,by decide +kernel⟩
theorem Qu {dV:Value} {CN:Addr} (F:cB K "many" "Net.many" vB dV f fd) (NTx:NT K mg CN):aP P w K mg base CX 1 f fd ["self"] (oV CN K):=by
 refine F.ok Tv (fun vs H Q E h=>?_) (fun cdv A outer s H vs Q E hr h=>?_)
 ·obtain⟨n,l,m,ds,rfl,⟨⟨dx,hn⟩,ts,hl,hr'⟩,q⟩:=h
  rfl
 obtain⟨n,l,m,ds,rfl,⟨⟨dx,hn⟩,ts,hl,hr'⟩,q⟩:=h
 exact⟨_,(aG (aY (bV (pv 0) rfl))),_,rfl,n,CN,dx,_,_,rfl,hn,NTx.cl,NTx.nP,Ax _ _,q⟩
abbrev Ze:Stmt:=cV (top 45) 2
abbrev pK:Stmt:=cV (top 45) 6
theorem Ro:aS ["self"] ["self"] (aD pK):=⟨rfl,rfl,rfl,by decide +kernel,rfl,by decide +kernel,by decide +kernel⟩
theorem Mc {dV:Value} {CN:Addr} (F:cB K "told" "Net.told" pK dV f fd) (NTx:NT K mg CN)
  (mli:mg "list"=none):aP P w K mg base CX 1 f fd ["self"] (Ee CN K):=by
 refine F.ok Ro (fun vs H Q E h=>?_) (fun cdv A outer s H vs Q E hr h=>?_)
 ·obtain⟨n,l,m,ds,rfl,⟨⟨dx,hn⟩,ts,hl,hr'⟩,q⟩:=h
  rfl
 obtain⟨n,l,m,ds,rfl,⟨⟨dx,hn⟩,ts,hl,hr'⟩,q⟩:=h
 refine⟨_,(aG (aY (uZ nY rfl mli PyProof.Rows.boot_list (aA (bV (pv 0) rfl) aE)))),_,rfl,n,CN,dx,_,_,rfl,hn,NTx.cl,NTx.nK,fG _ _,l,ts,rfl,.inl (SqL.of hl),fun a ha=>?_⟩
 have sa:=aH ha (.lst ts)
 exact q a ts _ sa ha aC (hr'.same sa)
abbrev Gv:Stmt:=cV (top 45) 3
theorem Rt:aS ["self","row","told"] ["self","row"] (aD Gv):=⟨rfl,rfl,rfl,by decide +kernel,rfl,by decide +kernel,by decide +kernel⟩
theorem Tw {dV:Value} {CN:Addr} (F:cB K "add" "Net.add" Gv dV f fd) (NTx:NT K mg CN)
  {tR:Tok} (mMR:mg "MOST_ROWS"=some (.int 40 tR)) (ml:mg "len"=none) {gT:Addr} {gdT:FuncData} (T:RT K mg CR CK) (GT:aP P w K mg base CX0 2 gT gdT ["self"] (xL CK)) (bT:aR K gdT ["self"] []) (mT:∀k,gD K (CK k) "told" gT)
  (G1:aP P w K mg base CX0 3 g1 gd1 ["some","many"] (Pm K)) (b1:aR K gd1 ["some","many"] []) (k1:PySem.W.keepIn K (.ref g1)=true) (m1:mg "refuse_points"=some (.ref g1))
  (G2:aP P w K mg base CX0 4 g2 gd2 ["word","size"] (Sw K)) (b2:aR K gd2 ["word","size"] []) (k2:PySem.W.keepIn K (.ref g2)=true) (m2:mg "refuse_size"=some (.ref g2)):aP P w K mg base CX 5 f fd ["self","row"] (Sj CN K CK):=by
 refine F.ok Rt (fun vs H Q E h=>?_) (fun cdv A outer s H vs Q E hr h=>?_)
 ·obtain⟨n,l,x,z,m,ds,k,i,j,p,rfl,⟨⟨dx,hn⟩,ts,hl,hR⟩,rw,fz,⟨i0,i1,j0,j1,lp,h0,bp⟩,h40,q⟩:=h
  rfl
 obtain⟨n,l,x,z,m,ds,k,i,j,p,rfl,⟨⟨dx,hn⟩,ts,hl,hR⟩,rw,fz,⟨i0,i1,j0,j1,lp,h0,bp⟩,h40,q⟩:=h
 have r2:=hr.mono (show 2≤4 by omega)
 have r3:=hr.mono (show 3≤4 by omega)
 refine⟨_,(aB (aT (i:=2) Rt.nd rfl (Or.inl rfl) (gA (f:=fun _=>gT) (fd:=fun _=>gdT) (sp:=fun _=>xL CK) (pv 1) T.cl mT (fun _=>GT) r2 (fun _=>bT) .nil aL))
  (aB (bQ (aI G1 r3 rfl m1 k1 b1 .nil aL (aA (cS (aA (aX bA (pv 2) aF (fun _ _=>rfl)) (aA (aX bA (pv 2) aF (fun _ _=>rfl)) aE))) (aA (bV (pv 0) rfl) aE))))
  (aB (bQ (aI G2 hr rfl m2 k2 b2 .nil aL (aA (aX bA (pv 2) aF (fun _ _=>rfl)) (aA (aX bA (pv 2) aF (fun _ _=>rfl)) aE))))
  (aB (cD (bG Jn (cK bO rfl ml PySem.boot_len (aA (bV (pv 0) rfl) aE)) (dA (v:=.int 40) rfl mMR ⟨_,rfl⟩) (bL _)) (aG fE) bK)
  (aB (bQ (mM PySem.F.plainAttrs_list PySem.F.slot_list_append PySem.F.type_list_append eX (bV (pv 0) rfl) (aA (pv 2) aE)))
  (aG (aY (aV iI (cK bO rfl ml PySem.boot_len (aA (bV (pv 0) rfl) aE)) aF)))))))),?_⟩
 obtain⟨dr,hx⟩:=id rw
 have len:=hR.length
 refine⟨_,rfl,k,x,dr,_,rfl,hx,(eE _ _ _ (by decide +kernel) (by decide +kernel) (by decide +kernel)),x,k,_,_,_,rfl,rw,fun t ht=>?_⟩
 have st:=aH ht (.tup [.str k.wd,.int i,.int j,.ref z])
 have et:SqT K (upd H t (.tup [.str k.wd,.int i,.int j,.ref z])) t [.str k.wd,.int i,.int j,.ref z]:=SqT.of aC
 generalize upd H t (.tup [.str k.wd,.int i,.int j,.ref z])=H1a at st et ⊢
 have hn1:=st _ _ hn
 have hl1:=st _ _ hl
 refine⟨_,rfl,t,_,1,_,rfl,rfl,et,rfl,_,rfl,t,_,2,_,rfl,rfl,et,rfl,by show 2≤sizeLine;decide,fun lq hlq=>?_⟩
 have sq:=aH hlq (.lst [.int i,.int j])
 have eq:upd H1a lq (.lst [.int i,.int j]) lq=some (.lst [.int i,.int j]):=aC
 generalize upd H1a lq (.lst [.int i,.int j])=H1b at sq eq ⊢
 have hnb:=sq _ _ hn1
 refine⟨_,rfl,n,CN,dx,_,_,rfl,hnb,NTx.cl,NTx.nP,Ax _ _,lq,i,j,m,rfl,SqL.of eq,i0,i1,j0,j1,fun H1 sc=>?_⟩
 have sqc:=sq.trans sc
 have st:=st.trans sqc
 have et:=sqc.seqT et
 have hn1:=sqc _ _ hn1
 have hl1:=sqc _ _ hl1
 refine⟨_,rfl,t,_,0,_,rfl,rfl,et,rfl,_,rfl,t,_,3,_,rfl,rfl,et,rfl,k,z,p,rfl,st.fq fz,lp,h0,bp,?_⟩
 refine⟨_,rfl,n,CN,dx,_,_,rfl,hn1,NTx.cl,NTx.nK,fG _ _,l,ts,rfl,.inl (SqL.of hl1),_,_,rfl,rfl,_,rfl,ifF (decide_eq_false (by omega)) ?_⟩
 refine⟨_,rfl,n,CN,dx,_,_,rfl,hn1,NTx.cl,NTx.nK,fG _ _,.inl ⟨rfl,_,SqL.of hl1⟩,_,rfl,l,ts,.ref t,rfl,rfl,hl1,bH (by omega),?_⟩
 have nn:n≠l:=fY hn1 hl1 (fun z=>by cases z)
 have hn2:upd H1 l (.lst (ts++[.ref t])) n=some (.ins CN dx (mI m l)):=by rw[aW nn];exact hn1
 have hl2:upd H1 l (.lst (ts++[.ref t])) l=some (.lst (ts++[.ref t])):=aC
 refine⟨_,rfl,n,CN,dx,_,_,rfl,hn2,NTx.cl,NTx.nK,fG _ _,l,_,rfl,.inl (SqL.of hl2),_,_,rfl,rfl,?_⟩
 show Q (.int (((ts++[V.ref t]).length:Int) - 1)) _
 rw[List.length_append,List.length_singleton,len,show (((ds.length+1:Nat):Int) - 1)=(ds.length:Int) by omega]
 refine q _ (st.x.write) ⟨⟨dx,hn2⟩,_,hl2,Rts.upd hl1 ((hR.same st).app (.cons et (st.fq fz) .nil))⟩
abbrev lV:Stmt:=cV (top 45) 4
theorem zK:aS ["self","k","size","old"] ["self","k","size"] (aD lV):=⟨rfl,rfl,rfl,by decide +kernel,rfl,by decide +kernel,by decide +kernel⟩
theorem Ik {dV:Value} {CN:Addr} (F:cB K "change" "Net.change" lV dV f fd) (NTx:NT K mg CN)
  (ml:mg "len"=none)
  (G1:aP P w K mg base CX0 3 g1 gd1 ["k","count"] Wp) (b1:aR K gd1 ["k","count"] []) (k1:PySem.W.keepIn K (.ref g1)=true) (m1:mg "refuse_number"=some (.ref g1))
  (G2:aP P w K mg base CX0 4 g2 gd2 ["word","size"] (Sw K)) (b2:aR K gd2 ["word","size"] []) (k2:PySem.W.keepIn K (.ref g2)=true) (m2:mg "refuse_size"=some (.ref g2)):aP P w K mg base CX 5 f fd ["self","k","size"] (zC CN K):=by
 refine F.ok zK (fun vs H Q E h=>?_) (fun cdv A outer s H vs Q E hr h=>?_)
 ·obtain⟨n,l,z,m,q',ds,k,i,j,p0,p,rfl,⟨⟨dx,hn⟩,ts,hl,hR⟩,q0,hq,fz,lp,h0,bp,q⟩:=h
  rfl
 obtain⟨n,l,z,m,q',ds,k,i,j,p0,p,rfl,⟨⟨dx,hn⟩,ts,hl,hR⟩,q0,hq,fz,lp,h0,bp,q⟩:=h
 have r2:=hr.mono (show 3≤4 by omega)
 refine⟨_,(aB (bQ (aI G1 r2 rfl m1 k1 b1 .nil aL (aA (pv 1) (aA (cK bO rfl ml PySem.boot_len (aA (bV (pv 0) rfl) aE)) aE))))
  (aB (aT (i:=3) zK.nd rfl (Or.inl rfl) (aX bN (bV (pv 0) rfl) (pv 1) (fun _ _=>rfl)))
  (aB (bQ (aI G2 hr rfl m2 k2 b2 .nil aL (aA (aX bA (pv 3) aF (fun _ _=>rfl)) (aA (pv 2) aE))))
  (aG (pJ (cW (aA (aX bA (pv 3) aF (fun _ _=>rfl)) (aA (aX bA (pv 3) aF (fun _ _=>rfl)) (aA (aX bA (pv 3) aF (fun _ _=>rfl)) (aA (pv 2) aE))))) (pA (bV (pv 0) rfl) (pv 1) iY)))))),?_⟩
 have len:=hR.length
 have lt:q'.toNat < ds.length:=(List.getElem?_eq_some_iff.mp hq).1
 obtain⟨t,z0,et,ht,_⟩:=hR.at hq
 have at_:atI ts q'=some (.ref t):=by
  have:=bZ et
  rwa [show ((q'.toNat:Nat):Int)=q' by omega] at this
 have ix_:ixN ts.length q'=some q'.toNat:=by
  have:=lD (n:=ts.length) (k:=q'.toNat) (by omega)
  rwa [show ((q'.toNat:Nat):Int)=q' by omega] at this
 refine⟨_,rfl,_,rfl,n,CN,dx,_,_,rfl,hn,NTx.cl,NTx.nK,fG _ _,l,ts,rfl,.inl (SqL.of hl),q',_,rfl,q0,by omega,?_⟩
 refine⟨_,rfl,n,CN,dx,_,_,rfl,hn,NTx.cl,NTx.nK,fG _ _,_,rfl,l,ts,q',_,rfl,rfl,SqL.of hl,at_,?_⟩
 refine⟨_,rfl,t,_,0,_,rfl,rfl,ht,rfl,_,rfl,k,z,p,rfl,fz,lp,h0,bp,?_⟩
 refine⟨_,rfl,t,_,0,_,rfl,rfl,ht,rfl,_,rfl,t,_,1,_,rfl,rfl,ht,rfl,_,rfl,t,_,2,_,rfl,rfl,ht,rfl,_,rfl,by show 4≤sizeLine;decide,fun u hu=>?_⟩
 have su:=aH hu (.tup [.str k.wd,.int i,.int j,.ref z])
 have eu:SqT K (upd H u (.tup [.str k.wd,.int i,.int j,.ref z])) u [.str k.wd,.int i,.int j,.ref z]:=SqT.of aC
 generalize upd H u (.tup [.str k.wd,.int i,.int j,.ref z])=H1 at su eu ⊢
 have hn1:=su _ _ hn
 have hl1:=su _ _ hl
 refine⟨_,rfl,n,CN,dx,_,_,rfl,hn1,NTx.cl,NTx.nK,fG _ _,_,rfl,l,ts,q',q'.toNat,rfl,rfl,hl1,ix_,?_⟩
 have nn:n≠l:=fY hn1 hl1 (fun z=>by cases z)
 refine q _ (su.x.write) ⟨⟨dx,by rw[aW nn];exact hn1⟩,_,aC,Rts.upd hl1 (Rts.set eu (su.fq fz) _ (hR.same su))⟩
theorem Pc:(["told"]:List Str).Nodup:=by decide +kernel
abbrev uU:Stmt:=cV (top 45) 5
theorem Uc:aS ["self"] ["self"] (aD uU):=⟨rfl,rfl,rfl,by decide +kernel,rfl,by decide +kernel,by decide +kernel⟩
theorem Og {dV:Value} {CN:Addr} (F:cB K "rows" "Net.rows" uU dV f fd) (NTx:NT K mg CN)
  (G1:aP P w K mg base CX0 3 g1 gd1 ["told"] (rX K CK)) (b1:aR K gd1 ["told"] []) (k1:PySem.W.keepIn K (.ref g1)=true) (m1:mg "row_of"=some (.ref g1)):aP P w K mg base CX 4 f fd ["self"] (tH CN K CK):=by
 refine F.ok Uc (fun vs H Q E h=>?_) (fun cdv A outer s H vs Q E hr h=>?_)
 ·obtain⟨n,l,m,ds,rfl,⟨⟨dx,hn⟩,ts,hl,hR⟩,h100,q⟩:=h
  rfl
 obtain⟨n,l,m,ds,rfl,⟨⟨dx,hn⟩,ts,hl,hR⟩,h100,q⟩:=h
 refine⟨_,(aG (aY (gV (nl:=1) (fr:=[]) (Nc:=["told"]) (cl:=[]) rfl ⟨rfl,rfl,by decide +kernel,by decide +kernel,fun x c h=>(by cases h),gQ rfl,rfl,fun i n h=>(by simp at h)⟩
    (cY (bV (pv 0) rfl)) (fun C s3 H3 fp pins=>(bF (i:=0) Pc rfl (Or.inl rfl))) (fun C s3 H3 fp pins=>gB)
    (fun C s3 H3 fp pins=>(aI G1 hr rfl m1 k1 b1 .nil aL (aA (pv 0) aE)))))),?_⟩
 have len:=hR.length
 refine⟨_,rfl,n,CN,dx,_,_,rfl,hn,NTx.cl,NTx.nK,fG _ _,l,rfl,⟨_,SqL.of hl⟩,fun D hD=>?_⟩
 have sD:=aH hD (.lst [])
 refine fZ (xs:=ts) (fun i zs H'=>bC H H'∧H' D=some (.lst zs)∧gF CK K H' zs (ds.take i)) ⟨sD,aC,.nil⟩ (fun i zs H' h=>h.2.1) (fun i zs H' _ h=>h.1.seq (SqL.of hl)) ?_ ?_
 ·rintro i zs x H1 hx ⟨s1,e1,R1⟩ C hC
  have hi:i < ds.length:=by
   have:=(List.getElem?_eq_some_iff.mp hx).1
   omega
  obtain⟨⟨k,u,v,p⟩,hd⟩:∃d,ds[i]?=some d:=⟨_,List.getElem?_eq_getElem hi⟩
  obtain⟨t,z,et,ht,fz⟩:=hR.at hd
  have ex:x=.ref t:=by rw[et] at hx;exact(Option.some.inj hx).symm
  subst ex
  have lz:=R1.length
  rw[List.length_take] at lz
  refine⟨gH.1,gH.2,gJ ?_⟩
  refine⟨_,rfl,t,_,_,_,_,rfl,s1.seqT ht,k,rfl,fun y H2 s2 ny rw=>?_⟩
  have e2:=s2 _ _ e1
  refine⟨e2,bH (by omega),hC _ _ ⟨(s1.trans s2).change hD,aC,?_⟩⟩
  rw[List.take_add_one,hd]
  exact gF.upd e2 ((R1.same s2).app (.cons rw ((s1.trans s2).fq fz) .nil))
 ·rintro zs H1 ⟨s1,e1,R1⟩
  rw[len,List.take_length] at R1
  exact q D zs H1 s1 hD e1 R1
theorem Au {g:Addr} {gd:FuncData} (F:aP P w K mg base CX0 2 g gd ["thing"] (Nf K)):aP P w K mg base CX0 2 g gd ["thing"] (Nz K):=
 F.weak fun vs H Q E h=>by
  obtain⟨a,p,rfl,f,l,q⟩:=h
  exact⟨_,some p,rfl,.fr f l,q⟩
abbrev Zn:Stmt:=top 21
abbrev wP:Stmt:=top 22
theorem Sy:aS ["one","other"] ["one","other"] (aD wP):=⟨rfl,rfl,rfl,by decide +kernel,rfl,by decide +kernel,by decide +kernel⟩
theorem Ot {dV:Value} (F:cB K "over" "over" wP dV f fd)
  (G1:aP P w K mg base CX0 2 g1 gd1 ["top","bottom"] jM) (b1:aR K gd1 ["top","bottom"] []) (k1:PySem.W.keepIn K (.ref g1)=true) (m1:mg "fraction"=some (.ref g1)) :
  aP P w K mg base CX 3 f fd ["one","other"] (Cb K):=by
 refine F.ok Sy (fun vs H Q E h=>?_) (fun cdv A outer s H vs Q E hr h=>?_)
 ·obtain⟨a,b,p,q,n,m,rfl,ha,hb,lp,lq,h0,bp,bq,hn,z⟩:=h
  rfl
 obtain⟨a,b,p,q,n,m,rfl,ha,hb,lp,lq,h0,bp,bq,hn,z⟩:=h
 refine⟨_,(aB (cD (bG eQ (aX bA (pv 1) aF (fun _ _=>rfl)) aF (bL _)) (aG fE) bK)
  (aG (aY (aI G1 hr rfl m1 k1 b1 .nil aL (aA (aV dG (aX bA (pv 0) aF (fun _ _=>rfl)) (aX bA (pv 1) aF (fun _ _=>rfl))) (aA (aV dG (aX bA (pv 0) aF (fun _ _=>rfl)) (aX bA (pv 1) aF (fun _ _=>rfl))) aE)))))),?_⟩
 refine fX rfl hb ⟨rfl,_,rfl,?_⟩
 rw[decide_eq_false (fun e=>absurd (show q.1=0 by injection e) (by omega))]
 refine eV ?_
 refine fX rfl ha (dH rfl hb (dF bp.a bq.b (by omega) (by omega) ?_))
 exact dH rfl ha (fX rfl hb (dF bp.b bq.a (by omega) (by omega) ⟨_,_,n+m,rfl,Mq.rC lp (by omega),bp.b.mul bq.a,by omega,z⟩))
end
section
variable {P:Program} {w:World} {K:PySem.W.Frag} {mg:Str→Option Value} {base:Heap} {f g1 g2 g3 g4 g5 g6 g7 g8:Addr} {fd gd1 gd2 gd3 gd4 gd5 gd6 gd7 gd8:FuncData} {CX:CXT}
variable {CR:Addr} {CK:Kd→Addr} {fW fJ fT fS:Kd→Addr} {fdW fdJ fdT fdS:Kd→FuncData}
abbrev pZ:Stmt:=top 66
theorem Qs:aS ["line","column","amount"] ["line","column","amount"] (aD pZ):=⟨rfl,rfl,rfl,by decide +kernel,rfl,by decide +kernel,by decide +kernel⟩
theorem Nd {dV:Value} (F:cB K "raise_at" "raise_at" pZ dV f fd)
  (G1:aP P w K mg base CX0 3 g1 gd1 ["one","other"] (mP K Mq.rV)) (b1:aR K gd1 ["one","other"] []) (k1:PySem.W.keepIn K (.ref g1)=true) (m1:mg "plus"=some (.ref g1)) :
  aP P w K mg base CX 4 f fd ["line","column","amount"] (rE K):=by
 refine F.ok Qs (fun vs H Q E h=>?_) (fun cdv A outer s H vs Q E hr h=>?_)
 ·obtain⟨l,z,j,xs,ps,a,n,m,rfl,hl,hF,hj,p1,bp,fz,a1,ba,hn,q⟩:=h
  rfl
 obtain⟨l,z,j,xs,ps,a,n,m,rfl,hl,hF,hj,p1,bp,fz,a1,ba,hn,q⟩:=h
 refine⟨_,(aG (pJ (aI G1 hr rfl m1 k1 b1 .nil aL (aA (aX bN (pv 0) (pv 1) (fun _ _=>rfl)) (aA (pv 2) aE))) (pA (pv 0) (pv 1) iY))),?_⟩
 have lx:=hF.length
 obtain⟨u,eu,fu⟩:=hF.at (jD hj)
 refine⟨_,rfl,_,rfl,l,xs,_,_,rfl,rfl,SqL.of hl,bZ eu,_,rfl,u,z,_,a,n,m,rfl,fu,fz,p1,a1,bp,ba,hn,fun v H1 s1 e1=>?_⟩
 exact⟨_,rfl,_,rfl,l,xs,_,j,rfl,rfl,s1 _ _ hl,lD (by omega),q v H1 s1 (Fq.of e1)⟩
abbrev pS:Stmt:=top 65
theorem Qr:aS ["matrix","row","column","amount"] ["matrix","row","column","amount"] (aD pS):=⟨rfl,rfl,rfl,by decide +kernel,rfl,by decide +kernel,by decide +kernel⟩
theorem Kc {dV:Value} (F:cB K "enter_stream" "enter_stream" pS dV f fd)
  (T:RT K mg CR CK) {aN:Addr} (fN:∀H,Fq K H aN (0,1)) (mNO:mg "NOUGHT"=some (.ref aN))
  (G1:aP P w K mg base CX0 4 g1 gd1 ["line","column","amount"] (rE K)) (b1:aR K gd1 ["line","column","amount"] []) (k1:PySem.W.keepIn K (.ref g1)=true) (m1:mg "raise_at"=some (.ref g1))
  (G2:aP P w K mg base CX0 3 g2 gd2 ["one","other"] (mP K Mq.minus)) (b2:aR K gd2 ["one","other"] []) (k2:PySem.W.keepIn K (.ref g2)=true) (m2:mg "minus"=some (.ref g2)) :
  aP P w K mg base CX 5 f fd ["matrix","row","column","amount"] (wT K CK):=by
 refine F.ok Qr (fun vs H Q E h=>?_) (fun cdv A outer s H vs Q E hr h=>?_)
 ·obtain⟨D,x,z,zz,as,M,⟨k0,u,v,p⟩,w,n,k,c,a,rfl,mx,mb,rw,pt,hc,fz,la,ba,hn,q⟩:=h
  rfl
 obtain⟨D,x,z,zz,as,M,⟨k0,u,v,p⟩,w,n,k,c,a,rfl,mx,mb,rw,pt,hc,fz,la,ba,hn,q⟩:=h
 have r3:=hr.mono (show 3≤4 by omega)
 refine⟨_,(aB (bQ (aI G1 hr rfl m1 k1 b1 .nil aL (aA (aX bN (pv 0) (bV (pv 1) rfl) (fun _ _=>rfl)) (aA (pv 2) (aA (pv 3) aE)))))
  (aG (bQ (aI G1 hr rfl m1 k1 b1 .nil aL (aA (aX bN (pv 0) (bV (pv 1) rfl) (fun _ _=>rfl)) (aA (pv 2) (aA (aI G2 r3 rfl m2 k2 b2 .nil aL (aA (dA (v:=.ref aN) rfl mNO rfl) (aA (pv 3) aE))) aE))))))),?_⟩
 obtain⟨i0,i1,j0,j1⟩:cQ (w:Int) u v:=pt
 obtain⟨uN,rfl⟩:∃uN:Nat,u=(uN:Int):=⟨u.toNat,by omega⟩
 obtain⟨vN,rfl⟩:∃vN:Nat,v=(vN:Int):=⟨v.toNat,by omega⟩
 have hu':uN < w:=by omega
 have hv':vN < w:=by omega
 obtain⟨ln,bn,_⟩:=kP la ba
 obtain⟨dx,hx⟩:=id rw
 obtain⟨e1,m1,w1⟩:=mb.row hu'
 obtain⟨e2,l2,b2⟩:=mb.at hu' hc
 have lam:=mx.la
 obtain⟨a1,ha1⟩:∃a1,as[uN]?=some a1:=⟨_,List.getElem?_eq_getElem (by rw[lam,mb.h];exact hu')⟩
 obtain⟨xs,hxs,hF⟩:=mx.r uN a1 _ ha1 e1
 have at1:atI (as.map V.ref) (uN:Int)=some (.ref a1):=bZ (by rw[List.getElem?_map,ha1];rfl)
 refine⟨_,rfl,_,rfl,x,CK _,_,_,_,rfl,hx,T.cl _,T.nS _,dB _ _ _,D,_,_,_,rfl,rfl,SqL.of mx.d,at1,_,rfl,_,rfl,a1,z,c,xs,_,a,n,k,rfl,hxs,hF,by rw[w1];exact hc,l2.pos,b2,fz,la.pos,ba,by omega,fun v1 H1 s1 f1=>?_⟩
 obtain⟨mx2,sx2⟩:=mx.set (j:=c) ha1 e1 hxs hF s1 f1
 have mb2:=mb.rz hu' hc la ba
 generalize upd H1 a1 (.lst (xs.set c (.ref v1)))=H2 at mx2 sx2 ⊢
 have mx2:Mx K H2 D as (rz M uN c a):=mx2
 have ls:=mx.lsts
 have fz2:Fq K H2 z a:=sx2.seqT ls fz
 obtain⟨dx2,hx2⟩:=id (sx2.rw ls rw)
 obtain⟨e3,m3,w3⟩:=mb2.row hv'
 obtain⟨e4,l4,b4⟩:=mb2.at hv' hc
 obtain⟨a2,ha2⟩:∃a2,as[vN]?=some a2:=⟨_,List.getElem?_eq_getElem (by rw[lam,mb.h];exact hv')⟩
 obtain⟨xs2,hxs2,hF2⟩:=mx2.r vN a2 _ ha2 e3
 have at2:atI (as.map V.ref) (vN:Int)=some (.ref a2):=bZ (by rw[List.getElem?_map,ha2];rfl)
 have b01:Mq.Bd 1 (0,1):=⟨show (0:Nat) < 2 ^ 1 by decide,show (1:Nat) < 2 ^ 1 by decide⟩
 refine⟨_,rfl,_,rfl,x,CK _,_,_,_,rfl,hx2,T.cl _,T.nG _,dQ _ _ _,D,_,_,_,rfl,rfl,SqL.of mx2.d,at2,_,rfl,_,rfl,aN,z,(0,1),a,1,k,rfl,fN _,fz2,by decide,la.pos,b01,ba,by omega,fun v3 H3 s3 e5=>?_⟩
 refine⟨a2,v3,c,xs2,_,_,n+k+1,k+2,rfl,s3 _ _ hxs2,hF2.same s3,by rw[w3];exact hc,l4.pos,b4,Fq.of e5,ln.pos,bn,by omega,fun v4 H4 s4 f4=>?_⟩
 obtain⟨mx3,sx3⟩:=(mx2.same s3).set (j:=c) ha2 e3 (s3 _ _ hxs2) (hF2.same s3) s4 f4
 exact q _ (sx2.trans (s3.sx.trans sx3)) mx3
abbrev lZ:Stmt:=top 62
theorem Av:aS ["matrix","row","share"] ["matrix","row"] (aD lZ):=⟨rfl,rfl,rfl,by decide +kernel,rfl,by decide +kernel,by decide +kernel⟩
theorem Iu {dV:Value} (F:cB K "enter_piece" "enter_piece" lZ dV f fd)
  (T:RT K mg CR CK) {aN aO:Addr} (fN:∀H,Fq K H aN (0,1)) (mNO:mg "NOUGHT"=some (.ref aN)) (fO:∀H,Fq K H aO (1,1)) (mON:mg "ONE"=some (.ref aO))
  (G1:aP P w K mg base CX0 3 g1 gd1 ["one","other"] (Cb K)) (b1:aR K gd1 ["one","other"] []) (k1:PySem.W.keepIn K (.ref g1)=true) (m1:mg "over"=some (.ref g1))
  (G2:aP P w K mg base CX0 5 g2 gd2 ["matrix","row","column","amount"] (wT K CK)) (b2:aR K gd2 ["matrix","row","column","amount"] []) (k2:PySem.W.keepIn K (.ref g2)=true) (m2:mg "enter_stream"=some (.ref g2))
  (G3:aP P w K mg base CX0 3 g3 gd3 ["one","other"] (mP K Mq.minus)) (b3:aR K gd3 ["one","other"] []) (k3:PySem.W.keepIn K (.ref g3)=true) (m3:mg "minus"=some (.ref g3)) :
  aP P w K mg base CX 6 f fd ["matrix","row"] (Bb K CK):=by
 refine F.ok Av (fun vs H Q E h=>?_) (fun cdv A outer s H vs Q E hr h=>?_)
 ·obtain⟨D,x,zz,as,M,⟨k0,u,v,p⟩,w,n,k,rfl,mx,mb,rw,fp,pt,lp,p0,bp,hn,q⟩:=h
  rfl
 obtain⟨D,x,zz,as,M,⟨k0,u,v,p⟩,w,n,k,rfl,mx,mb,rw,fp,pt,lp,p0,bp,hn,q⟩:=h
 have r3:=hr.mono (show 3≤5 by omega)
 refine⟨_,(aB (aT (i:=2) Av.nd rfl (Or.inl rfl) (aI G1 r3 rfl m1 k1 b1 .nil aL (aA (dA (v:=.ref aO) rfl mON rfl) (aA (bV (pv 1) rfl) aE))))
  (aB (bQ (aI G2 hr rfl m2 k2 b2 .nil aL (aA (pv 0) (aA (pv 1) (aA (bV (pv 1) rfl) (aA (pv 2) aE))))))
  (aG (bQ (aI G2 hr rfl m2 k2 b2 .nil aL (aA (pv 0) (aA (pv 1) (aA (bV (pv 1) rfl) (aA (aI G3 r3 rfl m3 k3 b3 .nil aL (aA (dA (v:=.ref aN) rfl mNO rfl) (aA (pv 2) aE))) aE))))))))),?_⟩
 have lp:Mq.Low p:=lp
 have p0:0 < p.1:=p0
 have bp:Mq.Bd k p:=bp
 have fp:Fq K H zz p:=fp
 obtain⟨i0,i1,j0,j1⟩:cQ (w:Int) u v:=pt
 obtain⟨uN,rfl⟩:∃uN:Nat,u=(uN:Int):=⟨u.toNat,by omega⟩
 obtain⟨vN,rfl⟩:∃vN:Nat,v=(vN:Int):=⟨v.toNat,by omega⟩
 obtain⟨ls,bs,_⟩:=yZ lp p0 bp
 obtain⟨ln,bn,_⟩:=kP ls bs
 have pt':cQ (w:Int) (uN:Int) (vN:Int):=⟨i0,i1,j0,j1⟩
 obtain⟨dx,hx⟩:=id rw
 refine⟨_,rfl,x,CK _,_,_,_,rfl,hx,T.cl _,T.nZ _,fV _ _ _,aO,zz,(1,1),p,1,k,rfl,fO _,fp,h11,lp.pos,p0,gN,bp,by omega,fun s' H1 s1 e1=>?_⟩
 have fs:Fq K H1 s' (Mq.pC (1,1) p):=Fq.of e1
 have rw1:=rw.same s1
 obtain⟨dx1,hx1⟩:=id rw1
 have mx1:=mx.same s1
 refine⟨_,rfl,_,rfl,_,rfl,x,CK _,_,_,_,rfl,hx1,T.cl _,T.nS _,dB _ _ _,_,rfl,D,x,s',_,as,M,(k0,(uN:Int),(vN:Int),p),w,n,k+1,uN,_,rfl,mx1,mb,rw1,pt',by omega,fs,ls,bs,by omega,fun H2 sx2 mx2=>?_⟩
 have lst:=mx1.lsts
 have fs2:Fq K H2 s' (Mq.pC (1,1) p):=sx2.seqT lst fs
 have rw2:=sx2.rw lst rw1
 obtain⟨dx2,hx2⟩:=id rw2
 obtain⟨mb2,_⟩:=Be (d:=(k0,(uN:Int),(vN:Int),p)) mb pt' (c:=uN) (by omega) ls bs
 have b01:Mq.Bd 1 (0,1):=⟨show (0:Nat) < 2 ^ 1 by decide,show (1:Nat) < 2 ^ 1 by decide⟩
 refine⟨_,rfl,_,rfl,_,rfl,x,CK _,_,_,_,rfl,hx2,T.cl _,T.nG _,dQ _ _ _,_,rfl,aN,s',(0,1),_,1,k+1,rfl,fN _,fs2,by decide,ls.pos,b01,bs,by omega,fun v3 H3 s3 e3=>?_⟩
 refine⟨D,x,v3,_,as,_,(k0,(uN:Int),(vN:Int),p),w,n+2*(k+1)+4,k+3,vN,_,rfl,mx2.same s3,mb2,rw2.same s3,pt',by omega,Fq.of e3,ln,bn,by omega,fun H4 sx4 mx4=>?_⟩
 exact q H4 (s1.sx.trans (sx2.trans (s3.sx.trans sx4))) mx4
abbrev lM:Stmt:=top 63
theorem Mn:aS ["right","row"] ["right","row"] (aD lM):=⟨rfl,rfl,rfl,by decide +kernel,rfl,by decide +kernel,by decide +kernel⟩
theorem Ip {dV:Value} (F:cB K "enter_push" "enter_push" lM dV f fd)
  (T:RT K mg CR CK) {aN:Addr} (fN:∀H,Fq K H aN (0,1)) (mNO:mg "NOUGHT"=some (.ref aN))
  (G1:aP P w K mg base CX0 4 g1 gd1 ["line","column","amount"] (rE K)) (b1:aR K gd1 ["line","column","amount"] []) (k1:PySem.W.keepIn K (.ref g1)=true) (m1:mg "raise_at"=some (.ref g1))
  (G2:aP P w K mg base CX0 3 g2 gd2 ["one","other"] (mP K Mq.minus)) (b2:aR K gd2 ["one","other"] []) (k2:PySem.W.keepIn K (.ref g2)=true) (m2:mg "minus"=some (.ref g2)) :
  aP P w K mg base CX 5 f fd ["right","row"] (sY K CK):=by
 refine F.ok Mn (fun vs H Q E h=>?_) (fun cdv A outer s H vs Q E hr h=>?_)
 ·obtain⟨R,x,zz,ys,rs,⟨k0,u,v,p⟩,w,n,k,rfl,eR,hF,lb,rw,fp,pt,lp,bp,hn,q⟩:=h
  rfl
 obtain⟨R,x,zz,ys,rs,⟨k0,u,v,p⟩,w,n,k,rfl,eR,hF,lb,rw,fp,pt,lp,bp,hn,q⟩:=h
 have r3:=hr.mono (show 3≤4 by omega)
 refine⟨_,(aB (bQ (aI G1 hr rfl m1 k1 b1 .nil aL (aA (pv 0) (aA (bV (pv 1) rfl) (aA (aI G2 r3 rfl m2 k2 b2 .nil aL (aA (dA (v:=.ref aN) rfl mNO rfl) (aA (bV (pv 1) rfl) aE))) aE)))))
  (aG (bQ (aI G1 hr rfl m1 k1 b1 .nil aL (aA (pv 0) (aA (bV (pv 1) rfl) (aA (bV (pv 1) rfl) aE))))))),?_⟩
 have lp:Mq.Low p:=lp
 have bp:Mq.Bd k p:=bp
 have fp:Fq K H zz p:=fp
 obtain⟨i0,i1,j0,j1⟩:cQ (w:Int) u v:=pt
 obtain⟨uN,rfl⟩:∃uN:Nat,u=(uN:Int):=⟨u.toNat,by omega⟩
 obtain⟨vN,rfl⟩:∃vN:Nat,v=(vN:Int):=⟨v.toNat,by omega⟩
 obtain⟨ln,bn,_⟩:=kP lp bp
 obtain⟨dx,hx⟩:=id rw
 obtain⟨_,l1,b1⟩:=lb.at (j:=uN) (by omega)
 have b01:Mq.Bd 1 (0,1):=⟨show (0:Nat) < 2 ^ 1 by decide,show (1:Nat) < 2 ^ 1 by decide⟩
 refine⟨_,rfl,_,rfl,x,CK _,_,_,_,rfl,hx,T.cl _,T.nS _,dB _ _ _,_,rfl,x,CK _,_,_,_,rfl,hx,T.cl _,T.nZ _,fV _ _ _,aN,zz,(0,1),p,1,k,rfl,fN _,fp,by decide,lp.pos,b01,bp,by omega,fun v1 H1 s1 e1=>?_⟩
 refine⟨R,v1,uN,ys,rs,_,n,k+2,rfl,s1 _ _ eR,hF.same s1,by rw[lb.w];omega,l1.pos,b1,Fq.of e1,ln.pos,bn,by omega,fun v2 H2 s2 f2=>?_⟩
 have s12:=s1.trans s2
 have eR2:=s12 _ _ eR
 have F3:=(Fqs.set f2 uN (hF.same s12)).upd (o:=.lst (ys.set uN (.ref v2))) eR2
 have e3:upd H2 R (.lst (ys.set uN (.ref v2))) R=some (.lst (ys.set uN (.ref v2))):=aC
 have sx3:SX [R] H (upd H2 R (.lst (ys.set uN (.ref v2)))):=s12.sx.write (by simp)
 have fp3:Fq K (upd H2 R (.lst (ys.set uN (.ref v2)))) zz p:=SqT.upd (s12.fq fp) eR2
 have rw3:=(rw.same s12).upd (o:=.lst (ys.set uN (.ref v2))) eR2
 generalize upd H2 R (.lst (ys.set uN (.ref v2)))=H3 at F3 e3 sx3 fp3 rw3 ⊢
 have lb3:=lb.rz (j:=uN) (by omega) ln bn
 have F3:Fqs K H3 (ys.set uN (.ref v2)) (rzl rs uN (Mq.minus (0,1) p)):=F3
 obtain⟨_,l4,b4⟩:=lb3.at (j:=vN) (by omega)
 obtain⟨dx3,hx3⟩:=id rw3
 refine⟨_,rfl,_,rfl,x,CK _,_,_,_,rfl,hx3,T.cl _,T.nG _,dQ _ _ _,_,rfl,x,CK _,_,_,_,rfl,hx3,T.cl _,T.nZ _,fV _ _ _,R,zz,vN,_,_,p,n+(k+2)+1,k,rfl,e3,F3,by rw[lb3.w];omega,l4.pos,b4,fp3,lp.pos,bp,by omega,fun v5 H5 s5 f5=>?_⟩
 refine q _ _ (sx3.trans (s5.sx.write (by simp))) aC ?_
 exact(Fqs.set f5 vN (F3.same s5)).upd (s5 _ _ e3)
abbrev lT:Stmt:=top 64
theorem Jc:aS ["matrix","right","row","column"] ["matrix","right","row","column"] (aD lT):=⟨rfl,rfl,rfl,by decide +kernel,rfl,by decide +kernel,by decide +kernel⟩
theorem Iy {dV:Value} (F:cB K "enter_hold" "enter_hold" lT dV f fd)
  (T:RT K mg CR CK) {aN aO:Addr} (fN:∀H,Fq K H aN (0,1)) (mNO:mg "NOUGHT"=some (.ref aN)) (fO:∀H,Fq K H aO (1,1)) (mON:mg "ONE"=some (.ref aO))
  (G1:aP P w K mg base CX0 5 g1 gd1 ["matrix","row","column","amount"] (wT K CK)) (b1:aR K gd1 ["matrix","row","column","amount"] []) (k1:PySem.W.keepIn K (.ref g1)=true) (m1:mg "enter_stream"=some (.ref g1))
  (G2:aP P w K mg base CX0 4 g2 gd2 ["line","column","amount"] (rE K)) (b2:aR K gd2 ["line","column","amount"] []) (k2:PySem.W.keepIn K (.ref g2)=true) (m2:mg "raise_at"=some (.ref g2))
  (G3:aP P w K mg base CX0 3 g3 gd3 ["one","other"] (mP K Mq.minus)) (b3:aR K gd3 ["one","other"] []) (k3:PySem.W.keepIn K (.ref g3)=true) (m3:mg "minus"=some (.ref g3)) :
  aP P w K mg base CX 6 f fd ["matrix","right","row","column"] (Am K CK):=by
 refine F.ok Jc (fun vs H Q E h=>?_) (fun cdv A outer s H vs Q E hr h=>?_)
 ·obtain⟨D,R,x,zz,as,M,ys,rs,⟨k0,u,v,p⟩,w,n,c,rfl,mx,mb,eR,hFR,lr,nRD,nRa,rw,fp,pt,hc,hn,q⟩:=h
  rfl
 obtain⟨D,R,x,zz,as,M,ys,rs,⟨k0,u,v,p⟩,w,n,c,rfl,mx,mb,eR,hFR,lr,nRD,nRa,rw,fp,pt,hc,hn,q⟩:=h
 have r3:=hr.mono (show 3≤5 by omega)
 have r4:=hr.mono (show 4≤5 by omega)
 refine⟨_,(aB (bQ (aI G1 hr rfl m1 k1 b1 .nil aL (aA (pv 0) (aA (pv 2) (aA (pv 3) (aA (dA (v:=.ref aO) rfl mON rfl) aE))))))
  (aB (bQ (aI G2 r4 rfl m2 k2 b2 .nil aL (aA (aX bN (pv 0) (pv 3) (fun _ _=>rfl)) (aA (bV (pv 2) rfl) (aA (dA (v:=.ref aO) rfl mON rfl) aE)))))
  (aB (bQ (aI G2 r4 rfl m2 k2 b2 .nil aL (aA (aX bN (pv 0) (pv 3) (fun _ _=>rfl)) (aA (bV (pv 2) rfl) (aA (aI G3 r3 rfl m3 k3 b3 .nil aL (aA (dA (v:=.ref aN) rfl mNO rfl) (aA (dA (v:=.ref aO) rfl mON rfl) aE))) aE)))))
  (aG (pJ (bV (pv 2) rfl) (pA (pv 1) (pv 3) iY)))))),?_⟩
 have fp:Fq K H zz p:=fp
 obtain⟨i0,i1,j0,j1⟩:cQ (w:Int) u v:=pt
 obtain⟨uN,rfl⟩:∃uN:Nat,u=(uN:Int):=⟨u.toNat,by omega⟩
 obtain⟨vN,rfl⟩:∃vN:Nat,v=(vN:Int):=⟨v.toNat,by omega⟩
 have pt':cQ (w:Int) (uN:Int) (vN:Int):=⟨i0,i1,j0,j1⟩
 obtain⟨ln,bn,_⟩:=kP gR gN
 have lam:=mx.la
 refine⟨_,rfl,_,rfl,_,rfl,D,x,aO,_,as,M,(k0,(uN:Int),(vN:Int),p),w,n,1,c,(1,1),rfl,mx,mb,rw,pt',hc,fO _,gR,gN,by omega,fun H1 sx1 mx1=>?_⟩
 have lst:=mx.lsts
 have rw1:=sx1.rw lst rw
 have fp1:Fq K H1 zz p:=sx1.seqT lst fp
 have eR1:=sx1 _ _ eR nRa
 have FR1:=SX.fqs lst sx1 hFR
 obtain⟨mb1,_⟩:=Be (d:=(k0,(uN:Int),(vN:Int),p)) mb pt' hc gR gN
 generalize hM1:en M (k0,(uN:Int),(vN:Int),p) c (1,1)=M1 at mx1 mb1
 obtain⟨ac,hac⟩:∃ac,as[c]?=some ac:=⟨_,List.getElem?_eq_getElem (by rw[lam,mb.h];exact hc)⟩
 have atc:atI (as.map V.ref) (c:Int)=some (.ref ac):=bZ (by rw[List.getElem?_map,hac];rfl)
 obtain⟨e1,m1,w1⟩:=mb1.row hc
 obtain⟨_,l2,b2⟩:=mb1.at hc (j:=uN) (by omega)
 obtain⟨xs,hxs,hF⟩:=mx1.r c ac _ hac e1
 obtain⟨dx1,hx1⟩:=id rw1
 refine⟨_,rfl,_,rfl,D,_,_,_,rfl,rfl,SqL.of mx1.d,atc,_,rfl,x,CK _,_,_,_,rfl,hx1,T.cl _,T.nS _,dB _ _ _,ac,aO,uN,xs,_,(1,1),n+2*1+4,1,rfl,hxs,hF,by rw[w1];omega,l2.pos,b2,fO _,h11,gN,by omega,fun v1 H2 s2 f2=>?_⟩
 obtain⟨mx3,sx3⟩:=mx1.set (j:=uN) hac e1 hxs hF s2 f2
 have lst1:=mx1.lsts
 generalize upd H2 ac (.lst (xs.set uN (.ref v1)))=H3 at mx3 sx3 ⊢
 have mb3:=mb1.rz hc (j:=uN) (by omega) gR gN
 have mx3:Mx K H3 D as (rz M1 c uN (1,1)):=mx3
 have rw3:=sx3.rw lst1 rw1
 have fp3:Fq K H3 zz p:=sx3.seqT lst1 fp1
 have eR3:=sx3 _ _ eR1 nRa
 have FR3:=SX.fqs lst1 sx3 FR1
 generalize hM3:rz M1 c uN (1,1)=M3 at mx3 mb3
 obtain⟨e3,m3,w3⟩:=mb3.row hc
 obtain⟨_,l4,b4⟩:=mb3.at hc (j:=vN) (by omega)
 obtain⟨xs3,hxs3,hF3⟩:=mx3.r c ac _ hac e3
 obtain⟨dx3,hx3⟩:=id rw3
 refine⟨_,rfl,_,rfl,D,_,_,_,rfl,rfl,SqL.of mx3.d,atc,_,rfl,x,CK _,_,_,_,rfl,hx3,T.cl _,T.nG _,dQ _ _ _,aN,aO,(0,1),(1,1),1,1,rfl,fN _,fO _,by decide,h11,⟨show (0:Nat) < 2 ^ 1 by decide,show (1:Nat) < 2 ^ 1 by decide⟩,gN,by omega,fun v4 H4 s4 e4=>?_⟩
 refine⟨ac,v4,vN,xs3,_,_,n+2*1+4+1+1,1+2,rfl,s4 _ _ hxs3,hF3.same s4,by rw[w3];omega,l4.pos,b4,Fq.of e4,ln.pos,bn,by omega,fun v5 H5 s5 f5=>?_⟩
 obtain⟨mx6,sx6⟩:=(mx3.same s4).set (j:=vN) hac e3 (s4 _ _ hxs3) (hF3.same s4) s5 f5
 have sx36:=(bC.sx (as:=as) s4).trans sx6
 have lst3:=mx3.lsts
 generalize upd H5 ac (.lst (xs3.set vN (.ref v5)))=H6 at mx6 sx6 sx36 ⊢
 have mx6:Mx K H6 D as (rz M3 c vN (Mq.minus (0,1) (1,1))):=mx6
 have rw6:=sx36.rw lst3 rw3
 have fp6:Fq K H6 zz p:=sx36.seqT lst3 fp3
 have eR6:=sx36 _ _ eR3 nRa
 have FR6:=SX.fqs lst3 sx36 FR3
 obtain⟨dx6,hx6⟩:=id rw6
 have ly:=FR6.length
 refine⟨_,rfl,x,CK _,_,_,_,rfl,hx6,T.cl _,T.nZ _,fV _ _ _,_,rfl,_,rfl,R,ys,_,c,rfl,rfl,eR6,lD (by omega),?_⟩
 have eM:hM M (k0,(uN:Int),(vN:Int),p) c=rz M3 c vN (Mq.minus (0,1) (1,1)):=by rw[← hM3,← hM1];rfl
 have mx7:=mx6.other (o:=.lst (ys.set c (.ref zz))) eR6 nRD nRa
 rw[← eM] at mx7
 refine q _ _ ?_ mx7 aC ((Fqs.set fp6 c FR6).upd eR6)
 refine SX.write (SX.mono (sx1.trans (sx3.trans sx36)) fun x hx=>List.mem_cons_of_mem _ hx) (by simp)
end
end K66
set_option maxHeartbeats 2000000
namespace L2
open PySem PySem.Spec PyProof.Rows
def jO (kb:Nat→Nat):Nat→Nat
 |0=>0
 |i+1=>jO kb i+(4*kb i+20)
theorem uK (kb:Nat→Nat) {i:Nat}:∀{j:Nat},i≤j→jO kb i≤jO kb j
 |0,h=>by rw[Nat.le_zero.mp h];exact Nat.le_refl _
 |j+1,h=>by
  rcases Nat.eq_or_lt_of_le h with z | z
  ·rw[z];exact Nat.le_refl _
  ·have:=uK kb (i:=i) (j:=j) (by omega)
   show _≤jO kb j+(4*kb j+20)
   omega
def By (CN:Addr) (K:PySem.W.Frag):Sp:=fun vs H Q _=>∃(n l:Addr) (m:Nat) (kb:Nat→Nat) (ds:List RD),vs=[.ref n]∧cX CN K H n l (m:Int) ds∧(∀i d,ds[i]?=some d→uG (m:Int) d∧Mq.Bd (kb i) d.2.2.2)∧1≤m∧m≤20∧ds.length≤40∧jO kb ds.length+30≤8900∧
 ∀t p r us ys X Y H',bC H H'→H' t=some (.tup [.ref p,.ref r])→H p=none→H r=none→H' p=some (.lst us)→H' r=some (.lst ys)→Fms K H H' us X→Fqs K H' ys Y→(∀x∈us,x≠.ref p∧x≠.ref r)→xQ m ds (jO kb ds.length+1) X Y→Q (.ref t) H'
end L2
set_option maxHeartbeats 4000000
namespace K66
open PySem L2
section
variable {P:Program} {w:World} {K:PySem.W.Frag} {mg:Str→Option Value} {base:Heap} {f g1 g2 g3 g4 g5 g6 g7 g8:Addr} {fd gd1 gd2 gd3 gd4 gd5 gd6 gd7 gd8:FuncData} {CX:CXT}
variable {CR:Addr} {CK:Kd→Addr} {fW fJ fT fS:Kd→Addr} {fdW fdJ fdT fdS:Kd→FuncData}
theorem oC {K:PySem.W.Frag} {H:Hp} {t:Addr} {p:Mq.Q2} (f:Fq K H t p):∀n,Fqs K H (List.replicate n (.ref t)) (List.replicate n p)
 |0=>.nil
 |n+1=>.cons f (oC f n)
theorem nT (x:V):∀n,(List.replicate n [x]).flatten=List.replicate n x
 |0=>rfl
 |n+1=>by rw[List.replicate_succ,List.flatten_cons,nT x n];rfl
theorem vC (xs:List V) (k:Nat):kB xs (some (k:Int)) none=xs.drop k:=by
 unfold kB
 have h1:HT.sIx xs.length xs.length none=xs.length:=rfl
 have h2:HT.sIx xs.length 0 (some (k:Int))=min k xs.length:=by simp[HT.sIx];omega
 rw[h1,h2]
 by_cases h:k≤xs.length
 ·rw[Nat.min_eq_left h,List.take_of_length_le (by simp)]
 ·rw[Nat.min_eq_right (by omega),List.drop_of_length_le (Nat.le_refl _),List.drop_of_length_le (by omega)];simp
theorem Fi (xs:List V):kB xs (some 1) none=xs.drop 1:=vC xs 1
theorem He {X:Cx} {K:PySem.W.Frag} (h:X.K=K):SlR X (Xw K):=by subst h;exact iA
theorem tP (R:List Mq.Q2) (j:Nat):(R.drop 1).getD j (0,1)=R.getD (j+1) (0,1):=by
 rw[List.getD_eq_getElem?_getD,List.getElem?_drop,Nat.add_comm 1 j,List.getD_eq_getElem?_getD]
theorem Iq (M:List (List Mq.Q2)) (i j:Nat):iT ((M.drop 1).map (List.drop 1)) i j=iT M (i+1) (j+1):=by
 have e:((M.drop 1).map (List.drop 1)).getD i []=(M.getD (i+1) []).drop 1:=by
  rw[List.getD_eq_getElem?_getD,List.getElem?_map,List.getElem?_drop,Nat.add_comm 1 i,List.getD_eq_getElem?_getD]
  cases M[i+1]?<;>rfl
 unfold iT
 rw[e,tP]
theorem Na {M:List (List Mq.Q2)} {w n:Nat} (b:MxB M w w n):MxB ((M.drop 1).map (List.drop 1)) (w - 1) (w - 1) n:=by
 refine⟨by rw[List.length_map,List.length_drop,b.h],fun ps hp=>?_,fun ps hp p hp'=>?_⟩
 ·obtain⟨qs,hq,rfl⟩:=List.mem_map.mp hp
  rw[List.length_drop,b.w _ (List.mem_of_mem_drop hq)]
 ·obtain⟨qs,hq,rfl⟩:=List.mem_map.mp hp
  exact b.l _ (List.mem_of_mem_drop hq) _ (List.mem_of_mem_drop hp')
theorem Kq {R:List Mq.Q2} {w n:Nat} (b:LnB R w n):LnB (R.drop 1) (w - 1) n:=⟨by rw[List.length_drop,b.w],fun p hp=>b.l p (List.mem_of_mem_drop hp)⟩
theorem Ph (w:Nat):MxB (List.replicate w (List.replicate w (0,1))) w w 1:=by
 refine⟨List.length_replicate,fun ps hp=>?_,fun ps hp p hp'=>?_⟩
 ·rw[List.eq_of_mem_replicate hp,List.length_replicate]
 ·rw[List.eq_of_mem_replicate hp] at hp'
  rw[List.eq_of_mem_replicate hp']
  exact⟨⟨by decide,by decide⟩,⟨show (0:Nat) < 2 ^ 1 by decide,show (1:Nat) < 2 ^ 1 by decide⟩⟩
theorem pQ (w j:Nat):(List.replicate w ((0,1):Mq.Q2)).getD j (0,1)=(0,1):=by
 rw[List.getD_eq_getElem?_getD]
 cases e:(List.replicate w ((0,1):Mq.Q2))[j]? with
 |none=>rfl
 |some p=>exact List.eq_of_mem_replicate (List.mem_of_getElem? e)
theorem Oc (w i j:Nat):iT (List.replicate w (List.replicate w (0,1))) i j=(0,1):=by
 have e:(List.replicate w (List.replicate w ((0,1):Mq.Q2))).getD i []=[]∨(List.replicate w (List.replicate w ((0,1):Mq.Q2))).getD i []=List.replicate w (0,1):=by
  rw[List.getD_eq_getElem?_getD]
  cases e:(List.replicate w (List.replicate w ((0,1):Mq.Q2)))[i]? with
  |none=>exact .inl rfl
  |some ps=>exact .inr (List.eq_of_mem_replicate (List.mem_of_getElem? e))
 unfold iT
 rcases e with e | e
 ·rw[e];rfl
 ·rw[e];exact pQ w j
theorem xJ (w:Nat):LnB (List.replicate w (0,1)) w 1:=⟨List.length_replicate,fun p hp=>by
 rw[List.eq_of_mem_replicate hp]
 exact⟨⟨by decide,by decide⟩,⟨show (0:Nat) < 2 ^ 1 by decide,show (1:Nat) < 2 ^ 1 by decide⟩⟩⟩
theorem Jo {ds:List RD} (i:Nat):bU (ds.take i)≤bU ds:=by
 have h:bU ds=bU (ds.take i)+bU (ds.drop i):=by
  unfold bU bY
  rw[← List.length_append,← List.filter_append,List.take_append_drop]
 omega
theorem Vs:(["row"]:List Str).Nodup:=by decide +kernel
theorem uC:(["line","width"]:List Str).Nodup:=by decide +kernel
theorem Op:(["line"]:List Str).Nodup:=by decide +kernel
theorem Fqs.drop1 {K:PySem.W.Frag} {H:Hp}:∀{xs:List V} {ps:List Mq.Q2},Fqs K H xs ps→Fqs K H (xs.drop 1) (ps.drop 1)
 |_,_,.nil=>.nil
 |_,_,.cons _ q=>q
abbrev Gw:Stmt:=top 61
theorem nA:aS ["net","rows","many","width","matrix","right","held","row"] ["net"] (aD Gw):=⟨rfl,rfl,rfl,by decide +kernel,rfl,by decide +kernel,by decide +kernel⟩
theorem Vn {dV : Value} (F : cB K "equations" "equations" Gw dV f fd)
    {CN : Addr} (NTx : NT K mg CN) (T : RT K mg CR CK) (ml : mg "len" = none) (mr : mg "range" = none) {aN : Addr} (fN : ∀ H, Fq K H aN (0, 1)) (mNO : mg "NOUGHT" = some (.ref aN))
    (GW : ∀ k, aP P w K mg base CX0 1 (fW k) (fdW k) ["self"] (kY k)) (bW : ∀ k, aR K (fdW k) ["self"] []) (mW : ∀ k, gD K (CK k) "word" (fW k))
    {gRo : Addr} {gdRo : FuncData} (GRo : aP P w K mg base CX0 4 gRo gdRo ["self"] (tH CN K CK)) (bRo : aR K gdRo ["self"] []) (mRo : gD K CN "rows" gRo)
    {gMa : Addr} {gdMa : FuncData} (GMa : aP P w K mg base CX0 1 gMa gdMa ["self"] (oV CN K)) (bMa : aR K gdMa ["self"] []) (mMa : gD K CN "many" gMa)
    (G1 : aP P w K mg base CX0 6 g1 gd1 ["matrix", "row"] (Bb K CK)) (b1 : aR K gd1 ["matrix", "row"] []) (k1 : PySem.W.keepIn K (.ref g1) = true) (m1 : mg "enter_piece" = some (.ref g1))
    (G2 : aP P w K mg base CX0 5 g2 gd2 ["right", "row"] (sY K CK)) (b2 : aR K gd2 ["right", "row"] []) (k2 : PySem.W.keepIn K (.ref g2) = true) (m2 : mg "enter_push" = some (.ref g2))
    (G3 : aP P w K mg base CX0 6 g3 gd3 ["matrix", "right", "row", "column"] (Am K CK)) (b3 : aR K gd3 ["matrix", "right", "row", "column"] []) (k3 : PySem.W.keepIn K (.ref g3) = true) (m3 : mg "enter_hold" = some (.ref g3)) :
    aP P w K mg base CX 7 f fd ["net"] (By CN K) := by
  refine F.ok nA (fun vs H Q E h => ?_) (fun cdv A outer s H vs Q E hr h => ?_)
  · obtain ⟨n, l, m, kb, ds, rfl, nt, hK, hm1, hm20, h40, hbig, q⟩ := h
    rfl
  obtain ⟨n, l, m, kb, ds, rfl, nt, hK, hm1, hm20, h40, hbig, q⟩ := h
  have r1 := hr.mono (show 1 ≤ 6 by omega)
  have r4 := hr.mono (show 4 ≤ 6 by omega)
  have r5 := hr.mono (show 5 ≤ 6 by omega)
  refine ⟨_, (aB (aT (i := 1) nA.nd rfl (Or.inl rfl) (fF (pv 0) NTx.cl mRo GRo r4 bRo .nil aL))
    (aB (aT (i := 2) nA.nd rfl (Or.inl rfl) (fF (pv 0) NTx.cl mMa GMa r1 bMa .nil aL))
    (aB (aT (i := 3) nA.nd rfl (Or.inr rfl) (aV dC (pv 2) (cK bO rfl ml PySem.boot_len (aA (gV (nl := 1) (fr := []) (Nc := ["row"]) (cl := []) rfl ⟨rfl, rfl, by decide +kernel, by decide +kernel, fun x c h => (by cases h), gQ rfl, rfl, fun i n h => (by simp at h)⟩
        (cY (pv 1)) (fun C s3 H3 fp pins => (bF (i := 0) Vs rfl (Or.inl rfl))) (fun C s3 H3 fp pins => (Dz (bG eQ (gA (pv 0) T.cl mW GW r1 bW .nil aL) cI (bL _))))
        (fun C s3 H3 fp pins => (pv 0))) aE))))
    (aB (yH (i := 4) (nl := 1) (fr := [3]) (Nc := ["line", "width"]) (cl := [("width", s.heap.objs.size + 1)]) nA.nd rfl rfl rfl ⟨rfl, rfl, by decide +kernel, by decide +kernel, fun x c h => h, gQ rfl, rfl, fun i n h => match i, h with | 0, h => by cases h; exact ⟨3, rfl, rfl, rfl, rfl, .inl rfl⟩ | k + 1, h => by rw [show 1 + (k + 1) = k + 2 by omega] at h; cases h⟩
        (iC rfl mr (aA (pv 3) aE)) (fun C s3 H3 fp pins => (bF (i := 0) uC rfl (Or.inl rfl))) (fun C s3 H3 fp pins => gB)
        (fun C s3 H3 fp pins => (aV xO (cS (aA (dA (v := .ref aN) rfl mNO rfl) aE)) (pv 1))) rfl)
    (aB (aT (i := 5) nA.nd rfl (Or.inl rfl) (aV xO (cS (aA (dA (v := .ref aN) rfl mNO rfl) aE)) (pv 3)))
    (aB (aT (i := 6) nA.nd rfl (Or.inl rfl) (pv 2))
    (aB (dW PassesOwn.never rfl (cY (pv 1)) (bF (i := 7) nA.nd rfl (Or.inl rfl))
      (aG (cD (bG eQ (gA (pv 7) T.cl mW GW r1 bW .nil aL) cI (bL _)) (aG (bQ (aI G1 hr rfl m1 k1 b1 .nil aL (aA (pv 4) (aA (pv 7) aE))))) (aG (cD (bG eQ (gA (pv 7) T.cl mW GW r1 bW .nil aL) cI (bL _)) (aG (bQ (aI G2 r5 rfl m2 k2 b2 .nil aL (aA (pv 5) (aA (pv 7) aE))))) (aB (bQ (aI G3 hr rfl m3 k3 b3 .nil aL (aA (pv 4) (aA (pv 5) (aA (pv 7) (aA (pv 6) aE))))))
    (aG (Cs (i := 6) nA.nd rfl (Or.inl rfl) aF Cr))))))))
    (aG (aY (cW (aA (gV (nl := 1) (fr := []) (Nc := ["line"]) (cl := []) rfl ⟨rfl, rfl, by decide +kernel, by decide +kernel, fun x c h => (by cases h), gQ rfl, rfl, fun i n h => (by simp at h)⟩
        (cY (fQ iA (pv 4) (fU aF) iQ)) (fun C s3 H3 fp pins => (bF (i := 0) Op rfl (Or.inl rfl))) (fun C s3 H3 fp pins => gB)
        (fun C s3 H3 fp pins => (fQ (He (K := K) rfl) (pv 0) (fU aF) iQ))) (aA (fQ iA (pv 5) (fU aF) iQ) aE)))))))))))), ?_⟩
  obtain ⟨dx, hn⟩ := nt.ob
  refine ⟨_, rfl, n, dx, _, rfl, hn, dX _ _ (by decide +kernel) (by decide +kernel), n, l, _, ds, rfl, nt, by omega, fun a xs H1 s1 na ea Rb => ?_⟩
  have lxs := Rb.length
  obtain ⟨dx1, hn1⟩ := (nt.same s1).ob
  refine ⟨_, rfl, n, dx1, _, rfl, hn1, dX _ _ (by decide +kernel) (by decide +kernel), n, l, _, ds, rfl, nt.same s1, ?_⟩
  refine ⟨_, rfl, _, rfl, a, rfl, ⟨_, SqL.of ea⟩, fun C0 hC0 => ?_⟩
  have sC0 := aH hC0 (.lst [])
  refine fZ (xs := xs) (fun i zs H' => bC H1 H' ∧ H' C0 = some (.lst zs) ∧ zs.length = bU (ds.take i)) ⟨sC0, aC, rfl⟩ (fun i zs H' h => h.2.1) (fun i zs H' _ h => h.1.seq (SqL.of ea)) ?_ ?_
  · rintro i zs x H2 hx ⟨s2, e2, lz⟩ C hC
    have hi : i < ds.length := by
      have := (List.getElem?_eq_some_iff.mp hx).1
      omega
    obtain ⟨⟨k0, u, v, p⟩, hd⟩ : ∃ d, ds[i]? = some d := ⟨_, List.getElem?_eq_getElem hi⟩
    obtain ⟨y, z, ey, rw, fz⟩ := Rb.at hd
    have ex : x = .ref y := by rw [ey] at hx; exact (Option.some.inj hx).symm
    subst ex
    obtain ⟨dr, hy⟩ := id (rw.same s2)
    have et : ds.take (i + 1) = ds.take i ++ [(k0, u, v, p)] := by rw [List.take_add_one, hd]; rfl
    have lh := Jo (ds := ds) i
    have lh2 : bU ds ≤ ds.length := List.length_filter_le _ _
    refine ⟨gH.1, gH.2, ?_⟩
    refine ⟨_, rfl, k0, y, dr, _, rfl, hy, (eE _ _ _ (by decide +kernel) (by decide +kernel) (by decide +kernel)), _, rfl, rfl, _, rfl, ?_⟩
    by_cases hk : k0 = .ho
    · refine ifT (by show decide (V.str k0.wd = V.str Kd.ho.wd) = true; rw [dR]; exact decide_eq_true hk) ⟨_, rfl, e2, bH (by omega), hC _ _ ⟨s2.change hC0, aC, ?_⟩⟩
      rw [et, gX, List.length_append, lz]
      show _ + 1 = _ + cA k0
      unfold cA; rw [if_pos hk]
    · refine ifF (by show decide (V.str k0.wd = V.str Kd.ho.wd) = false; rw [dR]; exact decide_eq_false hk) (hC _ _ ⟨s2, e2, ?_⟩)
      rw [et, gX, lz]
      show _ = _ + cA k0
      unfold cA; rw [if_neg hk]; rfl
  rintro zs0 H2 ⟨s2, e2, lz0⟩
  rw [lxs, List.take_length] at lz0
  refine ⟨C0, zs0, rfl, .inl (SqL.of e2), _, _, rfl, rfl, ?_⟩
  obtain ⟨W, hW⟩ : ∃ W : Nat, W = m + bU ds := ⟨_, rfl⟩
  have lh2 : bU ds ≤ ds.length := List.length_filter_le _ _
  have eW : (m : Int) + (zs0.length : Int) = (W : Int) := by rw [lz0, hW]; omega
  show iO _ _ _ [some (.ref n), some (.ref a), some (.int (m : Int)), some (.int ((m : Int) + (zs0.length : Int))), none, none, none, none] H2
  rw [eW]
  have hW60 : W ≤ 60 := by omega
  have hmW : m ≤ W := by omega
  have s12 := s2
  clear e2 sC0
  refine ⟨_, rfl, (W : Int), rfl, by omega, by omega, fun D hD => ?_⟩
  rw [Int.toNat_natCast]
  have sD := aH hD (.lst [])
  refine Bw (n := W) (fun i zs H' => bC H2 H' ∧ H' D = some (.lst zs) ∧ ∃ as : List Addr, zs = as.map V.ref ∧ as.length = i ∧ as.Nodup ∧ D ∉ as ∧ (∀ b ∈ as, H2 b = none) ∧ ∀ b ∈ as, H' b = some (.lst (List.replicate W (.ref aN)))) ⟨sD, aC, [], rfl, rfl, List.nodup_nil, (by simp), (fun b hb => by cases hb), (fun b hb => by cases hb)⟩ (fun i zs H' h => h.2.1) ?_ ?_
  · rintro i zs H3 hi ⟨s3, e3, as, rfl, la, nd, nD, fr, al⟩ C hC
    refine ⟨gH.1, gH.2, gJ ?_⟩
    refine ⟨by show 1 ≤ sizeLine; decide, fun l1 hl1 => ?_⟩
    have s4 := aH hl1 (.lst [.ref aN])
    have e4 : upd H3 l1 (.lst [.ref aN]) l1 = some (.lst [.ref aN]) := aC
    generalize upd H3 l1 (.lst [.ref aN]) = H4 at s4 e4 ⊢
    refine ⟨_, rfl, l1, (W : Int), [.ref aN], rfl, rfl, e4, by omega, by omega, ?_, fun b hb => ?_⟩
    · rw [Int.toNat_natCast, sizeLine_eq]; simp only [List.length_cons, List.length_nil]; omega
    rw [Int.toNat_natCast, nT]
    have s5 := aH hb (.lst (List.replicate W (.ref aN)))
    have e5 : upd H4 b (.lst (List.replicate W (.ref aN))) b = some (.lst (List.replicate W (.ref aN))) := aC
    generalize upd H4 b (.lst (List.replicate W (.ref aN))) = H5 at s5 e5 ⊢
    have s35 := s4.trans s5
    have e35 := s35 _ _ e3
    have nbD : b ≠ D := Ne.symm (aZ (s4 _ _ e3) hb)
    have nba : b ∉ as := fun z => by rw [s4 _ _ (al b z)] at hb; cases hb
    refine ⟨e35, bH (by rw [List.length_map]; omega), hC _ _ ⟨(s3.trans s35).change hD, aC, as ++ [b], by rw [List.map_append]; rfl, by rw [List.length_append, la]; rfl, ?_, ?_, fun c hc => ?_, fun c hc => ?_⟩⟩
    · rw [List.nodup_append]
      refine ⟨nd, by simp, fun x hx y hy z => ?_⟩
      have : y = b := by simpa using hy
      exact nba (by rw [← this, ← z]; exact hx)
    · intro z
      rcases List.mem_append.mp z with z | z
      · exact nD z
      · have : D = b := by simpa using z
        exact nbD this.symm
    · rcases List.mem_append.mp hc with z | z
      · exact fr c z
      · have : c = b := by simpa using z
        rw [this]
        exact (s3.trans s4).free hb
    · rcases List.mem_append.mp hc with z | z
      · rw [aW (fun y => nD (by rw [← y]; exact z))]; exact s35 _ _ (al c z)
      · have : c = b := by simpa using z
        rw [this, aW nbD]; exact e5
  rintro zs3 H3 ⟨s3, e3, as, rfl, la, nd, nD, fr, al⟩
  have mx3 : Mx K H3 D as (List.replicate W (List.replicate W (0, 1))) := ⟨e3, nd, nD, by rw [la, List.length_replicate], fun i b ps h1 h2 => by
    rw [List.eq_of_mem_replicate (List.mem_of_getElem? h2)]
    exact ⟨_, al b (List.mem_of_getElem? h1), oC (fN _) W⟩⟩
  have nDH : H2 D = none := hD
  refine ⟨by show 1 ≤ sizeLine; decide, fun l1 hl1 => ?_⟩
  have s4 := aH hl1 (.lst [.ref aN])
  have e4 : upd H3 l1 (.lst [.ref aN]) l1 = some (.lst [.ref aN]) := aC
  generalize upd H3 l1 (.lst [.ref aN]) = H4 at s4 e4 ⊢
  refine ⟨_, rfl, l1, (W : Int), [.ref aN], rfl, rfl, e4, by omega, by omega, ?_, fun R hR => ?_⟩
  · rw [Int.toNat_natCast, sizeLine_eq]; simp only [List.length_cons, List.length_nil]; omega
  rw [Int.toNat_natCast, nT]
  have s5 := aH hR (.lst (List.replicate W (.ref aN)))
  have e5 : upd H4 R (.lst (List.replicate W (.ref aN))) R = some (.lst (List.replicate W (.ref aN))) := aC
  generalize upd H4 R (.lst (List.replicate W (.ref aN))) = H5 at s5 e5 ⊢
  have s25 := s3.trans (s4.trans s5)
  have nRH : H2 R = none := (s3.trans s4).free hR
  have nRD : R ≠ D := Ne.symm (aZ ((s4) _ _ mx3.d) hR)
  have nRa : R ∉ as := fun z => by rw [s4 _ _ (al R z)] at hR; cases hR
  have mx5 := (mx3.same s4).same s5
  have allN : ∀ b ∈ R :: as, H2 b = none := fun b hb => by
    rcases List.mem_cons.mp hb with z | z
    · rw [z]; exact nRH
    · exact fr b z
  have F5 : Fqs K H5 (List.replicate W (.ref aN)) (List.replicate W (0, 1)) := oC (fN _) W
  refine ⟨_, rfl, ?_⟩
  have eaH := s12 _ _ ea
  have Rb2 := Rb.same s12
  refine ⟨_, rfl, a, rfl, ⟨_, SqL.of (s25 _ _ eaH)⟩, ?_⟩
  refine fH (xs := xs) (fun i σ H' => bC H2 H' ∧ ∃ (M : List (List Mq.Q2)) (ys : List V) (rs : List Mq.Q2) (z7 : Option V), σ = [some (.ref n), some (.ref a), some (.int (m : Int)), some (.int (W : Int)), some (.ref D), some (.ref R), some (.int ((m + bU (ds.take i) : Nat) : Int)), z7] ∧ Mx K H' D as M ∧ MxB M W W (jO kb i + 1) ∧ H' R = some (.lst ys) ∧ Fqs K H' ys rs ∧ LnB rs W (jO kb i + 1) ∧ (∀ x y, Mq.val (iT M x y) = eqM m (ds.take i) x y) ∧ ∀ x, Mq.val (rs.getD x (0, 1)) = eqR m (ds.take i) x) ⟨s25, _, _, _, none, rfl, mx5, Ph W, e5, F5, xJ W, fun x y => by rw [Oc, Mq.mG]; rfl, fun x => by rw [pQ, Mq.mG]; rfl⟩ (fun i σ H' _ h => h.1.seq (SqL.of eaH)) ?_ ?_
  · rintro i x σ H6 hx ⟨s6, M, ys, rs, z7, rfl, mx, mb, eR, FR, lb, vM, vR⟩
    have hi : i < ds.length := by
      have := (List.getElem?_eq_some_iff.mp hx).1
      omega
    obtain ⟨⟨k0, u, v, p⟩, hd⟩ : ∃ d, ds[i]? = some d := ⟨_, List.getElem?_eq_getElem hi⟩
    obtain ⟨y, z, ey, rw0, fz0⟩ := Rb2.at hd
    have ex : x = .ref y := by rw [ey] at hx; exact (Option.some.inj hx).symm
    subst ex
    obtain ⟨rd, bp⟩ := hK i _ hd
    have lp : Mq.Low p := rd.2.2.2.2.1
    have bp : Mq.Bd (kb i) p := bp
    have ptm : cQ (m : Int) u v := ⟨rd.1, rd.2.1, rd.2.2.1, rd.2.2.2.1⟩
    have ptW : cQ (W : Int) u v := ⟨rd.1, by have := rd.2.1; show u < (W : Int); have h2 : u < (m : Int) := this; omega, rd.2.2.1, by have h2 : v < (m : Int) := rd.2.2.2.1; show v < (W : Int); omega⟩
    have rw6 := rw0.same s6
    have fz6 : Fq K H6 z p := s6.fq fz0
    obtain ⟨dr, hy⟩ := id rw6
    have et : ds.take (i + 1) = ds.take i ++ [(k0, u, v, p)] := by rw [List.take_add_one, hd]; rfl
    have hh := Jo (ds := ds) (i + 1)
    rw [et, gX] at hh
    have hh : bU (ds.take i) + cA k0 ≤ bU ds := hh
    have eN : jO kb (i + 1) + 1 = (jO kb i + 1) + (4 * kb i + 20) := by show jO kb i + (4 * kb i + 20) + 1 = _; omega
    have leN : jO kb i + (4 * kb i + 20) ≤ jO kb ds.length := uK kb (i := i + 1) hi
    have eM : ∀ x y, eqM m (ds.take (i + 1)) x y = eqM m (ds.take i) x y + cM (k0, u, v, p) (m + bU (ds.take i)) x y := fun x y => by rw [et, zA]
    have eRr : ∀ x, eqR m (ds.take (i + 1)) x = eqR m (ds.take i) x + cR (k0, u, v, p) (m + bU (ds.take i)) x := fun x => by rw [et, zM]
    have eH : bU (ds.take (i + 1)) = bU (ds.take i) + cA k0 := by rw [et, gX]
    rw [eN, eH]
    have lst := mx.lsts
    cases k0 with
    | pc =>
      have p0 : 0 < p.1 := rd.2.2.2.2.2.1 rfl
      refine ⟨_, rfl, Kd.pc, y, dr, _, rfl, hy, (eE _ _ _ (by decide +kernel) (by decide +kernel) (by decide +kernel)), _, rfl, rfl, _, rfl, ifT (by show decide (V.str Kd.pc.wd = V.str Kd.pc.wd) = true; rw [dR]; rfl) ?_⟩
      refine ⟨_, rfl, _, rfl, D, y, z, as, M, (.pc, u, v, p), W, jO kb i + 1, kb i, rfl, mx, mb, rw6, fz6, ptW, lp, p0, bp, by omega, fun H7 sx7 mx7 => ?_⟩
      obtain ⟨mb7, v7⟩ := Xm (d := (.pc, u, v, p)) (h := m + bU (ds.take i)) mb ptm hmW rfl lp p0 bp
      have eR7 := sx7 _ _ eR nRa
      refine ⟨SX.same s6 sx7 fr, _, ys, rs, _, rfl, mx7, mb7.mono (by omega), eR7, SX.fqs lst sx7 FR, lb.mono (by omega), fun x y => by rw [v7, vM, eM], fun x => ?_⟩
      rw [vR, eRr]
      show _ = _ + (0 : Rat)
      rw [Rat.add_zero]
    | pu =>
      refine ⟨_, rfl, Kd.pu, y, dr, _, rfl, hy, (eE _ _ _ (by decide +kernel) (by decide +kernel) (by decide +kernel)), _, rfl, rfl, _, rfl, ifF (by show decide (V.str Kd.pu.wd = V.str Kd.pc.wd) = false; rw [dR]; rfl) ?_⟩
      refine ⟨_, rfl, Kd.pu, y, dr, _, rfl, hy, (eE _ _ _ (by decide +kernel) (by decide +kernel) (by decide +kernel)), _, rfl, rfl, _, rfl, ifT (by show decide (V.str Kd.pu.wd = V.str Kd.pu.wd) = true; rw [dR]; rfl) ?_⟩
      refine ⟨_, rfl, _, rfl, R, y, z, ys, rs, (.pu, u, v, p), W, jO kb i + 1, kb i, rfl, eR, FR, lb, rw6, fz6, ptW, lp, bp, by omega, fun ys' H7 sx7 eR7 F7 => ?_⟩
      obtain ⟨lb7, v7⟩ := Sc (d := (.pu, u, v, p)) (h := m + bU (ds.take i)) lb ptm hmW rfl lp bp
      have mx7 : Mx K H7 D as M := ⟨sx7 _ _ mx.d (by simp; exact Ne.symm nRD), mx.n, mx.nd, mx.la, fun i' b ps h1 h2 => by
        obtain ⟨ws, h, f⟩ := mx.r i' b ps h1 h2
        refine ⟨ws, sx7 _ _ h (by simp; exact fun z => nRa (by rw [← z]; exact List.mem_of_getElem? h1)), SX.fqs (as := [R]) (fun c hc => ?_) sx7 f⟩
        have : c = R := by simpa using hc
        exact ⟨ys, by rw [this]; exact eR⟩⟩
      refine ⟨SX.same s6 sx7 (fun c hc => by have : c = R := by simpa using hc
                                             rw [this]; exact nRH), M, ys', _, _, rfl, mx7, mb.mono (by omega), eR7, F7, lb7.mono (by omega), fun x y => ?_, fun x => by rw [v7, vR, eRr]⟩
      rw [vM, eM]
      show _ = _ + (0 : Rat)
      rw [Rat.add_zero]
    | ho =>
      have hc1 : cA Kd.ho = 1 := rfl
      rw [hc1] at hh
      have hcW : m + bU (ds.take i) < W := by omega
      refine ⟨_, rfl, Kd.ho, y, dr, _, rfl, hy, (eE _ _ _ (by decide +kernel) (by decide +kernel) (by decide +kernel)), _, rfl, rfl, _, rfl, ifF (by show decide (V.str Kd.ho.wd = V.str Kd.pc.wd) = false; rw [dR]; rfl) ?_⟩
      refine ⟨_, rfl, Kd.ho, y, dr, _, rfl, hy, (eE _ _ _ (by decide +kernel) (by decide +kernel) (by decide +kernel)), _, rfl, rfl, _, rfl, ifF (by show decide (V.str Kd.ho.wd = V.str Kd.pu.wd) = false; rw [dR]; rfl) ?_⟩
      refine ⟨_, rfl, _, rfl, _, rfl, _, rfl, D, R, y, z, as, M, ys, rs, (.ho, u, v, p), W, jO kb i + 1, m + bU (ds.take i), rfl, mx, mb, eR, FR, lb.w, nRD, nRa, rw6, fz6, ptW, hcW, by omega, fun ys' H7 sx7 mx7 eR7 F7 => ?_⟩
      obtain ⟨mb7, v7⟩ := Xa (d := (.ho, u, v, p)) mb ptm hmW hcW rfl
      have z0 : Mq.val (rs.getD (m + bU (ds.take i)) (0, 1)) = 0 := by
        rw [vR]
        exact uO (m := m) _ _ _ (fun d hd' => by
          obtain ⟨i1, hi1⟩ := List.getElem?_of_mem (List.mem_of_mem_take hd')
          have := (hK i1 d hi1).1
          exact ⟨this.1, this.2.1, this.2.2.1, this.2.2.2.1⟩) (Nat.le_refl _) (Nat.le_refl _)
      obtain ⟨lb7, w7⟩ := Xo (m := m) (d := (.ho, u, v, p)) lb hcW rfl lp bp z0
      refine ⟨_, rfl, _, _, rfl, rfl, ?_⟩
      refine ⟨SX.same s6 sx7 allN, _, ys', _, some (.ref y), ?_, mx7, mb7.mono (by omega), eR7, F7, lb7.mono (by omega), fun x y => by rw [v7, vM, eM], fun x => by rw [w7, vR, eRr]⟩
      have e1 : ((m + bU (ds.take i) : Nat) : Int) + 1 = ((m + (bU (ds.take i) + cA Kd.ho) : Nat) : Int) := by rw [hc1]; omega
      rw [← e1]
      rfl
  rintro σ H6 ⟨s6, M, ys, rs, z7, rfl, mx, mb, eR, FR, lb, vM, vR⟩
  rw [lxs] at mb lb vM vR
  rw [List.take_length] at vM vR
  refine ⟨_, rfl, 1, rfl, D, _, rfl, SqL.of mx.d, fun C hC => ?_⟩
  rw [Fi]
  have s7 := aH hC (.lst ((as.map V.ref).drop 1))
  have e7 : upd H6 C (.lst ((as.map V.ref).drop 1)) C = some (.lst ((as.map V.ref).drop 1)) := aC
  generalize upd H6 C (.lst ((as.map V.ref).drop 1)) = H7 at s7 e7 ⊢
  have mx7 := mx.same s7
  refine ⟨C, rfl, ⟨_, SqL.of e7⟩, fun P hP => ?_⟩
  have sP := aH hP (.lst [])
  refine fZ (xs := (as.map V.ref).drop 1) (fun i zs H' => bC H7 H' ∧ H' P = some (.lst zs) ∧ Fms K H7 H' zs (((M.drop 1).map (List.drop 1)).take i) ∧ ∀ x ∈ zs, x ≠ .ref P) ⟨sP, aC, ⟨rfl, fun i x ps h => by simp at h⟩, fun x hx => by cases hx⟩ (fun i zs H' h => h.2.1) (fun i zs H' _ h => h.1.seq (SqL.of e7)) ?_ ?_
  · rintro i zs x H8 hx ⟨s8, e8, fm, nP⟩ C' hC'
    rw [List.getElem?_drop, List.getElem?_map] at hx
    obtain ⟨b, hb, rfl⟩ := Option.map_eq_some_iff.mp hx
    have bl' := (List.getElem?_eq_some_iff.mp hb).1
    have hM1 : 1 + i < M.length := by rw [← mx.la]; exact bl'
    obtain ⟨ws, hws, fws⟩ := (mx7.same s8).r (1 + i) b M[1 + i] hb (List.getElem?_eq_getElem hM1)
    have lz := fm.l
    rw [List.length_take, List.length_map, List.length_drop] at lz
    have hM60 : M.length ≤ 60 := by rw [mb.h]; exact hW60
    refine ⟨gH.1, gH.2, gJ ?_⟩
    refine ⟨_, rfl, 1, rfl, b, _, rfl, SqL.of hws, fun c hc => ?_⟩
    rw [Fi]
    have s9 := aH hc (.lst (ws.drop 1))
    have e9 : upd H8 c (.lst (ws.drop 1)) c = some (.lst (ws.drop 1)) := aC
    generalize upd H8 c (.lst (ws.drop 1)) = H9 at s9 e9 ⊢
    have e89 := s9 _ _ e8
    have ncP : c ≠ P := Ne.symm (aZ e8 hc)
    refine ⟨e89, bH (by omega), hC' _ _ ⟨(s8.trans s9).change hP, aC, ⟨?_, fun j y ps h1 h2 => ?_⟩, fun y hy => ?_⟩⟩
    · rw [List.length_append, List.length_take, List.length_map, List.length_drop]
      simp only [List.length_cons, List.length_nil]
      omega
    · have ee : ((M.drop 1).map (List.drop 1))[i]? = some (M[1 + i].drop 1) := by rw [List.getElem?_map, List.getElem?_drop, List.getElem?_eq_getElem hM1]; rfl
      rw [List.take_add_one, ee] at h2
      by_cases hj : j < zs.length
      · rw [List.getElem?_append_left hj] at h1
        rw [List.getElem?_append_left (by rw [← fm.l]; exact hj)] at h2
        obtain ⟨a', xs', q1, q2, q3, q4⟩ := fm.r j y ps h1 h2
        have na : a' ≠ P := fun z => nP y (List.mem_of_getElem? h1) (by rw [q1, z])
        exact ⟨a', xs', q1, q2, by rw [aW na]; exact s9 _ _ q3, (q4.same s9).upd e89⟩
      · rw [List.getElem?_append_right (by omega)] at h1
        rw [List.getElem?_append_right (by rw [← fm.l]; omega), ← fm.l] at h2
        have j0 : j - zs.length = 0 := by
          have := (List.getElem?_eq_some_iff.mp h1).1
          simp at this
          omega
        rw [j0] at h1 h2
        have h1 : V.ref c = y := by simpa using h1
        have h2 : M[1 + i].drop 1 = ps := by simpa using h2
        subst h1
        rw [← h2]
        exact ⟨c, _, rfl, s8.free hc, by rw [aW ncP]; exact e9, ((Fqs.drop1 (fws.same s9))).upd e89⟩
    · rcases List.mem_append.mp hy with z | z
      · exact nP y z
      · have : y = .ref c := by simpa using z
        rw [this]; exact fun z => ncP (by injection z)
  rintro us H8 ⟨s8, e8, fm, nP⟩
  rw [show ((as.map V.ref).drop 1).length = ((M.drop 1).map (List.drop 1)).length by rw [List.length_drop, List.length_map, List.length_map, List.length_drop, mx.la], List.take_length] at fm
  have s78 := s7.trans s8
  have eR8 := s78 _ _ eR
  refine ⟨_, rfl, 1, rfl, R, _, rfl, SqL.of eR8, fun r hr' => ?_⟩
  rw [Fi]
  have s9 := aH hr' (.lst (ys.drop 1))
  have e9 : upd H8 r (.lst (ys.drop 1)) r = some (.lst (ys.drop 1)) := aC
  generalize upd H8 r (.lst (ys.drop 1)) = H9 at s9 e9 ⊢
  refine ⟨by show 2 ≤ sizeLine; decide, fun t ht => ?_⟩
  have sT := aH ht (.tup [.ref P, .ref r])
  have s9T := s9.trans sT
  have s0 : bC H (upd H9 t (.tup [.ref P, .ref r])) := s1.trans (s12.trans (s6.trans (s78.trans s9T)))
  have s07 : bC H H7 := s1.trans (s12.trans (s6.trans s7))
  have fl : ∀ c, H7 c = none → H c = none := fun c h => s07.free h
  refine q t P r us (ys.drop 1) ((M.drop 1).map (List.drop 1)) (rs.drop 1) _ s0 aC (fl P hP) ((s07.trans s8).free hr') (s9T _ _ e8) (sT _ _ e9) ⟨fm.l, fun i x ps h1 h2 => ?_⟩ (Fqs.drop1 (FR.same (s78.trans s9T))) (fun x hx => ⟨nP x hx, ?_⟩) ⟨?_, ?_, ?_, ?_⟩
  · obtain ⟨a', xs', q1, q2, q3, q4⟩ := fm.r i x ps h1 h2
    exact ⟨a', xs', q1, fl a' q2, s9T _ _ q3, q4.same s9T⟩
  · intro z
    obtain ⟨i, hi⟩ := List.getElem?_of_mem hx
    have il : i < ((M.drop 1).map (List.drop 1)).length := by rw [← fm.l]; exact (List.getElem?_eq_some_iff.mp hi).1
    obtain ⟨a', xs', q1, q2, q3, q4⟩ := fm.r i x _ hi (List.getElem?_eq_getElem il)
    rw [q1] at z
    have : a' = r := by injection z
    rw [← this, q3] at hr'
    cases hr'
  · have := Na mb
    rwa [show W - 1 = m - 1 + bU ds by omega] at this
  · have := Kq lb
    rwa [show W - 1 = m - 1 + bU ds by omega] at this
  · intro i j
    rw [Iq]; exact vM _ _
  · intro i
    rw [tP]; exact vR _
end
end K66
set_option maxHeartbeats 2000000
namespace L2
open PySem PySem.Spec PyProof.Rows
def Rn (ta:TA):TE:=fun σ H Q=>ta σ H fun vs H1=>∃n:Nat,vs=[.int (n:Int)]∧n≤1000∧∀l,H1 l=none→Q (.ref l) (upd H1 l (.lst ((List.range n).map fun (i:Nat)=>V.int (i:Int))))
theorem tK:∀{n:Nat} {acc:List Value},acc.length=n→(∀(j:Nat) (v:Value),acc[j]?=some v→∃t,v=Value.int (j:Int) t)→bX ((List.range n).map fun (i:Nat)=>V.int (i:Int)) acc
 |0,[],_,_=>.nil
 |n+1,acc,hl,h=>by
  have e:acc=acc.take n++[acc[n]'(by omega)]:=by
   have h1:acc.take (n+1)=acc:=List.take_of_length_le (by omega)
   have h2:acc.take (n+1)=acc.take n++[acc[n]'(by omega)]:=by rw[List.take_add_one,List.getElem?_eq_getElem (by omega)];rfl
   rw[h1] at h2;exact h2
  rw[List.range_succ,List.map_append,e]
  refine bX.append (tK (by rw[List.length_take];omega) fun j v hj=>?_) (.cons ?_ .nil)
  ·have hjn:j < n:=by
    have:=(List.getElem?_eq_some_iff.mp hj).1
    rw[List.length_take] at this
    omega
   rw[List.getElem?_take,if_pos hjn] at hj
   exact h j v hj
  ·obtain⟨t,ht⟩:=h n _ (List.getElem?_eq_getElem (by omega))
   rw[ht]
   exact⟨t,rfl⟩
section
variable {X:Cx} {a:Expr} {p p2 pos pos2:Pos} {ta:TA}
theorem oM (hc:X.calm=true) (hgl:Gl X "list") (hml:X.mg "list"=none) (hg:Gl X "range") (hm:X.mg "range"=none) (ha:PA X [a] ta) (hs:starEach [a] X.env=[(false,eval a X.env)]:=by rfl)
  (he:starEach [.Call (.Name "range" p2) [a] [] pos2] X.env=(false,eval (.Call (.Name "range" p2) [a] [] pos2) X.env) :: starEach [] X.env:=by rfl) (hpl:(backTo pos (starEach [] X.env)).any (·.1)=false:=by rfl) :
  PE X (.Call (.Name "list" p) [.Call (.Name "range" p2) [a] [] pos2] [] pos) (Rn ta):=by
 intro pins s σ H Q I h
 refine wpAny_Call_Name_kw (jH I hgl hml PyProof.Rows.boot_list ?_)
 refine PyProof.Rows.callWith_type1 ?_ he hpl
 rw[he]
 show wpAny _ _ (spliced ((false,eval (.Call (.Name "range" p2) [a] [] pos2) X.env) :: backTo pos (starEach [] X.env))) _ _ s
 refine Calls.spliced_cons ?_
 refine wpAny_Call_Name_kw (jH I hg hm boot_range (PyProof.Rows.callWith_type1 (thn (ha pos2 pins s σ H _ I h) fun us s1 ⟨vs,H1,I1,r1,q1⟩=>?_) hs rfl))
 obtain⟨n,e,hn,q⟩:=q1
 subst e
 cases r1 with
 |cons r rr=>
  cases rr
  obtain⟨t,rfl⟩:=r
  refine call_range_1 ?_
  refine Calls.spliced_nil ?_
  have I2:∀(ob:Obj) (tk:Nat),Inv X pins σ H1 { s1 with heap:=s1.heap.push ob,toks:=tk }:=fun ob tk=>I1.kept (t':=tk) (fun b ob e=>Heap.get?_push_of_some _ e)
  have hn24:(n:Nat)≤2 ^ 24:=by omega
  refine call_list_range (n:=n) (I1.ok.hd hc) (IsRange.new ..) (small_one (by omega) (by omega) (by omega) (by omega)) (by rw[rangeSize_one];split<;>omega) hn24 (fun h' tk acc' c' kp e items=>?_)
  have rl:bX ((List.range n).map fun (i:Nat)=>V.int (i:Int)) acc'.toList:=tK (by rw[Array.length_toList];exact items.1) (fun j v hj=>by
   obtain⟨t,ht⟩:=items.2 j v (by rw[← Array.getElem?_toList];exact hj)
   exact⟨t,by rw[ht];congr 1;omega⟩)
  have hz:((List.range n).map fun (i:Nat)=>V.int (i:Int)).length≤sizeLine:=by rw[List.length_map,List.length_range,sizeLine_eq];omega
  exact⟨.ref _,_,(I2 _ _).laid (t':=tk) kp (Nat.le_refl _) (show dI X.prog X.w _ h' _ (.lst ((List.range n).map fun (i:Nat)=>V.int (i:Int))) from ⟨hz,acc'.toList,c',rl,e⟩),rfl,q _ ((I2 _ _).hok.fresh (Nat.le_refl _))⟩
end
end L2
set_option maxHeartbeats 1000000
namespace L2
open PySem PySem.Spec PyProof.Rows
def jn (ms:List Int) (s g:Nat):List Int:=ms.map fun x=>if x=ms.getD g 0 then ms.getD s 0 else x
def zV (m:Nat):List Int:=(List.range m).map fun (i:Nat)=>(i:Int)
def gW (ms:List Int) (d:RD):List Int:=if d.1=.pu then ms else jn ms d.2.1.toNat d.2.2.1.toNat
def mks (m:Nat) (ds:List RD):List Int:=ds.foldl gW (zV m)
def mk (m:Nat) (ds:List RD) (p:Nat):Int:=(mks m ds).getD p 0
theorem kQ (m:Nat) (ds:List RD) (d:RD):mks m (ds++[d])=gW (mks m ds) d:=by unfold mks;rw[List.foldl_append];rfl
theorem Iz (ms:List Int) (d:RD):(gW ms d).length=ms.length:=by
 unfold gW
 split
 ·rfl
 ·unfold jn;rw[List.length_map]
theorem uQ:∀(ds:List RD) (ms:List Int),(ds.foldl gW ms).length=ms.length
 | [],_=>rfl
 |d :: ds,ms=>by show (ds.foldl gW (gW ms d)).length=_;rw[uQ ds,Iz]
theorem jV (m:Nat) (ds:List RD):(mks m ds).length=m:=by unfold mks zV;rw[uQ,List.length_map,List.length_range]
theorem Kr {ms:List Int} {f:Int→Int} {p:Nat} (h:p < ms.length):(ms.map f).getD p 0=f (ms.getD p 0):=by
 rw[List.getD_eq_getElem?_getD,List.getElem?_map,List.getD_eq_getElem?_getD,List.getElem?_eq_getElem h];rfl
theorem Nt {m p:Nat} (h:p < m):mk m [] p=(p:Int):=by
 show (zV m).getD p 0=_
 unfold zV
 rw[List.getD_eq_getElem?_getD,List.getElem?_map,List.getElem?_range h];rfl
theorem rG {m:Nat} {ds:List RD} {d:RD} (hk:d.1=.pu) (p:Nat):mk m (ds++[d]) p=mk m ds p:=by
 unfold mk
 rw[kQ]
 unfold gW
 rw[if_pos hk]
theorem rM {m:Nat} {ds:List RD} {d:RD} (hk:d.1≠.pu) {p:Nat} (hp:p < m):mk m (ds++[d]) p=if mk m ds p=mk m ds d.2.2.1.toNat then mk m ds d.2.1.toNat else mk m ds p:=by
 unfold mk
 rw[kQ]
 unfold gW
 rw[if_neg hk]
 unfold jn
 rw[Kr (by rw[jV];exact hp)]
inductive Cn (ds:List RD):Nat→Nat→Prop where
 |refl (p:Nat):Cn ds p p
 |row {d:RD} (h:d∈ds) (hk:d.1≠.pu):Cn ds d.2.1.toNat d.2.2.1.toNat
 |symm {p q:Nat} (h:Cn ds p q):Cn ds q p
 |trans {p q r:Nat} (h:Cn ds p q) (g:Cn ds q r):Cn ds p r
theorem Cn.mono {ds es:List RD} (h:∀d∈ds,d∈es) {p q:Nat} (c:Cn ds p q):Cn es p q:=by
 induction c with
 |refl p=>exact .refl p
 |row hd hk=>exact .row (h _ hd) hk
 |symm _ ih=>exact .symm ih
 |trans _ _ a b=>exact .trans a b
theorem zR {m:Nat}:∀(n:Nat) (ds:List RD),ds.length=n→(∀d∈ds,cQ (m:Int) d.2.1 d.2.2.1)→∀p q,p < m→q < m→mk m ds p=mk m ds q→Cn ds p q
 |0,ds,hl,_,p,q,hp,hq,e=>by
  have:ds=[]:=List.length_eq_zero_iff.mp hl
  subst this
  rw[Nt hp,Nt hq] at e
  have:p=q:=by omega
  subst this
  exact .refl p
 |n+1,ds,hl,pt,p,q,hp,hq,e=>by
  obtain⟨es,d,rfl⟩:∃es d,ds=es++[d]:=⟨ds.dropLast,ds.getLast (by intro z;rw[z] at hl;cases hl),(List.dropLast_concat_getLast _).symm⟩
  have le:es.length=n:=by rw[List.length_append] at hl;simpa using hl
  have ih:=zR n es le (fun x hx=>pt x (List.mem_append_left _ hx))
  have up:∀{a b:Nat},Cn es a b→Cn (es++[d]) a b:=fun c=>c.mono fun x hx=>List.mem_append_left _ hx
  by_cases hk:d.1=.pu
  ·rw[rG hk,rG hk] at e
   exact up (ih p q hp hq e)
  ·obtain⟨i0,i1,j0,j1⟩:=pt d (by simp)
   have hs:d.2.1.toNat < m:=by omega
   have hg:d.2.2.1.toNat < m:=by omega
   have rw':Cn (es++[d]) d.2.1.toNat d.2.2.1.toNat:=.row (by simp) hk
   rw[rM hk hp,rM hk hq] at e
   by_cases a:mk m es p=mk m es d.2.2.1.toNat
   ·have cp:=up (ih _ _ hp hg a)
    rw[if_pos a] at e
    by_cases b:mk m es q=mk m es d.2.2.1.toNat
    ·exact cp.trans (up (ih _ _ hq hg b)).symm
    ·rw[if_neg b] at e
     exact cp.trans (rw'.symm.trans (up (ih _ _ hs hq e)))
   ·rw[if_neg a] at e
    by_cases b:mk m es q=mk m es d.2.2.1.toNat
    ·rw[if_pos b] at e
     exact(up (ih _ _ hp hs e)).trans (rw'.trans (up (ih _ _ hq hg b)).symm)
    ·rw[if_neg b] at e
     exact up (ih _ _ hp hq e)
theorem rN {m:Nat}:∀(n:Nat) (ds:List RD),ds.length=n→(∀d∈ds,cQ (m:Int) d.2.1 d.2.2.1)→∀d∈ds,d.1≠.pu→mk m ds d.2.1.toNat=mk m ds d.2.2.1.toNat
 |0,ds,hl,_,d,hd,_=>by
  have:ds=[]:=List.length_eq_zero_iff.mp hl
  rw[this] at hd;cases hd
 |n+1,ds,hl,pt,x,hx,hkx=>by
  obtain⟨es,d,rfl⟩:∃es d,ds=es++[d]:=⟨ds.dropLast,ds.getLast (by intro z;rw[z] at hl;cases hl),(List.dropLast_concat_getLast _).symm⟩
  have le:es.length=n:=by rw[List.length_append] at hl;simpa using hl
  obtain⟨i0,i1,j0,j1⟩:=pt x hx
  have hs:x.2.1.toNat < m:=by omega
  have hg:x.2.2.1.toNat < m:=by omega
  by_cases hk:d.1=.pu
  ·rw[rG hk,rG hk]
   rcases List.mem_append.mp hx with z | z
   ·exact rN n es le (fun y hy=>pt y (List.mem_append_left _ hy)) x z hkx
   ·have:x=d:=by simpa using z
    rw[this] at hkx
    exact absurd hk hkx
  ·rw[rM hk hs,rM hk hg]
   rcases List.mem_append.mp hx with z | z
   ·have ih:=rN n es le (fun y hy=>pt y (List.mem_append_left _ hy)) x z hkx
    rw[ih]
   ·have:x=d:=by simpa using z
    subst this
    rw[if_pos rfl]
    by_cases c:mk m es x.2.1.toNat=mk m es x.2.2.1.toNat
    ·rw[if_pos c]
    ·rw[if_neg c]
theorem Cn.ind {ds:List RD} {R:Nat→Nat→Prop} (r:∀p,R p p) (s:∀p q,R p q→R q p) (t:∀p q x,R p q→R q x→R p x) (h:∀d∈ds,d.1≠.pu→R d.2.1.toNat d.2.2.1.toNat) {p q:Nat} (c:Cn ds p q):R p q:=by
 induction c with
 |refl p=>exact r p
 |row hd hk=>exact h _ hd hk
 |symm _ ih=>exact s _ _ ih
 |trans _ _ a b=>exact t _ _ _ a b
theorem Fn {m:Nat} {ds:List RD} (pt:∀d∈ds,cQ (m:Int) d.2.1 d.2.2.1) {p q:Nat} (hp:p < m) (hq:q < m):mk m ds p=mk m ds q↔Cn ds p q:=
 ⟨zR _ ds rfl pt p q hp hq,fun c=>Cn.ind (R:=fun a b=>mk m ds a=mk m ds b) (fun _=>rfl) (fun _ _ e=>e.symm) (fun _ _ _ a b=>a.trans b) (fun d hd hk=>rN _ ds rfl pt d hd hk) c⟩
theorem Fj:∀{m:Nat} {S:List Nat},S.Nodup→(∀p∈S,p < m)→S.length≤m
 |0,[],_,_=>Nat.le_refl _
 |0,p :: S,_,h=>absurd (h p (List.mem_cons_self ..)) (Nat.not_lt_zero _)
 |m+1,S,nd,h=>by
  have e:=Fj (m:=m) (S:=S.erase m) (nd.erase m) (fun p hp=>by
   have h1:=h p (List.mem_of_mem_erase hp)
   have h2:p≠m:=fun z=>by rw[z] at hp;exact(List.Nodup.not_mem_erase nd) hp
   omega)
  have:=List.length_erase_le (a:=m) (l:=S)
  have h3:S.length≤(S.erase m).length+1:=by
   rw[List.length_erase];split<;>omega
  omega
theorem Hl {m:Nat} {ds:List RD} {f:Nat} {S:List Nat} (pt:∀d∈ds,cQ (m:Int) d.2.1 d.2.2.1) (hf:f < m) (h1:f∈S) (h2:∀p∈S,p < m∧mk m ds p=mk m ds f)
  (h3:∀d∈ds,d.1≠.pu→(d.2.1.toNat∈S↔d.2.2.1.toNat∈S)) {p:Nat} (hp:p < m):p∈S↔mk m ds p=mk m ds f:=by
 refine⟨fun h=>(h2 p h).2,fun h=>?_⟩
 exact(Cn.ind (R:=fun a b=>a∈S↔b∈S) (fun _=>Iff.rfl) (fun _ _ e=>e.symm) (fun _ _ _ a b=>a.trans b) h3 ((Fn pt hf hp).mp h.symm)).mp h1
end L2
set_option maxHeartbeats 2000000
namespace L2
open PySem PySem.Spec PyProof.Rows
abbrev Stp:=Nat × Int
abbrev Br:=Nat × Nat × Nat
def stF (es:List Br) (p:Nat):List (Stp × Nat):=es.filterMap fun e=>if e.2.1=p then some ((e.1,1),e.2.2) else if e.2.2=p then some ((e.1,-1),e.2.1) else none
abbrev WS:=List (Nat × List Stp)
def cC (w:WS):List Nat:=w.map (·.1)
def oY:WS→Nat→Option (List Stp)
 | [],_=>none
 |e :: w,p=>if e.1=p then some e.2 else oY w p
theorem gL {p:Nat} {st:List Stp}:∀{w:WS},oY w p=some st→(p,st)∈w
 | [],h=>by cases h
 |e :: w,h=>by
  unfold oY at h
  by_cases c:e.1=p
  ·rw[if_pos c] at h
   cases h
   obtain⟨a,b⟩:=e
   have c:a=p:=c
   subst c
   exact List.mem_cons_self ..
  ·rw[if_neg c] at h
   exact List.mem_cons_of_mem _ (gL h)
theorem oG {p:Nat}:∀{w:WS},p∈cC w→∃st,oY w p=some st
 | [],h=>by cases h
 |e :: w,h=>by
  unfold oY
  by_cases c:e.1=p
  ·rw[if_pos c];exact⟨_,rfl⟩
  ·rw[if_neg c]
   rcases List.mem_cons.mp h with z | z
   ·exact absurd z.symm c
   ·exact oG z
theorem pP {p:Nat}:∀{w:WS},p∉cC w→oY w p=none
 | [],_=>rfl
 |e :: w,h=>by
  unfold oY
  rw[if_neg (fun z=>h (by rw[← z];exact List.mem_cons_self ..))]
  exact pP fun z=>h (List.mem_cons_of_mem _ z)
theorem Ky {w:WS} {p:Nat}:(oY w p).isSome=true↔p∈cC w:=by
 by_cases c:p∈cC w
 ·obtain⟨st,e⟩:=oG c
  rw[e];exact⟨fun _=>c,fun _=>rfl⟩
 ·rw[pP c];exact⟨fun z=>(by cases z),fun z=>absurd z c⟩
def inF (p:Nat) (s:WS × List Nat) (t:Stp × Nat):WS × List Nat:=if t.2∈cC s.1 then s else (s.1++[(t.2,(oY s.1 p).getD []++[t.1])],s.2++[t.2])
def jY (es:List Br) (s:WS × List Nat):WS × List Nat:=if s.2=[] then s else (stF es (s.2.getLastD 0)).foldl (inF (s.2.getLastD 0)) (s.1,s.2.dropLast)
def cE (es:List Br) (b:Nat):Nat→WS × List Nat
 |0=>([(b,[])],[b])
 |n+1=>jY es (cE es b n)
def tU (es:List Br) (b e:Nat):Option (List Stp):=oY (cE es b 60).1 e
def oP (es:List Br) (s:Stp) (p q:Nat):Prop:=∃u v,(s.1,u,v)∈es∧((s.2=1∧p=u∧q=v)∨(s.2=-1∧p=v∧q=u))
inductive Pt (es:List Br) (b:Nat):List Stp→Nat→List Nat→Prop where
 |nil:Pt es b [] b [b]
 |snoc {st:List Stp} {p q:Nat} {pts:List Nat} {s:Stp} (h:Pt es b st p pts) (g:oP es s p q) (n:q∉pts):Pt es b (st++[s]) q (pts++[q])
theorem kC {es:List Br} {p:Nat} {t:Stp × Nat} (h:t∈stF es p):oP es t.1 p t.2:=by
 unfold stF at h
 obtain⟨e,he,ht⟩:=List.mem_filterMap.mp h
 by_cases c1:e.2.1=p
 ·rw[if_pos c1] at ht
  cases ht
  exact⟨e.2.1,e.2.2,he,.inl ⟨rfl,c1.symm,rfl⟩⟩
 ·rw[if_neg c1] at ht
  by_cases c2:e.2.2=p
  ·rw[if_pos c2] at ht
   cases ht
   exact⟨e.2.1,e.2.2,he,.inr ⟨rfl,c2.symm,rfl⟩⟩
  ·rw[if_neg c2] at ht;cases ht
theorem Mf {es:List Br} {p q:Nat} {s:Stp} (h:oP es s p q):q=p∨∃t∈stF es p,t.2=q:=by
 obtain⟨u,v,he,h⟩:=h
 by_cases c:q=p
 ·exact .inl c
 refine .inr ?_
 rcases h with ⟨_,rfl,rfl⟩ | ⟨_,rfl,rfl⟩
 ·refine⟨((s.1,1),q),List.mem_filterMap.mpr ⟨_,he,?_⟩,rfl⟩
  rw[if_pos rfl]
 ·refine⟨((s.1,-1),q),List.mem_filterMap.mpr ⟨_,he,?_⟩,rfl⟩
  rw[if_neg c,if_pos rfl]
structure WI (es:List Br) (b:Nat) (s:WS × List Nat):Prop where
 nd:(cC s.1).Nodup
 kb:b∈cC s.1
 pt:∀x st,(x,st)∈s.1→∃pts,Pt es b st x pts∧∀y∈pts,y∈cC s.1
 q:∀x∈s.2,x∈cC s.1
 cl:∀x∈cC s.1,x∉s.2→∀t y,oP es t x y→y∈cC s.1
theorem Kf (es:List Br) (b:Nat):WI es b ([(b,[])],[b]):=by
 refine⟨by simp[cC],by simp[cC],fun x st h=>?_,fun x h=>?_,fun x h n=>?_⟩
 ·have:(x,st)=(b,[]):=by simpa using h
  cases this
  exact⟨[b],.nil,fun y hy=>by simpa[cC] using hy⟩
 ·simpa[cC] using h
 ·have:x=b:=by simpa[cC] using h
  exact absurd (by simp[this]) n
theorem yL (w:WS) (x:Nat) (st:List Stp):cC (w++[(x,st)])=cC w++[x]:=by unfold cC;rw[List.map_append];rfl
structure WJ (es:List Br) (b p:Nat) (T:List (Stp × Nat)) (s:WS × List Nat):Prop where
 nd:(cC s.1).Nodup
 kb:b∈cC s.1
 kp:p∈cC s.1
 pt:∀x st,(x,st)∈s.1→∃pts,Pt es b st x pts∧∀y∈pts,y∈cC s.1
 q:∀x∈s.2,x∈cC s.1
 cl:∀x∈cC s.1,x∉s.2→x≠p→∀t y,oP es t x y→y∈cC s.1
 t:∀t∈T,t.2∈cC s.1
theorem Ep {es:List Br} {b p:Nat} {T:List (Stp × Nat)} {s:WS × List Nat} {t:Stp × Nat} (h:WJ es b p T s) (g:oP es t.1 p t.2):WJ es b p (T++[t]) (inF p s t):=by
 unfold inF
 by_cases c:t.2∈cC s.1
 ·rw[if_pos c]
  refine { h with t:=fun u hu=>?_ }
  rcases List.mem_append.mp hu with z | z
  ·exact h.t u z
  ·have:u=t:=by simpa using z
   rw[this];exact c
 ·rw[if_neg c]
  obtain⟨sp,ep⟩:=oG h.kp
  rw[ep]
  have up:∀{x:Nat},x∈cC s.1→x∈cC (s.1++[(t.2,sp++[t.1])]):=fun hx=>by rw[yL];exact List.mem_append_left _ hx
  have me:t.2∈cC (s.1++[(t.2,sp++[t.1])]):=by rw[yL];simp
  refine⟨?_,up h.kb,up h.kp,fun x st hx=>?_,fun x hx=>?_,fun x hx nx np=>?_,fun u hu=>?_⟩
  ·show (cC (s.1++[(t.2,sp++[t.1])])).Nodup
   rw[yL,List.nodup_append]
   refine⟨h.nd,by simp,fun x hx y hy z=>?_⟩
   have:y=t.2:=by simpa using hy
   exact c (by rw[← this,← z];exact hx)
  ·rcases List.mem_append.mp hx with z | z
   ·obtain⟨pts,h1,h2⟩:=h.pt x st z
    exact⟨pts,h1,fun y hy=>up (h2 y hy)⟩
   ·have:(x,st)=(t.2,sp++[t.1]):=by simpa using z
    cases this
    obtain⟨pts,h1,h2⟩:=h.pt p sp (gL ep)
    refine⟨pts++[t.2],.snoc h1 g (fun z=>c (h2 _ z)),fun y hy=>?_⟩
    rcases List.mem_append.mp hy with z | z
    ·exact up (h2 y z)
    ·have:y=t.2:=by simpa using z
     rw[this];exact me
  ·rcases List.mem_append.mp hx with z | z
   ·exact up (h.q x z)
   ·have:x=t.2:=by simpa using z
    rw[this];exact me
  ·have hx':x∈cC s.1:=by
    have hx2:x∈cC (s.1++[(t.2,sp++[t.1])]):=hx
    rw[yL] at hx2
    rcases List.mem_append.mp hx2 with z | z
    ·exact z
    ·exact absurd (List.mem_append_right _ z) nx
   intro t' y hg
   exact up (h.cl x hx' (fun z=>nx (List.mem_append_left _ z)) np t' y hg)
  ·rcases List.mem_append.mp hu with z | z
   ·exact up (h.t u z)
   ·have:u=t:=by simpa using z
    rw[this];exact me
theorem yT {es:List Br} {b p:Nat}:∀(U T:List (Stp × Nat)) {s:WS × List Nat},WJ es b p T s→(∀t∈U,oP es t.1 p t.2)→WJ es b p (T++U) (U.foldl (inF p) s)
 | [],T,s,h,_=>by rw[List.append_nil];exact h
 |u :: U,T,s,h,g=>by
  have:=yT U (T++[u]) (Ep h (g u (by simp))) fun t ht=>g t (List.mem_cons_of_mem _ ht)
  rw[List.append_assoc] at this
  exact this
theorem Ez {q:List Nat} (h:q≠[]):q.getLastD 0∈q∧q=q.dropLast++[q.getLastD 0]:=by
 have e:q.getLastD 0=q.getLast h:=by rw[List.getLastD_eq_getLast?,List.getLast?_eq_some_getLast h];rfl
 rw[e]
 exact⟨List.getLast_mem h,(List.dropLast_concat_getLast h).symm⟩
theorem tE {es:List Br} {b:Nat} {s:WS × List Nat} (h:WI es b s) (hq:s.2≠[]):WJ es b (s.2.getLastD 0) [] (s.1,s.2.dropLast):=by
 obtain⟨m,e⟩:=Ez hq
 refine⟨h.nd,h.kb,h.q _ m,h.pt,fun x hx=>h.q x (List.dropLast_subset _ hx),fun x hx nx np=>h.cl x hx fun z=>?_,fun t ht=>by cases ht⟩
 rw[e] at z
 rcases List.mem_append.mp z with z | z
 ·exact nx z
 ·exact np (by simpa using z)
theorem Vo {es:List Br} {b p:Nat} {s:WS × List Nat} (h:WJ es b p (stF es p) s):WI es b s:=by
 refine⟨h.nd,h.kb,h.pt,h.q,fun x hx nx t y hg=>?_⟩
 by_cases c:x=p
 ·subst c
  rcases Mf hg with z | ⟨u,hu,e⟩
  ·rw[z];exact hx
  ·rw[← e];exact h.t u hu
 ·exact h.cl x hx nx c t y hg
theorem Qj {es:List Br} {b:Nat} {s:WS × List Nat} (h:WI es b s):WI es b (jY es s):=by
 unfold jY
 by_cases c:s.2=[]
 ·rw[if_pos c];exact h
 ·rw[if_neg c]
  have:=yT (stF es (s.2.getLastD 0)) [] (tE h c) fun t ht=>kC ht
  rw[List.nil_append] at this
  exact Vo this
theorem jI (es:List Br) (b:Nat):∀n,WI es b (cE es b n)
 |0=>Kf es b
 |n+1=>Qj (jI es b n)
def muF (s:WS × List Nat):Nat:=2*(20 - s.1.length)+s.2.length
structure Ptm (m:Nat) (es:List Br):Prop where
 p:∀e∈es,e.2.1 < m∧e.2.2 < m
theorem Xk {m:Nat} {es:List Br} {b:Nat} (h:Ptm m es) (hb:b < m) {st:List Stp} {x:Nat} {pts:List Nat} (p:Pt es b st x pts):x < m:=by
 cases p with
 |nil=>exact hb
 |snoc _ g _=>
  obtain⟨u,v,he,g⟩:=g
  have:=h.p _ he
  rcases g with ⟨_,_,rfl⟩ | ⟨_,_,rfl⟩
  ·exact this.2
  ·exact this.1
theorem yF {m:Nat} {es:List Br} {b:Nat} (h:Ptm m es) (hb:b < m) {w:WS} (pt:∀x st,(x,st)∈w→∃pts,Pt es b st x pts∧∀y∈pts,y∈cC w):∀x∈cC w,x < m:=fun x hx=>by
 obtain⟨st,e⟩:=oG hx
 obtain⟨pts,p,_⟩:=pt x st (gL e)
 exact Xk h hb p
theorem Jy {m:Nat} {es:List Br} {b:Nat} (h:Ptm m es) (hb:b < m) {w:WS} (nd:(cC w).Nodup) (pt:∀x st,(x,st)∈w→∃pts,Pt es b st x pts∧∀y∈pts,y∈cC w):w.length≤m:=by
 have:=Fj nd (yF h hb pt)
 unfold cC at this
 rwa [List.length_map] at this
theorem Ww {es:List Br} {b p m:Nat} {T:List (Stp × Nat)} {s:WS × List Nat} {t:Stp × Nat} (hm:Ptm m es) (hb:b < m) (h20:m≤20) (h:WJ es b p T s) (g:oP es t.1 p t.2):muF (inF p s t)≤muF s:=by
 have h':=Ep h g
 have le:=Jy hm hb h'.nd h'.pt
 unfold inF at le ⊢
 by_cases c:t.2∈cC s.1
 ·rw[if_pos c];exact Nat.le_refl _
 ·rw[if_neg c] at le ⊢
  unfold muF
  simp only[List.length_append,List.length_cons,List.length_nil] at le ⊢
  omega
theorem xT {es:List Br} {b p m:Nat} (hm:Ptm m es) (hb:b < m) (h20:m≤20):∀(U T:List (Stp × Nat)) {s:WS × List Nat},WJ es b p T s→(∀t∈U,oP es t.1 p t.2)→muF (U.foldl (inF p) s)≤muF s
 | [],_,_,_,_=>Nat.le_refl _
 |u :: U,T,s,h,g=>Nat.le_trans (xT hm hb h20 U (T++[u]) (Ep h (g u (by simp))) fun t ht=>g t (List.mem_cons_of_mem _ ht)) (Ww hm hb h20 h (g u (by simp)))
theorem Aw {s:WS × List Nat} (h:s.2≠[]):muF (s.1,s.2.dropLast)+1=muF s:=by
 have:0 < s.2.length:=List.length_pos_iff.mpr h
 show 2*(20 - s.1.length)+s.2.dropLast.length+1=2*(20 - s.1.length)+s.2.length
 rw[List.length_dropLast]
 omega
theorem Ed {es:List Br} {b m:Nat} {s:WS × List Nat} (hm:Ptm m es) (hb:b < m) (h20:m≤20) (h:WI es b s) (hq:s.2≠[]):muF (jY es s)+1≤muF s:=by
 unfold jY
 rw[if_neg hq]
 have:=xT hm hb h20 (stF es (s.2.getLastD 0)) [] (tE h hq) fun t ht=>kC ht
 have e:=Aw hq
 omega
theorem wF {es:List Br} {b:Nat} {i:Nat} (h:(cE es b i).2=[]):∀n,cE es b (i+n)=cE es b i
 |0=>rfl
 |n+1=>by
  show jY es (cE es b (i+n))=_
  rw[wF h n]
  unfold jY
  rw[if_pos h]
theorem Rg {es:List Br} {b i:Nat} (h:(cE es b i).2=[]) (hi:i≤60):(cE es b 60).1=(cE es b i).1:=by
 have:=wF h (60 - i)
 rw[show i+(60 - i)=60 by omega] at this
 rw[this]
theorem qG {es:List Br} {b m:Nat} (hm:Ptm m es) (hb:b < m) (h20:m≤20):∀n,(cE es b n).2=[]∨n+muF (cE es b n)≤39
 |0=>.inr (by show 0+(2*(20 - 1)+1)≤39;omega)
 |n+1=>by
  by_cases c:(cE es b n).2=[]
  ·refine .inl ?_
   show (jY es (cE es b n)).2=[]
   unfold jY
   rw[if_pos c];exact c
  ·rcases qG hm hb h20 n with z | z
   ·exact absurd z c
   ·have:=Ed hm hb h20 (jI es b n) c
    refine .inr ?_
    show n+1+muF (jY es (cE es b n))≤39
    omega
theorem Nv {es:List Br} {b m:Nat} (hm:Ptm m es) (hb:b < m) (h20:m≤20):(cE es b 60).2=[]:=by
 rcases qG hm hb h20 60 with z | z
 ·exact z
 ·omega
def qO (es:List Br):List RD:=es.map fun e=>(.pc,(e.2.1:Int),(e.2.2:Int),(0,1))
theorem uA {m:Nat} {es:List Br} (h:Ptm m es):∀d∈qO es,cQ (m:Int) d.2.1 d.2.2.1:=fun d hd=>by
 obtain⟨e,he,rfl⟩:=List.mem_map.mp hd
 have:=h.p e he
 exact⟨by show (0:Int)≤(e.2.1:Int);omega,by show ((e.2.1:Nat):Int) < m;omega,by show (0:Int)≤(e.2.2:Int);omega,by show ((e.2.2:Nat):Int) < m;omega⟩
theorem Ou {m:Nat} {es:List Br} (h:Ptm m es) {s:Stp} {p q:Nat} (g:oP es s p q):mk m (qO es) q=mk m (qO es) p:=by
 obtain⟨u,v,he,g⟩:=g
 have e:=rN _ (qO es) rfl (uA h) (.pc,(u:Int),(v:Int),(0,1)) (List.mem_map.mpr ⟨_,he,rfl⟩) (by intro z;cases z)
 rw[Int.toNat_natCast,Int.toNat_natCast] at e
 rcases g with ⟨_,rfl,rfl⟩ | ⟨_,rfl,rfl⟩
 ·exact e.symm
 ·exact e
theorem Wr {m:Nat} {es:List Br} {b:Nat} (h:Ptm m es) {st:List Stp} {x:Nat} {pts:List Nat} (p:Pt es b st x pts):mk m (qO es) x=mk m (qO es) b:=by
 induction p with
 |nil=>rfl
 |snoc _ g _ ih=>rw[Ou h g,ih]
theorem Os {m:Nat} {es:List Br} {b e:Nat} (h:Ptm m es) (h20:m≤20) (hb:b < m) (he:e < m):(tU es b e).isSome=true↔mk m (qO es) e=mk m (qO es) b:=by
 have wi:=jI es b 60
 have q0:=Nv h hb h20
 unfold tU
 rw[Ky]
 refine Hl (uA h) hb wi.kb (fun p hp=>⟨yF h hb wi.pt p hp,?_⟩) (fun d hd _=>?_) he
 ·obtain⟨st,e'⟩:=oG hp
  obtain⟨pts,pp,_⟩:=wi.pt p st (gL e')
  exact Wr h pp
 ·obtain⟨a,ha,rfl⟩:=List.mem_map.mp hd
  show ((a.2.1:Int).toNat∈_↔(a.2.2:Int).toNat∈_)
  rw[Int.toNat_natCast,Int.toNat_natCast]
  exact⟨fun z=>wi.cl _ z (by rw[q0];simp) (a.1,1) _ ⟨a.2.1,a.2.2,ha,.inl ⟨rfl,rfl,rfl⟩⟩,fun z=>wi.cl _ z (by rw[q0];simp) (a.1,-1) _ ⟨a.2.1,a.2.2,ha,.inr ⟨rfl,rfl,rfl⟩⟩⟩
structure tL (es:List Br) (b e:Nat) (st:List Stp) (pts:List Nat):Prop where
 l:pts.length=st.length+1
 hb:pts[0]?=some b
 he:pts[st.length]?=some e
 g:∀i s,st[i]?=some s→∃p q,pts[i]?=some p∧pts[i+1]?=some q∧oP es s p q
 n:(st.map (·.1)).Nodup
theorem Qb {es:List Br} {b x:Nat} {st:List Stp} {pts:List Nat} (p:Pt es b st x pts):∀s∈st,∃y z,y∈pts∧z∈pts∧oP es s y z:=by
 induction p with
 |nil=>intro s h;cases h
 | @snoc st p q pts s h g n ih=>
  intro t ht
  rcases List.mem_append.mp ht with z | z
  ·obtain⟨y,z',h1,h2,h3⟩:=ih t z
   exact⟨y,z',List.mem_append_left _ h1,List.mem_append_left _ h2,h3⟩
  ·have:t=s:=by simpa using z
   subst this
   refine⟨p,q,List.mem_append_left _ ?_,by simp,g⟩
   cases h with
   |nil=>simp
   |snoc _ _ _=>simp
theorem Hv {es:List Br} {b x:Nat} {st:List Stp} {pts:List Nat} (ne:(es.map (·.1)).Nodup) (p:Pt es b st x pts):tL es b x st pts:=by
 induction p with
 |nil=>exact⟨rfl,rfl,rfl,fun i s h=>by simp at h,by simp⟩
 | @snoc st p q pts s h g n ih=>
  have l:=ih.l
  refine⟨by rw[List.length_append,List.length_append,l];rfl,?_,?_,fun i t ht=>?_,?_⟩
  ·rw[List.getElem?_append_left (by omega)];exact ih.hb
  ·rw[List.length_append,List.getElem?_append_right (by simp;omega)]
   simp only[List.length_cons,List.length_nil]
   rw[show st.length+(0+1) - pts.length=0 by omega];rfl
  ·by_cases c:i < st.length
   ·rw[List.getElem?_append_left c] at ht
    obtain⟨y,z,h1,h2,h3⟩:=ih.g i t ht
    exact⟨y,z,by rw[List.getElem?_append_left (by omega)];exact h1,by rw[List.getElem?_append_left (by omega)];exact h2,h3⟩
   ·have hi:i=st.length:=by
     have:=(List.getElem?_eq_some_iff.mp ht).1
     simp only[List.length_append,List.length_cons,List.length_nil] at this
     omega
    subst hi
    rw[List.getElem?_append_right (Nat.le_refl _),Nat.sub_self] at ht
    have:s=t:=by simpa using ht
    subst this
    refine⟨p,q,by rw[List.getElem?_append_left (by omega)];exact ih.he,?_,g⟩
    rw[List.getElem?_append_right (by omega),show st.length+1 - pts.length=0 by omega];rfl
  ·rw[List.map_append,List.nodup_append]
   refine⟨ih.n,by simp,fun a ha c hc z=>?_⟩
   have hc:c=s.1:=by simpa using hc
   obtain⟨t,ht,et⟩:=List.mem_map.mp ha
   obtain⟨y,w,h1,h2,u',v',he',g'⟩:=Qb h t ht
   obtain⟨u,v,he,g⟩:=g
   have same:(t.1,u',v')=(s.1,u,v):=by
    have key:∀{l:List Br},(l.map (·.1)).Nodup→∀{a c:Br},a∈l→c∈l→a.1=c.1→a=c:=fun {l}=>by
     induction l with
     |nil=>intro _ a c h;cases h
     |cons x l ih=>
      intro nd a c ha hc e
      rw[List.map_cons,List.nodup_cons] at nd
      rcases List.mem_cons.mp ha with rfl | z1<;>rcases List.mem_cons.mp hc with rfl | z2
      ·rfl
      ·exact absurd (List.mem_map.mpr ⟨c,z2,e.symm⟩) nd.1
      ·exact absurd (List.mem_map.mpr ⟨a,z1,e⟩) nd.1
      ·exact ih nd.2 z1 z2 e
    exact key ne he' he (by show t.1=s.1;rw[et,z,hc])
   have e1:u'=u:=by injection same with _ e;injection e
   have e2:v'=v:=by injection same with _ e;injection e
   subst e1;subst e2
   rcases g with ⟨_,rfl,rfl⟩ | ⟨_,rfl,rfl⟩<;>rcases g' with ⟨_,rfl,rfl⟩ | ⟨_,rfl,rfl⟩
   ·exact n h2
   ·exact n h1
   ·exact n h1
   ·exact n h2
theorem Ht {es:List Br} {b e:Nat} {st:List Stp} (ne:(es.map (·.1)).Nodup) (h:tU es b e=some st):∃pts,tL es b e st pts:=by
 obtain⟨pts,p,_⟩:=(jI es b 60).pt e st (gL h)
 exact⟨pts,Hv ne p⟩
theorem vF {m:Nat} {es:List Br} {b e:Nat} {st:List Stp} (hm:Ptm m es) (hb:b < m) (h:tU es b e=some st):st.length < m:=by
 obtain⟨pts,p,k⟩:=(jI es b 60).pt e st (gL h)
 have l:pts.length=st.length+1:=by
  clear h
  induction p with
  |nil=>rfl
  |snoc h g n ih=>rw[List.length_append,List.length_append,ih fun y hy=>k y (List.mem_append_left _ hy)];rfl
 have nd:pts.Nodup:=by
  clear h k l
  induction p with
  |nil=>simp
  |snoc h g n ih=>
   rw[List.nodup_append]
   refine⟨ih,by simp,fun x hx y hy z=>n ?_⟩
   rw[List.mem_singleton] at hy
   rw[← hy,← z];exact hx
 have:=Fj nd fun y hy=>yF hm hb (jI es b 60).pt y (k y hy)
 omega
abbrev Sk:=Kd × Nat × Nat
def skl (ds:List RD):List Sk:=ds.map fun d=>(d.1,d.2.1.toNat,d.2.2.1.toNat)
abbrev RS:=List Br × List (Nat × List Stp)
def iG (W:Kd→Bool) (s:RS) (k:Nat) (d:Sk):RS:=if W d.1 then (match tU s.1 d.2.2 d.2.1 with
 |none=>(s.1++[(k,d.2.1,d.2.2)],s.2)
 |some st=>(s.1,s.2++[(k,(k,1) :: st)])) else s
def eO (W:Kd→Bool) (sk:List Sk):Nat→RS
 |0=>([],[])
 |n+1=>match sk[n]? with
  |none=>eO W sk n
  |some d=>iG W (eO W sk n) n d
theorem iF {W:Kd→Bool} {sk:List Sk} {n:Nat} {d:Sk} (h:sk[n]?=some d):eO W sk (n+1)=iG W (eO W sk n) n d:=by
 show (match sk[n]? with | none=>eO W sk n | some d=>iG W (eO W sk n) n d)=_
 rw[h]
structure RI (W:Kd→Bool) (sk:List Sk) (m n:Nat) (s:RS):Prop where
 pt:Ptm m s.1
 nd:(s.1.map (·.1)).Nodup
 lt:∀e∈s.1,e.1 < n
 at_:∀e∈s.1,∃k,sk[e.1]?=some (k,e.2.1,e.2.2)
 rl:s.2.length≤n
 r:∀c∈s.2,c.1 < n∧∃k u v st pts,sk[c.1]?=some (k,u,v)∧c.2=(c.1,1) :: st∧(∀t∈st,t.1 < c.1∧t.1∈s.1.map (·.1))∧tL s.1 v u st pts∧st.length < m
theorem tL.mono {es es':List Br} {b e:Nat} {st:List Stp} {pts:List Nat} (h:tL es b e st pts) (hs:∀x∈es,x∈es'):tL es' b e st pts:=
 { h with g:=fun i s hi=>let ⟨p,q,h1,h2,u,v,h3,h4⟩:=h.g i s hi;⟨p,q,h1,h2,u,v,hs _ h3,h4⟩ }
theorem Lm {es:List Br} {b e:Nat} {st:List Stp} {pts:List Nat} (h:tL es b e st pts):∀t∈st,t.1∈es.map (·.1):=fun t ht=>by
 obtain⟨i,hi⟩:=List.getElem?_of_mem ht
 obtain⟨p,q,_,_,u,v,h3,_⟩:=h.g i t hi
 exact List.mem_map.mpr ⟨_,h3,rfl⟩
theorem sZ {W:Kd→Bool} {sk:List Sk} {m:Nat} (hm:∀d∈sk,d.2.1 < m∧d.2.2 < m):∀n,n≤sk.length→RI W sk m n (eO W sk n)
 |0,_=>⟨⟨fun e h=>(by cases h)⟩,(by show ([]:List Nat).Nodup;simp),fun e h=>(by cases h),fun e h=>(by cases h),Nat.le_refl _,fun c h=>(by cases h)⟩
 |n+1,hn=>by
  have ih:=sZ (W:=W) hm n (by omega)
  have hd:sk[n]?=some sk[n]:=List.getElem?_eq_getElem (by omega)
  rw[iF hd]
  have pm:=hm _ (List.mem_of_getElem? hd)
  generalize sk[n]=d at hd pm
  generalize eO W sk n=s at ih
  unfold iG
  by_cases hw:W d.1=true
  ·rw[if_pos hw]
   cases hy:tU s.1 d.2.2 d.2.1 with
   |none=>
    show RI W sk m (n+1) (s.1++[(n,d.2.1,d.2.2)],s.2)
    refine⟨⟨fun e he=>?_⟩,?_,fun e he=>?_,fun e he=>?_,by have:=ih.rl;show s.2.length≤n+1;omega,fun c hc=>?_⟩
    ·rcases List.mem_append.mp he with z | z
     ·exact ih.pt.p e z
     ·have:e=(n,d.2.1,d.2.2):=by simpa using z
      rw[this];exact pm
    ·show ((s.1++[(n,d.2.1,d.2.2)]).map (·.1)).Nodup
     rw[List.map_append,List.nodup_append]
     refine⟨ih.nd,by simp,fun x hx y hy z=>?_⟩
     have:y=n:=by simpa using hy
     obtain⟨e,he,ee⟩:=List.mem_map.mp hx
     have:=ih.lt e he
     omega
    ·rcases List.mem_append.mp he with z | z
     ·have:=ih.lt e z;omega
     ·have:e=(n,d.2.1,d.2.2):=by simpa using z
      rw[this];exact Nat.lt_succ_self n
    ·rcases List.mem_append.mp he with z | z
     ·exact ih.at_ e z
     ·have:e=(n,d.2.1,d.2.2):=by simpa using z
      rw[this];exact⟨d.1,hd⟩
    ·obtain⟨h1,k,u,v,st,pts,h2,h3,h4,h5,h6⟩:=ih.r c hc
     refine⟨by omega,k,u,v,st,pts,h2,h3,fun t ht=>⟨(h4 t ht).1,?_⟩,h5.mono fun x hx=>List.mem_append_left _ hx,h6⟩
     show t.1∈(s.1++[(n,d.2.1,d.2.2)]).map (·.1)
     rw[List.map_append];exact List.mem_append_left _ (h4 t ht).2
   |some st=>
    show RI W sk m (n+1) (s.1,s.2++[(n,(n,1) :: st)])
    refine⟨ih.pt,ih.nd,fun e he=>Nat.lt_succ_of_lt (ih.lt e he),ih.at_,by have:=ih.rl;show (s.2++[(n,(n,1) :: st)]).length≤n+1;rw[List.length_append];simp only[List.length_cons,List.length_nil];omega,fun c hc=>?_⟩
    rcases List.mem_append.mp hc with z | z
    ·obtain⟨h1,r⟩:=ih.r c z
     exact⟨by omega,r⟩
    ·have:c=(n,(n,1) :: st):=by simpa using z
     subst this
     obtain⟨pts,ch⟩:=Ht ih.nd hy
     refine⟨Nat.lt_succ_self n,d.1,d.2.1,d.2.2,st,pts,hd,rfl,fun t ht=>?_,ch,vF ih.pt pm.2 hy⟩
     have ti:=Lm ch t ht
     obtain⟨e,he,ee⟩:=List.mem_map.mp ti
     have:=ih.lt e he
     exact⟨by show t.1 < n;omega,ti⟩
  ·rw[if_neg hw]
   exact⟨ih.pt,ih.nd,fun e he=>Nat.lt_succ_of_lt (ih.lt e he),ih.at_,by have:=ih.rl;omega,fun c hc=>let ⟨h1,r⟩:=ih.r c hc;⟨by omega,r⟩⟩
theorem SqT.updD {K:PySem.W.Frag} {H:Hp} {a l:Addr} {xs:List V} {kvs:List (Key × V)} {o:HO} (h:SqT K H a xs) (hl:H l=some (.dK kvs)):SqT K (L2.upd H l o) a xs:=by
 rcases h with (h | ⟨u,h⟩) | h
 ·exact .inl (.inl (by rw[aW (fY h hl (fun z=>by cases z))];exact h))
 ·exact .inl (.inr ⟨u,by rw[aW (fY h hl (fun z=>by cases z))];exact h⟩)
 ·exact .inr h
inductive Sts (K:PySem.W.Frag) (H:Hp):List V→List Stp→Prop where
 |nil:Sts K H [] []
 |cons {t:Addr} {n:Nat} {w:Int} {xs:List V} {st:List Stp} (h:SqT K H t [.int (n:Int),.int w]) (q:Sts K H xs st):Sts K H (.ref t :: xs) ((n,w) :: st)
section
variable {K:PySem.W.Frag} {H H':Hp}
theorem Sts.same (e:bC H H'):∀{xs:List V} {st:List Stp},Sts K H xs st→Sts K H' xs st
 |_,_,.nil=>.nil
 |_,_,.cons h q=>.cons (e.seqT h) (Sts.same e q)
theorem Sts.length:∀{xs:List V} {st:List Stp},Sts K H xs st→xs.length=st.length
 |_,_,.nil=>rfl
 |_,_,.cons _ q=>by simp[Sts.length q]
theorem Sts.app:∀{xs ys:List V} {st su:List Stp},Sts K H xs st→Sts K H ys su→Sts K H (xs++ys) (st++su)
 |_,_,_,_,.nil,r=>r
 |_,_,_,_,.cons h q,r=>.cons h (Sts.app q r)
theorem Sts.upd {l:Addr} {ys:List V} {o:HO} (hl:H l=some (.lst ys)):∀{xs:List V} {st:List Stp},Sts K H xs st→Sts K (L2.upd H l o) xs st
 |_,_,.nil=>.nil
 |_,_,.cons h q=>.cons (SqT.upd h hl) (Sts.upd hl q)
theorem Sts.updD {l:Addr} {kvs:List (Key × V)} {o:HO} (hl:H l=some (.dK kvs)):∀{xs:List V} {st:List Stp},Sts K H xs st→Sts K (L2.upd H l o) xs st
 |_,_,.nil=>.nil
 |_,_,.cons h q=>.cons (SqT.updD h hl) (Sts.updD hl q)
end
inductive Sds (K:PySem.W.Frag) (H:Hp):List V→List (Stp × Nat)→Prop where
 |nil:Sds K H [] []
 |cons {t s:Addr} {n x:Nat} {w:Int} {xs:List V} {st:List (Stp × Nat)} (h:SqT K H t [.ref s,.int (x:Int)]) (g:SqT K H s [.int (n:Int),.int w]) (q:Sds K H xs st):Sds K H (.ref t :: xs) (((n,w),x) :: st)
section
variable {K:PySem.W.Frag} {H H':Hp}
theorem Sds.same (e:bC H H'):∀{xs:List V} {st:List (Stp × Nat)},Sds K H xs st→Sds K H' xs st
 |_,_,.nil=>.nil
 |_,_,.cons h g q=>.cons (e.seqT h) (e.seqT g) (Sds.same e q)
theorem Sds.length:∀{xs:List V} {st:List (Stp × Nat)},Sds K H xs st→xs.length=st.length
 |_,_,.nil=>rfl
 |_,_,.cons _ _ q=>by simp[Sds.length q]
theorem Sds.app:∀{xs ys:List V} {st su:List (Stp × Nat)},Sds K H xs st→Sds K H ys su→Sds K H (xs++ys) (st++su)
 |_,_,_,_,.nil,r=>r
 |_,_,_,_,.cons h g q,r=>.cons h g (Sds.app q r)
theorem Sds.get:∀{xs:List V} {st:List (Stp × Nat)} {i:Nat} {x:V},Sds K H xs st→xs[i]?=some x→∃t u s,x=.ref t∧st[i]?=some s∧SqT K H t [.ref u,.int (s.2:Int)]∧SqT K H u [.int (s.1.1:Int),.int s.1.2]
 |_,_,_,_,.nil,h=>by simp at h
 |_,_,0,_,.cons h g _,e=>by simp at e;subst e;exact⟨_,_,_,rfl,rfl,h,g⟩
 |_,_,i+1,_,.cons _ _ q,e=>by simpa using Sds.get q (by simpa using e)
theorem Sds.upd {l:Addr} {ys:List V} {o:HO} (hl:H l=some (.lst ys)):∀{xs:List V} {st:List (Stp × Nat)},Sds K H xs st→Sds K (L2.upd H l o) xs st
 |_,_,.nil=>.nil
 |_,_,.cons h g q=>.cons (SqT.upd h hl) (SqT.upd g hl) (Sds.upd hl q)
theorem Sds.updD {l:Addr} {kvs:List (Key × V)} {o:HO} (hl:H l=some (.dK kvs)):∀{xs:List V} {st:List (Stp × Nat)},Sds K H xs st→Sds K (L2.upd H l o) xs st
 |_,_,.nil=>.nil
 |_,_,.cons h g q=>.cons (SqT.updD h hl) (SqT.updD g hl) (Sds.updD hl q)
end
inductive Wys (K:PySem.W.Frag) (H0:Hp) (W:Addr) (H:Hp):List (Key × V)→WS→Prop where
 |nil:Wys K H0 W H [] []
 |cons {a:Addr} {x:Nat} {xs:List V} {st:List Stp} {kvs:List (Key × V)} {w:WS} (n:H0 a=none) (nw:a≠W) (h:H a=some (.lst xs)) (f:Sts K H xs st) (q:Wys K H0 W H kvs w):Wys K H0 W H ((Sum.inl (x:Int),.ref a) :: kvs) ((x,st) :: w)
section
variable {K:PySem.W.Frag} {H0 H H':Hp} {W:Addr}
theorem Wys.same (e:bC H H'):∀{kvs:List (Key × V)} {w:WS},Wys K H0 W H kvs w→Wys K H0 W H' kvs w
 |_,_,.nil=>.nil
 |_,_,.cons n nw h f q=>.cons n nw (e _ _ h) (f.same e) (Wys.same e q)
theorem Wys.updW {ys:List V} {o:HO} (hl:H W=some (.lst ys)):∀{kvs:List (Key × V)} {w:WS},Wys K H0 W H kvs w→Wys K H0 W (L2.upd H W o) kvs w
 |_,_,.nil=>.nil
 |_,_,.cons n nw h f q=>.cons n nw (by rw[aW nw];exact h) (f.upd hl) (Wys.updW hl q)
theorem Wys.updD {D:Addr} {kv:List (Key × V)} {o:HO} (hl:H D=some (.dK kv)):∀{kvs:List (Key × V)} {w:WS},Wys K H0 W H kvs w→Wys K H0 W (L2.upd H D o) kvs w
 |_,_,.nil=>.nil
 |_,_,.cons n nw h f q=>.cons n nw (by rw[aW (fY h hl (fun z=>by cases z))];exact h) (f.updD hl) (Wys.updD hl q)
theorem Wys.length:∀{kvs:List (Key × V)} {w:WS},Wys K H0 W H kvs w→kvs.length=w.length
 |_,_,.nil=>rfl
 |_,_,.cons _ _ _ _ q=>by simp[Wys.length q]
theorem Wys.snoc {a:Addr} {x:Nat} {xs:List V} {st:List Stp} (n:H0 a=none) (nw:a≠W) (h:H a=some (.lst xs)) (f:Sts K H xs st):∀{kvs:List (Key × V)} {w:WS},Wys K H0 W H kvs w→Wys K H0 W H (kvs++[(Sum.inl (x:Int),.ref a)]) (w++[(x,st)])
 |_,_,.nil=>.cons n nw h f .nil
 |_,_,.cons n' nw' h' f' q=>.cons n' nw' h' f' (Wys.snoc n nw h f q)
theorem Wys.none_ {p:Nat}:∀{kvs:List (Key × V)} {w:WS},Wys K H0 W H kvs w→p∉cC w→oF kvs (Sum.inl (p:Int))=none∧(kvs.any fun kv=>decide (kv.1=Sum.inl (p:Int)))=false
 |_,_,.nil,_=>⟨rfl,rfl⟩
 |_,_,.cons (x:=x) (kvs:=kvs) (w:=w) n nw h f q,hp=>by
  have hx:x≠p:=fun z=>hp (by rw[← z];exact List.mem_cons_self ..)
  obtain⟨h1,h2⟩:=Wys.none_ q fun z=>hp (List.mem_cons_of_mem _ z)
  refine⟨by rw[kF (fun z=>hx (Int.ofNat.inj (Sum.inl.inj z)))];exact h1,?_⟩
  rw[List.any_cons,h2]
  have e:decide ((Sum.inl (x:Int):Key)=Sum.inl (p:Int))=false:=decide_eq_false fun z=>hx (Int.ofNat.inj (Sum.inl.inj z))
  show (decide ((Sum.inl (x:Int):Key)=Sum.inl (p:Int)) || false)=false
  rw[e];rfl
theorem Wys.some_ {p:Nat}:∀{kvs:List (Key × V)} {w:WS},Wys K H0 W H kvs w→p∈cC w→∃a xs st,oF kvs (Sum.inl (p:Int))=some (.ref a)∧oY w p=some st∧H0 a=none∧a≠W∧H a=some (.lst xs)∧Sts K H xs st
 |_,_,.nil,h=>by cases h
 |_,_,.cons (a:=a) (x:=x) (xs:=xs) (st:=st) (kvs:=kvs) (w:=w) n nw h f q,hp=>by
  by_cases c:x=p
  ·subst c
   exact⟨a,xs,st,by rw[oQ rfl],by unfold oY;rw[if_pos rfl],n,nw,h,f⟩
  ·have hp':p∈cC w:=by
    rcases List.mem_cons.mp hp with z | z
    ·exact absurd z.symm c
    ·exact z
   obtain⟨a',xs',st',h1,h2,r⟩:=Wys.some_ q hp'
   exact⟨a',xs',st',by rw[kF (fun z=>c (Int.ofNat.inj (Sum.inl.inj z)))];exact h1,by unfold oY;rw[if_neg c];exact h2,r⟩
theorem Wys.isSome {p:Nat} {kvs:List (Key × V)} {w:WS} (h:Wys K H0 W H kvs w):(oF kvs (Sum.inl (p:Int))).isSome=decide (p∈cC w):=by
 by_cases c:p∈cC w
 ·obtain⟨a,xs,st,e,_⟩:=h.some_ c
  rw[e,decide_eq_true c];rfl
 ·rw[(h.none_ c).1,decide_eq_false c];rfl
end
structure Rgs (K:PySem.W.Frag) (H0 H:Hp) (us:List V) (X:List (List Stp)):Prop where
 l:us.length=X.length
 r:∀(i:Nat) (x:V) (st:List Stp),us[i]?=some x→X[i]?=some st→∃(a:Addr) (xs:List V),x=.ref a∧H0 a=none∧H a=some (.lst xs)∧Sts K H xs st
theorem Rgs.nil {K:PySem.W.Frag} {H0 H:Hp}:Rgs K H0 H [] []:=⟨rfl,fun i x st h=>by simp at h⟩
theorem Rgs.same {K:PySem.W.Frag} {H0 H H':Hp} {us:List V} {X:List (List Stp)} (e:bC H H') (f:Rgs K H0 H us X):Rgs K H0 H' us X:=⟨f.l,fun i x st h1 h2=>let ⟨a,xs,e1,n,h,s⟩:=f.r i x st h1 h2;⟨a,xs,e1,n,e _ _ h,s.same e⟩⟩
theorem Rgs.snoc {K:PySem.W.Frag} {H0 H:Hp} {us:List V} {X:List (List Stp)} {a:Addr} {xs:List V} {st:List Stp} (f:Rgs K H0 H us X) (n:H0 a=none) (h:H a=some (.lst xs)) (s:Sts K H xs st):Rgs K H0 H (us++[.ref a]) (X++[st]):=by
 refine⟨by rw[List.length_append,List.length_append,f.l];rfl,fun i x qs h1 h2=>?_⟩
 have l:=f.l
 by_cases c:i < us.length
 ·rw[List.getElem?_append_left c] at h1
  rw[List.getElem?_append_left (by omega)] at h2
  exact f.r i x qs h1 h2
 ·have hi:i=us.length:=by
   have:=(List.getElem?_eq_some_iff.mp h1).1
   rw[List.length_append] at this
   simp only[List.length_cons,List.length_nil] at this
   omega
  subst hi
  rw[List.getElem?_append_right (Nat.le_refl _),Nat.sub_self] at h1
  rw[List.getElem?_append_right (by omega),show us.length - X.length=0 by omega] at h2
  cases h1
  cases h2
  exact⟨a,xs,rfl,n,h,s⟩
theorem Rgs.updO {K:PySem.W.Frag} {H0 H:Hp} {us:List V} {X:List (List Stp)} {l:Addr} {ys:List V} {o:HO} (f:Rgs K H0 H us X) (hl:H l=some (.lst ys)) (n:∀x∈us,x≠.ref l):Rgs K H0 (upd H l o) us X:=⟨f.l,fun i x st h1 h2=>let ⟨a,xs,e1,n1,h,s⟩:=f.r i x st h1 h2;⟨a,xs,e1,n1,by rw[aW (fun z=>n x (List.mem_of_getElem? h1) (by rw[e1,z]))];exact h,s.upd hl⟩⟩
def Um (ds:List RD) (es:List Br):Prop:=∀e∈es,∃d,ds[e.1]?=some d∧d.2.1=(e.2.1:Int)∧d.2.2.1=(e.2.2:Int)
def Dn (K:PySem.W.Frag) (CK:Kd→Addr):Sp:=fun vs H Q _=>∃(a b:Addr) (xs:List V) (ds:List RD) (es:List Br) (p:Nat),vs=[.ref a,.ref b,.int (p:Int)]∧SqL K H a xs∧gF CK K H xs ds∧SqL K H b (es.map fun e=>V.int (e.1:Int))∧Um ds es∧es.length≤100∧∀l ys H',bC H H'→H l=none→H' l=some (.lst ys)→Sds K H' ys (stF es p)→Q (.ref l) H'
def Rz (K:PySem.W.Frag) (CK:Kd→Addr):Sp:=fun vs H Q _=>∃(a b:Addr) (xs:List V) (ds:List RD) (es:List Br) (m f t:Nat),vs=[.ref a,.ref b,.int (f:Int),.int (t:Int)]∧SqL K H a xs∧gF CK K H xs ds∧SqL K H b (es.map fun e=>V.int (e.1:Int))∧Um ds es∧es.length≤100∧Ptm m es∧m≤20∧f < m∧
 (tU es f t=none→∀H',bC H H'→Q .non H')∧∀st,tU es f t=some st→∀l ys H',bC H H'→H l=none→H' l=some (.lst ys)→Sts K H' ys st→Q (.ref l) H'
inductive Wds (K:PySem.W.Frag) (H:Hp):V→(Kd→Bool)→Prop where
 |non:Wds K H .non (fun k=>decide (k≠.pu))
 |seq {a:Addr} {ws:List V} (h:SqL K H a ws) (f:ws.all mH=true):Wds K H (.ref a) (fun k=>inV (.str k.wd) ws)
def Ec (CN:Addr) (K:PySem.W.Frag):Sp:=fun vs H Q _=>∃(n l:Addr) (v:V) (m:Nat) (ds:List RD) (W:Kd→Bool),vs=[.ref n,v]∧cX CN K H n l (m:Int) ds∧(∀d∈ds,cQ (m:Int) d.2.1 d.2.2.1)∧m≤20∧ds.length≤40∧Wds K H v W∧∀r us H',bC H H'→H r=none→H' r=some (.lst us)→Rgs K H H' us ((eO W (skl ds) ds.length).2.map (·.2))→(∀x∈us,x≠.ref r)→Q (.ref r) H'
end L2
set_option maxHeartbeats 4000000
namespace K66
open PySem L2
section
variable {P:Program} {w:World} {K:PySem.W.Frag} {mg:Str→Option Value} {base:Heap} {f g1 g2 g3 g4 g5 g6 g7 g8:Addr} {fd gd1 gd2 gd3 gd4 gd5 gd6 gd7 gd8:FuncData} {CX:CXT}
variable {CR:Addr} {CK:Kd→Addr} {fW fJ fT fS:Kd→Addr} {fdW fdJ fdT fdS:Kd→FuncData}
theorem nC {ec:List (Str × Addr)}:∀(x:Str) (c:Addr),([]:List (Str × Addr)).lookup x=some c→ec.lookup x=some c:=fun _ _ h=>by cases h
theorem dZ {ec cl:List (Str × Addr)} {a:Str} {d:Addr} (h:ec.lookup a=some d) (r:∀x c,cl.lookup x=some c→ec.lookup x=some c):∀x c,((a,d) :: cl).lookup x=some c→ec.lookup x=some c:=fun x c e=>by
 rw[List.lookup_cons] at e
 cases q:x == a with
 |true=>rw[q] at e;rw[eq_of_beq q,h];exact e
 |false=>rw[q] at e;exact r x c e
theorem wX {X:Cx} {K:PySem.W.Frag} (h:X.K=K):IxR X (Qv K):=by subst h;exact bA
theorem yW {X:Cx} {K:PySem.W.Frag} (h:X.K=K):IxR X (Wq K):=by subst h;exact bN
abbrev qH:Stmt:=top 32
theorem rJ:aS ["rows","numbers","point","steps","number","row"] ["rows","numbers","point"] (aD qH):=⟨rfl,rfl,rfl,by decide +kernel,rfl,by decide +kernel,by decide +kernel⟩
theorem Mp {dV : Value} (F : cB K "steps_from" "steps_from" qH dV f fd)
    (T : RT K mg CR CK) :
    aP P w K mg base CX 1 f fd ["rows", "numbers", "point"] (Dn K CK) := by
  refine F.ok rJ (fun vs H Q E h => ?_) (fun cdv A outer s H vs Q E hr h => ?_)
  · obtain ⟨a, b, xs, ds, es, p, rfl, hA, Rb, hB, hE, h100, q⟩ := h
    rfl
  obtain ⟨a, b, xs, ds, es, p, rfl, hA, Rb, hB, hE, h100, q⟩ := h
  refine ⟨_, (aB (aT (i := 3) rJ.nd rfl (Or.inl rfl) (cS aE))
    (aB (dW PassesOwn.never rfl (cY (pv 1)) (bF (i := 4) rJ.nd rfl (Or.inl rfl))
      (aB (aT (i := 5) rJ.nd rfl (Or.inl rfl) (aX bN (pv 0) (pv 4) (fun _ _ => rfl)))
    (aG (cD (bG eQ (bV (pv 5) rfl) (pv 2) (bL _)) (aG (bQ (mM PySem.F.plainAttrs_list PySem.F.slot_list_append PySem.F.type_list_append eX (pv 3) (aA (cW (aA (cW (aA (pv 4) (aA aF aE))) (aA (bV (pv 5) rfl) aE))) aE)))) (aG (cD (bG eQ (bV (pv 5) rfl) (pv 2) (bL _)) (aG (bQ (mM PySem.F.plainAttrs_list PySem.F.slot_list_append PySem.F.type_list_append eX (pv 3) (aA (cW (aA (cW (aA (pv 4) (aA (Ji Df aF) aE))) (aA (bV (pv 5) rfl) aE))) aE)))) bK))))))
    (aG (aY (pv 3))))), ?_⟩
  refine ⟨by show 0 ≤ sizeLine; decide, fun l hl => ?_⟩
  have s1 := aH hl (.lst [])
  have e1 : upd H l (.lst []) l = some (.lst []) := aC
  generalize upd H l (.lst []) = H1 at s1 e1 ⊢
  refine ⟨_, rfl, b, rfl, ⟨_, s1.seq hB⟩, ?_⟩
  refine fH (xs := es.map fun (e : Br) => V.int ((e.1 : Nat) : Int)) (fun i σ H' => bC H H' ∧ ∃ (ys : List V) (z4 z5 : Option V), σ = [some (.ref a), some (.ref b), some (.int (p : Int)), some (.ref l), z4, z5] ∧ H' l = some (.lst ys) ∧ Sds K H' ys (stF (es.take i) p)) ⟨s1, [], none, none, rfl, e1, .nil⟩ (fun i σ H' _ h => h.1.seq hB) ?_ ?_
  · rintro i x σ H2 hx ⟨s2, ys, z4, z5, rfl, e2, S2⟩
    rw [List.getElem?_map] at hx
    obtain ⟨e, he, rfl⟩ := Option.map_eq_some_iff.mp hx
    have hi : i < es.length := (List.getElem?_eq_some_iff.mp he).1
    obtain ⟨⟨k, u, v, q'⟩, hd, eu, ev⟩ := hE e (List.mem_of_getElem? he)
    have eu : u = (e.2.1 : Int) := eu
    have ev : v = (e.2.2 : Int) := ev
    subst eu
    subst ev
    obtain ⟨y, z, ey, rw0, fz⟩ := Rb.at hd
    have rw2 := rw0.same s2
    obtain ⟨dx, hx2⟩ := id rw2
    have at_ : atI xs (e.1 : Int) = some (.ref y) := bZ ey
    have ly : ys.length ≤ es.length := by
      have h1 := S2.length
      have h2 : (stF (es.take i) p).length ≤ (es.take i).length := List.length_filterMap_le _ _
      rw [List.length_take] at h2
      omega
    refine ⟨_, rfl, _, rfl, a, xs, _, _, rfl, rfl, s2.seq hA, at_, ?_⟩
    refine ⟨_, rfl, y, CK _, _, _, _, rfl, hx2, T.cl _, T.nS _, dB _ _ _, _, rfl, rfl, _, rfl, ?_⟩
    by_cases c1 : e.2.1 = p
    · have tk : stF (es.take (i + 1)) p = stF (es.take i) p ++ [((e.1, 1), e.2.2)] := by
        unfold stF
        rw [List.take_add_one, he, List.filterMap_append]
        show _ ++ [e].filterMap _ = _
        rw [List.filterMap_cons, if_pos c1]; rfl
      refine ifT (decide_eq_true (by rw [c1])) ?_
      refine ⟨_, rfl, .inl ⟨rfl, _, SqL.of e2⟩, _, rfl, by show 2 ≤ sizeLine; decide, fun u hu' => ?_⟩
      have su := aH hu' (.tup [.int (e.1 : Int), .int (1)])
      have eu : SqT K (upd H2 u (.tup [.int (e.1 : Int), .int (1)])) u [.int (e.1 : Int), .int (1)] := SqT.of aC
      generalize upd H2 u (.tup [.int (e.1 : Int), .int (1)]) = H3 at su eu ⊢
      obtain ⟨dx3, hx3⟩ := id (rw2.same su)
      refine ⟨_, rfl, y, CK _, _, _, _, rfl, hx3, T.cl _, T.nG _, dQ _ _ _, by show 2 ≤ sizeLine; decide, fun t ht => ?_⟩
      rw [show (k, (e.2.1 : Int), (e.2.2 : Int), q').2.2.1 = (e.2.2 : Int) from rfl]
      have st := aH ht (.tup [.ref u, .int (e.2.2 : Int)])
      have et : SqT K (upd H3 t (.tup [.ref u, .int (e.2.2 : Int)])) t [.ref u, .int (e.2.2 : Int)] := SqT.of aC
      generalize upd H3 t (.tup [.ref u, .int (e.2.2 : Int)]) = H4 at st et ⊢
      have s24 := su.trans st
      have e4 := s24 _ _ e2
      refine ⟨l, _, _, rfl, rfl, e4, bH (by omega), ⟨(s2.trans s24).change hl, _, _, _, rfl, aC, ?_⟩⟩
      rw [tk]
      exact Sds.upd e4 ((S2.same s24).app (.cons et (st.seqT eu) .nil))
    · refine ifF (decide_eq_false (fun z => c1 (by have : (e.2.1 : Int) = (p : Int) := by injection z
                                                   omega))) ?_
      refine ⟨_, rfl, y, CK _, _, _, _, rfl, hx2, T.cl _, T.nG _, dQ _ _ _, _, rfl, rfl, _, rfl, ?_⟩
      by_cases c2 : e.2.2 = p
      · have tk : stF (es.take (i + 1)) p = stF (es.take i) p ++ [((e.1, -1), e.2.1)] := by
          unfold stF
          rw [List.take_add_one, he, List.filterMap_append]
          show _ ++ [e].filterMap _ = _
          rw [List.filterMap_cons, if_neg c1, if_pos c2]; rfl
        refine ifT (decide_eq_true (by rw [c2])) ?_
        refine ⟨_, rfl, .inl ⟨rfl, _, SqL.of e2⟩, _, rfl, _, rfl, by show 2 ≤ sizeLine; decide, fun u hu' => ?_⟩
        have su := aH hu' (.tup [.int (e.1 : Int), .int (-1)])
        have eu : SqT K (upd H2 u (.tup [.int (e.1 : Int), .int (-1)])) u [.int (e.1 : Int), .int (-1)] := SqT.of aC
        generalize upd H2 u (.tup [.int (e.1 : Int), .int (-1)]) = H3 at su eu ⊢
        obtain ⟨dx3, hx3⟩ := id (rw2.same su)
        refine ⟨_, rfl, y, CK _, _, _, _, rfl, hx3, T.cl _, T.nS _, dB _ _ _, by show 2 ≤ sizeLine; decide, fun t ht => ?_⟩
        rw [show (k, (e.2.1 : Int), (e.2.2 : Int), q').2.1 = (e.2.1 : Int) from rfl]
        have st := aH ht (.tup [.ref u, .int (e.2.1 : Int)])
        have et : SqT K (upd H3 t (.tup [.ref u, .int (e.2.1 : Int)])) t [.ref u, .int (e.2.1 : Int)] := SqT.of aC
        generalize upd H3 t (.tup [.ref u, .int (e.2.1 : Int)]) = H4 at st et ⊢
        have s24 := su.trans st
        have e4 := s24 _ _ e2
        refine ⟨l, _, _, rfl, rfl, e4, bH (by omega), ⟨(s2.trans s24).change hl, _, _, _, rfl, aC, ?_⟩⟩
        rw [tk]
        exact Sds.upd e4 ((S2.same s24).app (.cons et (st.seqT eu) .nil))
      · have tk : stF (es.take (i + 1)) p = stF (es.take i) p := by
          unfold stF
          rw [List.take_add_one, he, List.filterMap_append]
          show _ ++ [e].filterMap _ = _
          rw [List.filterMap_cons, if_neg c1, if_neg c2]; simp
        refine ifF (decide_eq_false (fun z => c2 (by have : (e.2.2 : Int) = (p : Int) := by injection z
                                                     omega))) ⟨s2, ys, _, _, rfl, e2, ?_⟩
        rw [tk]; exact S2
  rintro σ H2 ⟨s2, ys, z4, z5, rfl, e2, S2⟩
  rw [List.length_map, List.take_length] at S2
  exact ⟨_, rfl, q l ys H2 s2 hl e2 S2⟩
theorem Uf {m:Nat} {es:List Br} {b:Nat} (hm:Ptm m es) (hb:b < m) (h20:m≤20) {w:WS} (nd:(cC w).Nodup) (pt:∀x st,(x,st)∈w→∃pts,Pt es b st x pts∧∀y∈pts,y∈cC w) {st:List Stp} {x:Nat} {pts:List Nat} (p:Pt es b st x pts) (k:∀y∈pts,y∈cC w):st.length≤20:=by
 have l:pts.length=st.length+1:=by
  induction p with
  |nil=>rfl
  |snoc h g n ih=>rw[List.length_append,List.length_append,ih fun y hy=>k y (List.mem_append_left _ hy)];rfl
 have nd':pts.Nodup:=by
  clear k l
  induction p with
  |nil=>simp
  |snoc h g n ih=>
   rw[List.nodup_append]
   refine⟨ih,by simp,fun x hx y hy z=>n ?_⟩
   rw[List.mem_singleton] at hy
   rw[← hy,← z];exact hx
 have:=Fj nd' fun y hy=>yF hm hb pt y (k y hy)
 omega
theorem Te {es:List Br} {b p m j:Nat} {T:List (Stp × Nat)} {s:WS × List Nat} (hm:Ptm m es) (hb:b < m) (h20:m≤20) (h:WJ es b p [] s) (g:∀t∈T,oP es t.1 p t.2):((T.take j).foldl (inF p) s).2.length≤muF s:=by
 have:=xT hm hb h20 (T.take j) [] h fun t ht=>g t (List.mem_of_mem_take ht)
 unfold muF at this ⊢
 omega
def muW (σ:St) (H:Hp):Nat:=match σ with
 | [_,_,_,_,some (.ref D),some (.ref W),_,_]=>match H D,H W with
  |some (.dK kvs),some (.lst q)=>2*(20 - kvs.length)+q.length
  |_,_=>0
 |_=>0
theorem Jt {H:Hp} {D W:Addr} {kvs:List (Key × V)} {q:List V} {a b c d e f:Option V} (h:H D=some (.dK kvs)) (g:H W=some (.lst q)):muW [a,b,c,d,some (.ref D),some (.ref W),e,f] H=2*(20 - kvs.length)+q.length:=by
 show (match H D,H W with | some (.dK kvs),some (.lst q)=>2*(20 - kvs.length)+q.length | _,_=>0)=_
 rw[h,g]
theorem Oe {q:List Nat} (h:q≠[]):(q.map fun (p:Nat)=>V.int (p:Int))[((q.map fun (p:Nat)=>V.int (p:Int))).length - 1]?=some (.int ((q.getLastD 0:Nat):Int))∧(q.map fun (p:Nat)=>V.int (p:Int)).dropLast=(q.dropLast.map fun (p:Nat)=>V.int (p:Int)):=by
 obtain⟨_,e⟩:=Ez h
 generalize q.getLastD 0=x at e
 generalize q.dropLast=r at e
 subst e
 rw[List.map_append]
 simp
abbrev Ir:Stmt:=top 31
theorem zP:aS ["rows","numbers","begin","end","ways","waiting","point","step"] ["rows","numbers","begin","end"] (aD Ir):=⟨rfl,rfl,rfl,by decide +kernel,rfl,by decide +kernel,by decide +kernel⟩
theorem Uj {dV:Value} (F:cB K "way_along" "way_along" Ir dV f fd)
  (ml:mg "len"=none)
  (G1:aP P w K mg base CX0 1 g1 gd1 ["rows","numbers","point"] (Dn K CK)) (b1:aR K gd1 ["rows","numbers","point"] []) (k1:PySem.W.keepIn K (.ref g1)=true) (m1:mg "steps_from"=some (.ref g1)) :
  aP P w K mg base CX 2 f fd ["rows","numbers","begin","end"] (Rz K CK):=by
 refine F.ok zP (fun vs H Q E h=>?_) (fun cdv A outer s H vs Q E hr h=>?_)
 ·obtain⟨a,b,xs,ds,es,m,f,t,rfl,hA,Rb,hB,hE,h100,hm,h20,hf,qN,qS⟩:=h
  rfl
 obtain⟨a,b,xs,ds,es,m,f,t,rfl,hA,Rb,hB,hE,h100,hm,h20,hf,qN,qS⟩:=h
 refine⟨_,(aB (aT (i:=4) zP.nd rfl (Or.inl rfl) (Es (kH (pv 2) (cS aE) Em) rfl rfl (by simp) (by decide)))
  (aB (aT (i:=5) zP.nd rfl (Or.inl rfl) (cS (aA (pv 2) aE)))
  (aB (sV PassesOwn.never (bG Aj (cK bO rfl ml PySem.boot_len (aA (pv 5) aE)) aF (bL _))
   (aB (aT (i:=6) zP.nd rfl (Or.inl rfl) (Tr PySem.F.plainAttrs_list PySem.F.slot_list_pop PySem.F.type_list_pop Vb (pv 5)))
   (aG (dW PassesOwn.never rfl (cY (aI G1 hr rfl m1 k1 b1 .nil aL (aA (pv 0) (aA (pv 1) (aA (pv 6) aE))))) (bF (i:=7) zP.nd rfl (Or.inl rfl))
    (aG (cD (xY (Iw (Ai hr) (aX bA (pv 7) aF (fun _ _=>rfl)) (pv 4)))
     (aB (Pl (Ai hr) (pv 4) (aX bA (pv 7) aF (fun _ _=>rfl)) (aV pD (rB (Ai hr) (pv 4) (pv 6) (fun _ _=>rfl)) (cS (aA (aX bA (pv 7) aF (fun _ _=>rfl)) aE))) rfl)
     (aG (bQ (mM PySem.F.plainAttrs_list PySem.F.slot_list_append PySem.F.type_list_append eX (pv 5) (aA (aX bA (pv 7) aF (fun _ _=>rfl)) aE)))))
     bK))))))
  (aG (aY (Lj (Ai hr) (pv 4) (pv 3) ⟨rfl,rfl,rfl,rfl⟩)))))),?_⟩
 refine fun D hD=>?_
 have sD:=aH hD (.dK [])
 have eD:upd H D (.dK []) D=some (.dK []):=aC
 generalize upd H D (.dK [])=H1 at sD eD ⊢
 refine⟨_,rfl,by show 0≤sizeLine;decide,fun L hL=>?_⟩
 have nLD:L≠D:=Ne.symm (aZ eD hL)
 have nL:H L=none:=sD.free hL
 have sL:=aH hL (.lst [])
 have eL:upd H1 L (.lst []) L=some (.lst []):=aC
 generalize upd H1 L (.lst [])=H2 at sL eL ⊢
 refine⟨sL _ _ eD,[((Sum.inl (f:Int):Key),V.ref L)],rfl,by show 1≤15;decide,?_⟩
 have s3:bC H (upd H2 D (.dK (iS [] [((Sum.inl (f:Int):Key),V.ref L)]))):=(sD.trans sL).change hD
 have e3:upd H2 D (.dK (iS [] [((Sum.inl (f:Int):Key),V.ref L)])) D=some (.dK [((Sum.inl (f:Int):Key),V.ref L)]):=aC
 have eL3:upd H2 D (.dK (iS [] [((Sum.inl (f:Int):Key),V.ref L)])) L=some (.lst []):=by rw[aW nLD];exact eL
 generalize upd H2 D (.dK (iS [] [((Sum.inl (f:Int):Key),V.ref L)]))=H3 at s3 e3 eL3 ⊢
 refine⟨_,rfl,by show 1≤sizeLine;decide,fun W hW=>?_⟩
 have nLW:L≠W:=aZ eL3 hW
 have nDW:D≠W:=aZ e3 hW
 have nW:H W=none:=s3.free hW
 have sW:=aH hW (.lst [.int (f:Int)])
 have eW:upd H3 W (.lst [.int (f:Int)]) W=some (.lst [.int (f:Int)]):=aC
 generalize upd H3 W (.lst [.int (f:Int)])=H4 at sW eW ⊢
 have s4:=s3.trans sW
 have w4:Wys K H W H4 [((Sum.inl (f:Int):Key),V.ref L)] (cE es f 0).1:=.cons nL nLW (sW _ _ eL3) .nil .nil
 refine sS (fun σ H'=>bC H H'∧∃(i:Nat) (kvs:List (Key × V)) (z6 z7:Option V),σ=[some (.ref a),some (.ref b),some (.int (f:Int)),some (.int (t:Int)),some (.ref D),some (.ref W),z6,z7]∧H' D=some (.dK kvs)∧H' W=some (.lst ((cE es f i).2.map fun (p:Nat)=>V.int (p:Int)))∧Wys K H W H' kvs (cE es f i).1∧i≤40) muW ⟨s4,0,_,none,none,rfl,sW _ _ e3,eW,w4,by omega⟩ ?_ ?_
 ·rintro σ H5 ⟨s5,i,kvs,z6,z7,rfl,e5,q5,w5,hi⟩
  have lk:=w5.length
  have wi:=jI es f i
  have le20:=Jy hm hf wi.nd wi.pt
  refine⟨_,rfl,W,_,rfl,.inl (SqL.of q5),_,_,rfl,rfl,_,rfl,?_⟩
  by_cases hq:(cE es f i).2=[]
  ·-- it ends
   rw[hq] at q5
   refine ifF (by rw[hq];rfl) ?_
   have e60:=Rg hq (by omega)
   refine⟨_,rfl,D,rfl,.inl ⟨kvs,.inl e5⟩,_,rfl,_,jC.k (k:=Sum.inl (t:Int)) e5,?_⟩
   by_cases c:t∈cC (cE es f i).1
   ·obtain⟨l,ys,st,ev,eg,nl,_,hl,f'⟩:=w5.some_ c
    rw[ev]
    refine qS st ?_ l ys H5 s5 nl hl f'
    unfold tU
    rw[e60];exact eg
   ·rw[(w5.none_ c).1]
    refine qN ?_ H5 s5
    unfold tU
    rw[e60];exact pP c
  ·have mu0:=Jt (a:=some (.ref a)) (b:=some (.ref b)) (c:=some (.int (f:Int))) (d:=some (.int (t:Int))) (e:=z6) (f:=z7) e5 q5
   have hi39:i+muF (cE es f i)≤39:=by
    rcases qG hm hf h20 i with z | z
    ·exact absurd z hq
    ·exact z
   have stp:cE es f (i+1)=(stF es ((cE es f i).2.getLastD 0)).foldl (inF ((cE es f i).2.getLastD 0)) ((cE es f i).1,(cE es f i).2.dropLast):=by
    show jY es (cE es f i)=_
    unfold jY
    rw[if_neg hq]
   have gW:=Ed hm hf h20 wi hq
   have gW:muF (cE es f (i+1))+1≤muF (cE es f i):=gW
   have wj0:=tE wi hq
   have pk:=wj0.kp
   obtain⟨ml1,ml2⟩:=Oe hq
   generalize hp:(cE es f i).2.getLastD 0=p at *
   have ll:0 < ((cE es f i).2.map fun (p:Nat)=>V.int (p:Int)).length:=by rw[List.length_map];exact List.length_pos_iff.mpr hq
   refine ifT (by show decide (0 < ((((cE es f i).2.map fun (p:Nat)=>V.int (p:Int)).length:Nat):Int))=true;exact decide_eq_true (by omega)) ?_
   refine⟨_,rfl,.inl ⟨rfl,_,SqL.of q5⟩,W,_,_,rfl,rfl,q5,ml1,?_⟩
   rw[ml2]
   have s6:bC H (upd H5 W (.lst ((cE es f i).2.dropLast.map fun (p:Nat)=>V.int (p:Int)))):=s5.change nW
   have e6:upd H5 W (.lst ((cE es f i).2.dropLast.map fun (p:Nat)=>V.int (p:Int))) D=some (.dK kvs):=by rw[aW nDW];exact e5
   have q6:upd H5 W (.lst ((cE es f i).2.dropLast.map fun (p:Nat)=>V.int (p:Int))) W=some (.lst ((cE es f i).2.dropLast.map fun (p:Nat)=>V.int (p:Int))):=aC
   have w6:=w5.updW (o:=.lst ((cE es f i).2.dropLast.map fun (p:Nat)=>V.int (p:Int))) q5
   generalize upd H5 W (.lst ((cE es f i).2.dropLast.map fun (p:Nat)=>V.int (p:Int)))=H6 at s6 e6 q6 w6 ⊢
   refine⟨_,rfl,_,rfl,_,rfl,a,b,xs,ds,es,p,rfl,s6.seq hA,Rb.same s6,s6.seq hB,hE,h100,fun l ys H7 s7 nl el S7=>?_⟩
   have s07:=s6.trans s7
   have nlW:l≠W:=Ne.symm (aZ q6 nl)
   have nlD:l≠D:=Ne.symm (aZ e6 nl)
   have nlH:H l=none:=s6.free nl
   have lys:=S7.length
   refine⟨l,rfl,⟨_,SqL.of el⟩,?_⟩
   refine fH (xs:=ys) (fun j σ H'=>bC H H'∧H' l=some (.lst ys)∧Sds K H' ys (stF es p)∧∃(kvs:List (Key × V)) (z7:Option V),σ=[some (.ref a),some (.ref b),some (.int (f:Int)),some (.int (t:Int)),some (.ref D),some (.ref W),some (.int (p:Int)),z7]∧H' D=some (.dK kvs)∧H' W=some (.lst ((((stF es p).take j).foldl (inF p) ((cE es f i).1,(cE es f i).2.dropLast)).2.map fun (p:Nat)=>V.int (p:Int)))∧Wys K H W H' kvs (((stF es p).take j).foldl (inF p) ((cE es f i).1,(cE es f i).2.dropLast)).1) ⟨s07,el,S7,kvs,z7,rfl,s7 _ _ e6,s7 _ _ q6,w6.same s7⟩ (fun j σ H' _ h=>SqL.of h.2.1) ?_ ?_
   ·rintro j x σ H8 hx ⟨s8,el8,S8,kv8,z7',rfl,e8,q8,w8⟩
    obtain⟨tt,u,s,rfl,es',hT,hU⟩:=S8.get hx
    have hj:j < (stF es p).length:=(List.getElem?_eq_some_iff.mp es').1
    have gs:oP es s.1 p s.2:=kC (List.mem_of_getElem? es')
    have wj:=yT ((stF es p).take j) [] wj0 fun z hz=>kC (List.mem_of_mem_take hz)
    have fold1:((stF es p).take (j+1)).foldl (inF p) ((cE es f i).1,(cE es f i).2.dropLast)=inF p (((stF es p).take j).foldl (inF p) ((cE es f i).1,(cE es f i).2.dropLast)) s:=by
     rw[List.take_add_one,es',List.foldl_append];rfl
    rw[fold1]
    have wj':=Ep wj gs
    have le8:=Jy hm hf wj.nd wj.pt
    have lS:=Te hm hf h20 wj0 (j:=j) (T:=stF es p) (fun z hz=>kC hz)
    have mb:=Aw hq
    generalize ((stF es p).take j).foldl (inF p) ((cE es f i).1,(cE es f i).2.dropLast)=S at q8 w8 wj wj' le8 lS ⊢
    have lS2:S.2.length≤100:=by omega
    have lk8:=w8.length
    obtain⟨⟨sn,sw⟩,sx⟩:=s
    have hT:SqT K H8 tt [.ref u,.int (sx:Int)]:=hT
    refine⟨_,rfl,tt,_,1,_,rfl,rfl,hT,rfl,_,rfl,D,_,rfl,jC.k (k:=Sum.inl (sx:Int)) e8,_,rfl,?_⟩
    by_cases c:sx∈cC S.1
    ·refine ifF (by rw[w8.isSome,decide_eq_true c];rfl) ⟨s8,el8,S8,kv8,_,rfl,e8,?_,?_⟩
     ·show H8 W=some (.lst ((inF p S ((sn,sw),sx)).2.map fun (p:Nat)=>V.int (p:Int)))
      unfold inF
      rw[if_pos c];exact q8
     ·show Wys K H W H8 kv8 (inF p S ((sn,sw),sx)).1
      unfold inF
      rw[if_pos c];exact w8
    ·refine ifT (by rw[w8.isSome,decide_eq_false c];rfl) ?_
     obtain⟨ap,xp,sp,ev,eg,nap,nwp,hap,fp⟩:=w8.some_ wj.kp
     have lsp:=fp.length
     have lsp2:sp.length≤20:=by
      obtain⟨pts,pt1,pt2⟩:=wj.pt p sp (gL eg)
      exact Uf hm hf h20 wj.nd wj.pt pt1 pt2
     refine⟨_,rfl,_,rfl,D,.ref ap,rfl,(by have:=jC.k (k:=Sum.inl (p:Int)) e8;rw[ev] at this;exact this),?_⟩
     refine⟨_,rfl,tt,_,0,_,rfl,rfl,hT,rfl,by show 1≤sizeLine;decide,fun L1 hL1=>?_⟩
     have s9:=aH hL1 (.lst [.ref u])
     have e9:upd H8 L1 (.lst [.ref u]) L1=some (.lst [.ref u]):=aC
     generalize upd H8 L1 (.lst [.ref u])=H9 at s9 e9 ⊢
     refine⟨ap,L1,_,_,rfl,rfl,s9 _ _ hap,e9,by rw[sizeLine_eq];simp only[List.length_cons,List.length_nil];omega,fun C hC=>?_⟩
     have nC8:H8 C=none:=s9.free hC
     have sA:=aH hC (.lst (xp++[.ref u]))
     have eA:upd H9 C (.lst (xp++[.ref u])) C=some (.lst (xp++[.ref u])):=aC
     generalize upd H9 C (.lst (xp++[.ref u]))=HA at sA eA ⊢
     have s8A:=s9.trans sA
     have nCW:C≠W:=Ne.symm (aZ q8 nC8)
     have nCD:C≠D:=Ne.symm (aZ e8 nC8)
     have eDA:=s8A _ _ e8
     refine⟨_,rfl,_,rfl,tt,_,1,_,rfl,rfl,s8A.seqT hT,rfl,D,_,rfl,Kx.k (k:=Sum.inl (sx:Int)) eDA (by rw[sizeLine_eq];omega),?_⟩
     have put:kS kv8 (Sum.inl (sx:Int)) (.ref C)=kv8++[(Sum.inl (sx:Int),.ref C)]:=by unfold kS;rw[if_neg (by rw[(w8.none_ c).2];simp)]
     rw[put]
     have eB:upd HA D (.dK (kv8++[(Sum.inl (sx:Int),.ref C)])) D=some (.dK (kv8++[(Sum.inl (sx:Int),.ref C)])):=aC
     have qB:upd HA D (.dK (kv8++[(Sum.inl (sx:Int),.ref C)])) W=some (.lst (S.2.map fun (p:Nat)=>V.int (p:Int))):=by rw[aW (Ne.symm nDW)];exact s8A _ _ q8
     have sB:bC H (upd HA D (.dK (kv8++[(Sum.inl (sx:Int),.ref C)]))):=(s8.trans s8A).change hD
     have wB:Wys K H W (upd HA D (.dK (kv8++[(Sum.inl (sx:Int),.ref C)]))) (kv8++[(Sum.inl (sx:Int),.ref C)]) (S.1++[(sx,sp++[(sn,sw)])]):=
      Wys.snoc (s8.free nC8) nCW (by rw[aW nCD];exact eA) (((fp.same s8A).app (.cons (s8A.seqT hU) .nil)).updD eDA) ((w8.same s8A).updD eDA)
     have elB:upd HA D (.dK (kv8++[(Sum.inl (sx:Int),.ref C)])) l=some (.lst ys):=by rw[aW nlD];exact s8A _ _ el8
     have SB:=(S8.same s8A).updD (o:=.dK (kv8++[(Sum.inl (sx:Int),.ref C)])) eDA
     have hTB:=SqT.updD (o:=.dK (kv8++[(Sum.inl (sx:Int),.ref C)])) (s8A.seqT hT) eDA
     generalize upd HA D (.dK (kv8++[(Sum.inl (sx:Int),.ref C)]))=HB at eB qB sB wB elB SB hTB ⊢
     refine⟨_,rfl,.inl ⟨rfl,_,SqL.of qB⟩,_,rfl,tt,_,1,_,rfl,rfl,hTB,rfl,W,_,_,rfl,rfl,qB,bH (by rw[List.length_map];omega),?_⟩
     have inE:inF p S ((sn,sw),sx)=(S.1++[(sx,sp++[(sn,sw)])],S.2++[sx]):=by
      unfold inF
      rw[if_neg c,eg];rfl
     rw[inE]
     refine⟨sB.change nW,by rw[aW nlW];exact elB,SB.upd qB,_,_,rfl,by rw[aW nDW];exact eB,?_,wB.updW qB⟩
     rw[aC,List.map_append];rfl
   ·rintro σ H8 ⟨s8,el8,S8,kv8,z7',rfl,e8,q8,w8⟩
    rw[lys,List.take_length,← stp] at q8 w8
    have lk8:=w8.length
    refine⟨⟨s8,i+1,kv8,_,_,rfl,e8,q8,w8,by omega⟩,?_⟩
    rw[mu0,Jt e8 q8,List.length_map,List.length_map,lk,lk8]
    unfold muF at gW
    omega
 ·rintro σ H Q Q' mono ⟨v,h1,p',ys,h2,h3,i,j,h4,h5,k,h6,h7⟩
  exact⟨v,h1,p',ys,h2,h3,i,j,h4,h5,k,h6,mono _ _ h7⟩
theorem Rv {ds:List RD} {i:Nat} {d:RD} (h:ds[i]?=some d):(skl ds)[i]?=some (d.1,d.2.1.toNat,d.2.2.1.toNat):=by unfold skl;rw[List.getElem?_map,h];rfl
theorem Me (ds:List RD):(skl ds).length=ds.length:=by unfold skl;rw[List.length_map]
theorem Xf {m:Nat} {ds:List RD} (pt:∀d∈ds,cQ (m:Int) d.2.1 d.2.2.1):∀d∈skl ds,d.2.1 < m∧d.2.2 < m:=fun d hd=>by
 obtain⟨e,he,rfl⟩:=List.mem_map.mp hd
 obtain⟨i0,i1,j0,j1⟩:=pt e he
 exact⟨by show e.2.1.toNat < m;omega,by show e.2.2.1.toNat < m;omega⟩
theorem Pw {W:Kd→Bool} {m n:Nat} {ds:List RD} {s:RS} (pt:∀d∈ds,cQ (m:Int) d.2.1 d.2.2.1) (h:RI W (skl ds) m n s):Um ds s.1:=fun e he=>by
 obtain⟨k,hk⟩:=h.at_ e he
 have hl:e.1 < ds.length:=by have:=(List.getElem?_eq_some_iff.mp hk).1;rwa [Me] at this
 have hd:ds[e.1]?=some ds[e.1]:=List.getElem?_eq_getElem hl
 rw[Rv hd] at hk
 obtain⟨i0,i1,j0,j1⟩:=pt _ (List.mem_of_getElem? hd)
 refine⟨_,hd,?_,?_⟩
 ·have:ds[e.1].2.1.toNat=e.2.1:=by injection hk with z;injection z with _ z;injection z
  omega
 ·have:ds[e.1].2.2.1.toNat=e.2.2:=by injection hk with z;injection z with _ z;injection z
  omega
theorem Nm {W:Kd→Bool} {sk:List Sk}:∀n,(eO W sk n).1.length≤n
 |0=>Nat.le_refl _
 |n+1=>by
  have ih:=Nm (W:=W) (sk:=sk) n
  cases h:sk[n]? with
  |none=>show (match sk[n]? with | none=>eO W sk n | some d=>iG W (eO W sk n) n d).1.length≤n+1;rw[h];show (eO W sk n).1.length≤n+1;omega
  |some d=>
   rw[iF h]
   generalize eO W sk n=s at ih
   unfold iG
   split
   ·split
    ·show (s.1++[(n,d.2.1,d.2.2)]).length≤n+1
     rw[List.length_append];simp only[List.length_cons,List.length_nil];omega
    ·show s.1.length≤n+1;omega
   ·omega
def WdA (K:PySem.W.Frag) (H:Hp) (v:V) (W:Kd→Bool):Prop:=∃(p:Addr) (ws:List V),v=.ref p∧(SqL K H p ws∨SqT K H p ws)∧ws.all mH=true∧∀k:Kd,inV (.str k.wd) ws=W k
theorem WdA.same {K:PySem.W.Frag} {H H':Hp} {v:V} {W:Kd→Bool} (e:bC H H') (h:WdA K H v W):WdA K H' v W:=by
 obtain⟨p,ws,h1,h2,h3⟩:=h
 refine⟨p,ws,h1,?_,h3⟩
 rcases h2 with z | z
 ·exact .inl (e.seq z)
 ·exact .inr (e.seqT z)
theorem Vv (k:Kd):inV (.str k.wd) [.str "piece",.str "hold"]=decide (k≠.pu):=by cases k<;>decide
abbrev gY:Stmt:=top 30
theorem iP:aS ["net","words","wanted","rows","branches","found","number","row","back"] ["net","words"] (aD gY):=⟨rfl,rfl,rfl,by decide +kernel,rfl,by decide +kernel,by decide +kernel⟩
theorem Nw {dV:Value} (F:cB K "rings" "rings" gY dV f fd)
  {CN aJ:Addr} (NTx:NT K mg CN) (T:RT K mg CR CK) (men:mg "enumerate"=none) (fJ:∀H,SqT K H aJ [.str "piece",.str "hold"]) (mJO:mg "JOINING_WORDS"=some (.ref aJ))
  (GW:∀k,aP P w K mg base CX0 1 (fW k) (fdW k) ["self"] (kY k)) (bW:∀k,aR K (fdW k) ["self"] []) (mW:∀k,gD K (CK k) "word" (fW k))
  {gRo:Addr} {gdRo:FuncData} (GRo:aP P w K mg base CX0 4 gRo gdRo ["self"] (tH CN K CK)) (bRo:aR K gdRo ["self"] []) (mRo:gD K CN "rows" gRo)
  (G1:aP P w K mg base CX0 2 g1 gd1 ["rows","numbers","begin","end"] (Rz K CK)) (b1:aR K gd1 ["rows","numbers","begin","end"] []) (k1:PySem.W.keepIn K (.ref g1)=true) (m1:mg "way_along"=some (.ref g1)) :
  aP P w K mg base CX 5 f fd ["net","words"] (Ec CN K):=by
 refine F.ok iP (fun vs H Q E h=>?_) (fun cdv A outer s H vs Q E hr h=>?_)
 ·obtain⟨n,l,v,m,ds,W,rfl,nt,pt,h20,h40,hW,q⟩:=h
  rfl
 obtain⟨n,l,v,m,ds,W,rfl,nt,pt,h20,h40,hW,q⟩:=h
 have r1:=hr.mono (show 1≤4 by omega)
 have r2:=hr.mono (show 2≤4 by omega)
 refine⟨_,(aB (aT (i:=2) iP.nd rfl (Or.inl rfl) (oO (xY (Da (pv 1))) (dA (v:=.ref aJ) rfl mJO rfl) (pv 1)))
  (aB (aT (i:=3) iP.nd rfl (Or.inl rfl) (fF (pv 0) NTx.cl mRo GRo hr bRo .nil aL))
  (aB (aT (i:=4) iP.nd rfl (Or.inl rfl) (cS aE))
  (aB (aT (i:=5) iP.nd rfl (Or.inl rfl) (cS aE))
  (aB (dW PassesOwn.never rfl (yP rfl men rfl (aA (pv 3) aE)) (kX rfl (cJ (bF (i:=6) iP.nd rfl (Or.inl rfl)) (cJ (bF (i:=7) iP.nd rfl (Or.inl rfl)) iR)))
   (aG (cD (bG Gu (gA (pv 7) T.cl mW GW r1 bW .nil aL) (pv 2) rfl) (aB (aT (i:=8) iP.nd rfl (Or.inl rfl) (aI G1 r2 rfl m1 k1 b1 .nil aL (aA (pv 3) (aA (pv 4) (aA (bV (pv 7) rfl) (aA (bV (pv 7) rfl) aE))))))
  (aG (cD (xY (Da (pv 8))) (aG (bQ (mM PySem.F.plainAttrs_list PySem.F.slot_list_append PySem.F.type_list_append eX (pv 4) (aA (pv 6) aE)))) (aG (bQ (mM PySem.F.plainAttrs_list PySem.F.slot_list_append PySem.F.type_list_append eX (pv 5) (aA (aV pD (cS (aA (cW (aA (pv 6) (aA aF aE))) aE)) (pv 8)) aE))))))) bK)))
  (aG (aY (pv 5)))))))),?_⟩
 refine Kz (fun σ' H'=>H'=H∧∃wv,σ'=[some (.ref n),some v,some wv,none,none,none,none,none,none]∧WdA K H wv W) (fun X hX=>?_) ?_
 ·cases hW with
  |non=>exact⟨_,rfl,_,rfl,ifT rfl (hX _ _ ⟨rfl,_,rfl,aJ,_,rfl,.inr (fJ H),rfl,Vv⟩)⟩
  | @seq a ws h f=>exact⟨_,rfl,_,rfl,ifF rfl ⟨_,rfl,hX _ _ ⟨rfl,_,rfl,a,_,rfl,.inl h,f,fun _=>rfl⟩⟩⟩
 rintro σ' H' ⟨hH',wv,rfl,hw⟩
 subst hH'
 obtain⟨dx,hn⟩:=nt.ob
 refine⟨_,rfl,n,dx,_,rfl,hn,dX _ _ (by decide +kernel) (by decide +kernel),n,l,_,ds,rfl,nt,by omega,fun a xs H1 s1 na ea Rb=>?_⟩
 have lxs:=Rb.length
 refine⟨by show 0≤sizeLine;decide,fun B hB=>?_⟩
 have nB:H' B=none:=s1.free hB
 have sB:=aH hB (.lst [])
 have eB:upd H1 B (.lst []) B=some (.lst []):=aC
 generalize upd H1 B (.lst [])=H2 at sB eB ⊢
 refine⟨by show 0≤sizeLine;decide,fun F hF=>?_⟩
 have nF:H' F=none:=(s1.trans sB).free hF
 have nBF:B≠F:=aZ eB hF
 have sF:=aH hF (.lst [])
 have eF:upd H2 F (.lst []) F=some (.lst []):=aC
 generalize upd H2 F (.lst [])=H3 at sF eF ⊢
 have s3:=s1.trans (sB.trans sF)
 have ea3:=(sB.trans sF) _ _ ea
 have naB:a≠B:=aZ ea hB
 have naF:a≠F:=aZ (sB _ _ ea) hF
 have sk:=Me ds
 have slt:=Xf pt
 have s13:=sB.trans sF
 refine⟨_,rfl,a,rfl,⟨_,SqL.of ea3⟩,?_⟩
 have nB1:H1 B=none:=hB
 have nF1:H1 F=none:=sB.free hF
 refine Oa (xs:=xs) (fun i σ HH=>bC H1 HH∧∃(us:List V) (z6 z7 z8:Option V),σ=[some (.ref n),some v,some wv,some (.ref a),some (.ref B),some (.ref F),z6,z7,z8]∧HH B=some (.lst ((eO W (skl ds) i).1.map fun (e:Br)=>V.int ((e.1:Nat):Int)))∧HH F=some (.lst us)∧Rgs K H' HH us ((eO W (skl ds) i).2.map (·.2))∧∀x∈us,x≠.ref F∧x≠.ref B) ⟨s13,[],none,none,none,rfl,sF _ _ eB,eF,.nil,fun x hx=>(by cases hx)⟩ (fun i σ HH _ h=>h.1.seq (SqL.of ea)) ?_ ?_
 ·rintro i x σ H4 T2 hx ⟨s4,us,z6,z7,z8,rfl,eB4,eF4,G4,nx4⟩ hT
  have hi:i < ds.length:=by
   have:=(List.getElem?_eq_some_iff.mp hx).1
   omega
  obtain⟨⟨k0,u,v0,p0⟩,hd⟩:∃d,ds[i]?=some d:=⟨_,List.getElem?_eq_getElem hi⟩
  obtain⟨y,z,ey,rw0,fz0⟩:=Rb.at hd
  have ex:x=.ref y:=by rw[ey] at hx;exact(Option.some.inj hx).symm
  subst ex
  obtain⟨u0,u1,v1,v2⟩:cQ (m:Int) u v0:=pt _ (List.mem_of_getElem? hd)
  obtain⟨uN,rfl⟩:∃n:Nat,u=(n:Int):=⟨u.toNat,by omega⟩
  obtain⟨vN,rfl⟩:∃n:Nat,v0=(n:Int):=⟨v0.toNat,by omega⟩
  have skd:(skl ds)[i]?=some (k0,uN,vN):=by
   have:=Rv hd
   rwa [show ((k0,(uN:Int),(vN:Int),p0):RD).2.1.toNat=uN from Int.toNat_natCast uN,show ((k0,(uN:Int),(vN:Int),p0):RD).2.2.1.toNat=vN from Int.toNat_natCast vN] at this
  have ri:=sZ (W:=W) slt i (by omega)
  have bo:=Pw pt ri
  have bl':=Nm (W:=W) (sk:=skl ds) i
  have gl:=G4.l
  rw[List.length_map] at gl
  have rl:=ri.rl
  have succ:=iF (W:=W) skd
  generalize eO W (skl ds) i=S at eB4 G4 ri bo bl' gl rl succ
  have sT:=aH hT (.tup [.int (i:Int),.ref y])
  refine⟨T2,_,rfl,SqT.of aC,rfl,_,_,rfl,_,_,rfl,rfl,?_⟩
  have nT1:H1 T2=none:=s4.free hT
  generalize upd H4 T2 (.tup [.int (i:Int),.ref y])=H5 at sT ⊢
  have s5:=s4.trans sT
  have eB5:=sT _ _ eB4
  have eF5:=sT _ _ eF4
  have G5:=G4.same sT
  obtain⟨dr,hy⟩:=id (rw0.same s5)
  obtain⟨pw,ws,ew,hws,fl,hinv⟩:=hw.same (s1.trans s5)
  refine⟨_,rfl,k0,y,dr,_,rfl,hy,(eE _ _ _ (by decide +kernel) (by decide +kernel) (by decide +kernel)),_,rfl,_,rfl,pw,ws,ew,hws,rfl,fl,_,rfl,?_⟩
  have hin:inV (.str k0.wd) ws=W k0:=hinv k0
  by_cases hk:W k0=true
  ·refine ifT (by show (if false=true then _ else inV (V.str k0.wd) ws)=true;rw[if_neg (by decide),hin];exact hk) ?_
   refine⟨_,rfl,_,rfl,_,rfl,y,CK _,_,_,_,rfl,hy,T.cl _,T.nG _,dQ _ _ _,_,rfl,y,CK _,_,_,_,rfl,hy,T.cl _,T.nS _,dB _ _ _,a,B,xs,ds,S.1,m,vN,uN,rfl,s5.seq (SqL.of ea),Rb.same s5,SqL.of eB5,bo,by omega,ri.pt,h20,by omega,fun hnone H6 s6=>?_,fun st hst l' ys H6 s6 nl el S6=>?_⟩
   ·refine⟨_,rfl,_,rfl,ifT rfl ?_⟩
    have eB6:=s6 _ _ eB5
    have s06:=s5.trans s6
    refine⟨_,rfl,.inl ⟨rfl,_,SqL.of eB6⟩,_,rfl,B,_,_,rfl,rfl,eB6,bH (by rw[List.length_map];omega),?_⟩
    have eS:iG W S i (k0,uN,vN)=(S.1++[(i,uN,vN)],S.2):=by
     unfold iG
     rw[if_pos hk,hnone]
    rw[succ,eS]
    refine⟨s06.change nB1,us,_,_,_,rfl,?_,by rw[aW (Ne.symm nBF)];exact s6 _ _ eF5,(G5.same s6).updO eB6 (fun x hx=>(nx4 x hx).2),nx4⟩
    rw[aC,List.map_append];rfl
   ·refine⟨_,rfl,_,rfl,ifF rfl ?_⟩
    have eF6:=s6 _ _ eF5
    have s06:=s5.trans s6
    refine⟨_,rfl,.inl ⟨rfl,_,SqL.of eF6⟩,_,rfl,by show 2≤sizeLine;decide,fun t ht=>?_⟩
    have st7:=aH ht (.tup [.int (i:Int),.int 1])
    have et:SqT K (upd H6 t (.tup [.int (i:Int),.int 1])) t [.int (i:Int),.int 1]:=SqT.of aC
    generalize upd H6 t (.tup [.int (i:Int),.int 1])=H7 at st7 et ⊢
    refine⟨by show 1≤sizeLine;decide,fun L1 hL1=>?_⟩
    have s8:=aH hL1 (.lst [.ref t])
    have e8:upd H7 L1 (.lst [.ref t]) L1=some (.lst [.ref t]):=aC
    generalize upd H7 L1 (.lst [.ref t])=H8 at s8 e8 ⊢
    have lst':=vF ri.pt (show vN < m by omega) hst
    have lys:=S6.length
    refine⟨_,rfl,L1,l',_,_,rfl,rfl,e8,(st7.trans s8) _ _ el,by rw[sizeLine_eq];simp only[List.length_cons,List.length_nil];omega,fun C hC=>?_⟩
    have nC8:H8 C=none:=hC
    have s9:=aH hC (.lst ([.ref t]++ys))
    have e9:upd H8 C (.lst ([.ref t]++ys)) C=some (.lst ([.ref t]++ys)):=aC
    generalize upd H8 C (.lst ([.ref t]++ys))=H9 at s9 e9 ⊢
    have s69:=st7.trans (s8.trans s9)
    have eF9:=s69 _ _ eF6
    have s09:=s06.trans s69
    have nCF:C≠F:=Ne.symm (aZ ((st7.trans s8) _ _ eF6) nC8)
    have nCB:C≠B:=Ne.symm (aZ ((st7.trans s8) _ _ (s6 _ _ eB5)) nC8)
    refine⟨F,_,_,rfl,rfl,eF9,bH (by omega),?_⟩
    have eS:iG W S i (k0,uN,vN)=(S.1,S.2++[(i,(i,1) :: st)]):=by
     unfold iG
     rw[if_pos hk,hst]
    rw[succ,eS]
    have SC:Sts K H9 ([.ref t]++ys) ((i,1) :: st):=.cons ((s8.trans s9).seqT et) (S6.same s69)
    refine⟨s09.change nF1,us++[.ref C],_,_,_,rfl,by rw[aW nBF];exact s69 _ _ (s6 _ _ eB5),aC,?_,fun x hx=>?_⟩
    ·rw[List.map_append]
     have G9:=((G5.same s6).same s69).snoc (((s1.trans s06).trans (st7.trans s8)).free nC8) e9 SC
     refine G9.updO eF9 fun x hx=>?_
     rcases List.mem_append.mp hx with z | z
     ·exact(nx4 x z).1
     ·have:x=.ref C:=by simpa using z
      rw[this];exact fun z=>nCF (by injection z)
    ·rcases List.mem_append.mp hx with z | z
     ·exact nx4 x z
     ·have:x=.ref C:=by simpa using z
      rw[this];exact⟨fun z=>nCF (by injection z),fun z=>nCB (by injection z)⟩
  ·refine ifF (by show (if false=true then _ else inV (V.str k0.wd) ws)=false;rw[if_neg (by decide),hin];simpa using hk) ?_
   have eS:iG W S i (k0,uN,vN)=S:=by
    unfold iG
    rw[if_neg hk]
   rw[succ,eS]
   exact⟨s5,us,_,_,_,rfl,eB5,eF5,G5,nx4⟩
 rintro σ H4 ⟨s4,us,z6,z7,z8,rfl,eB4,eF4,G4,nx4⟩
 rw[lxs] at G4
 exact⟨_,rfl,q F us H4 (s1.trans s4) nF eF4 G4 fun x hx=>(nx4 x hx).1⟩
abbrev iB:Stmt:=cV (top 36) 1
theorem Cz:aS ["self"] ["self"] (aD iB):=⟨rfl,rfl,rfl,by decide +kernel,rfl,by decide +kernel,by decide +kernel⟩
theorem Ag {dV:Value} (F:cB K "joins" "Piece.joins" iB dV f fd):aP P w K mg base CX 1 f fd ["self"] (nH .pc):=by
 refine F.ok Cz (fun vs H Q E h=>?_) (fun cdv A outer s H vs Q E hr h=>?_)
 ·obtain⟨x,rfl,_⟩:=h
  rfl
 obtain⟨x,rfl,q⟩:=h
 exact⟨_,(aG (aY jW)),q⟩
abbrev iE:Stmt:=cV (top 37) 1
theorem Bo:aS ["self"] ["self"] (aD iE):=⟨rfl,rfl,rfl,by decide +kernel,rfl,by decide +kernel,by decide +kernel⟩
theorem Az {dV:Value} (F:cB K "joins" "Push.joins" iE dV f fd):aP P w K mg base CX 1 f fd ["self"] (nH .pu):=by
 refine F.ok Bo (fun vs H Q E h=>?_) (fun cdv A outer s H vs Q E hr h=>?_)
 ·obtain⟨x,rfl,_⟩:=h
  rfl
 obtain⟨x,rfl,q⟩:=h
 exact⟨_,(aG (aY jW)),q⟩
abbrev iD:Stmt:=cV (top 38) 1
theorem Cf:aS ["self"] ["self"] (aD iD):=⟨rfl,rfl,rfl,by decide +kernel,rfl,by decide +kernel,by decide +kernel⟩
theorem Ay {dV:Value} (F:cB K "joins" "Hold.joins" iD dV f fd):aP P w K mg base CX 1 f fd ["self"] (nH .ho):=by
 refine F.ok Cf (fun vs H Q E h=>?_) (fun cdv A outer s H vs Q E hr h=>?_)
 ·obtain⟨x,rfl,_⟩:=h
  rfl
 obtain⟨x,rfl,q⟩:=h
 exact⟨_,(aG (aY jW)),q⟩
def zF (K:PySem.W.Frag) (CK:Kd→Addr):Sp:=fun vs H Q _=>∃(a x:Addr) (ms:List Int) (k:Kd) (s g:Nat) (z:V),vs=[.ref a,.ref x]∧SqL K H a (ms.map V.int)∧Rw CK H x k (.int (s:Int)) (.int (g:Int)) z∧s < ms.length∧g < ms.length∧ms.length≤100∧∀l H',bC H H'→H l=none→H' l=some (.lst ((jn ms s g).map V.int))→Q (.ref l) H'
def Fe (CN:Addr) (K:PySem.W.Frag):Sp:=fun vs H Q _=>∃(n l:Addr) (m:Nat) (ds:List RD),vs=[.ref n]∧cX CN K H n l (m:Int) ds∧(∀d∈ds,cQ (m:Int) d.2.1 d.2.2.1)∧m≤20∧ds.length≤100∧∀l' H',bC H H'→H l'=none→H' l'=some (.lst ((mks m ds).map V.int))→Q (.ref l') H'
def Ii (m:Nat) (ds:List RD):List Int:=((List.range m).filter fun p=>decide (mk m ds p≠mk m ds 0)).map fun (p:Nat)=>(p:Int)
def Fu (CN:Addr) (K:PySem.W.Frag):Sp:=fun vs H Q _=>∃(n l:Addr) (m:Nat) (ds:List RD),vs=[.ref n]∧cX CN K H n l (m:Int) ds∧(∀d∈ds,cQ (m:Int) d.2.1 d.2.2.1)∧1≤m∧m≤20∧ds.length≤100∧∀l' H',bC H H'→H l'=none→H' l'=some (.lst ((Ii m ds).map V.int))→Q (.ref l') H'
theorem mZ:(["mark","lost","kept"]:List Str).Nodup:=by decide +kernel
abbrev lW:Stmt:=top 29
theorem tW:aS ["marks","row","kept","lost"] ["marks","row"] (aD lW):=⟨rfl,rfl,rfl,by decide +kernel,rfl,by decide +kernel,by decide +kernel⟩
theorem Hm {dV:Value} (F:cB K "joined" "joined" lW dV f fd)
  (T:RT K mg CR CK) :
  aP P w K mg base CX 1 f fd ["marks","row"] (zF K CK):=by
 refine F.ok tW (fun vs H Q E h=>?_) (fun cdv A outer s H vs Q E hr h=>?_)
 ·obtain⟨a,x,ms,k,s0,g0,z,rfl,hS,rw,hs,hg,h100,q⟩:=h
  rfl
 obtain⟨a,x,ms,k,s0,g0,z,rfl,hS,rw,hs,hg,h100,q⟩:=h
 refine⟨_,(aB (aT (i:=2) tW.nd rfl (Or.inr rfl) (aX bN (pv 0) (bV (pv 1) rfl) (fun _ _=>rfl)))
  (aB (aT (i:=3) tW.nd rfl (Or.inr rfl) (aX bN (pv 0) (bV (pv 1) rfl) (fun _ _=>rfl)))
  (aG (aY (gV (nl:=1) (fr:=[3,2]) (Nc:=["mark","lost","kept"]) (cl:=[("lost",s.heap.objs.size+2),("kept",s.heap.objs.size+1)]) rfl ⟨rfl,rfl,by decide +kernel,by decide +kernel,(dZ rfl (dZ rfl (nC))),gQ rfl,rfl,fun i n h=>match i,h with | 0,h=>by cases h;exact⟨3,rfl,rfl,rfl,rfl,.inl rfl⟩ | 1,h=>by cases h;exact⟨2,rfl,rfl,rfl,rfl,.inl rfl⟩ | k+2,h=>by rw[show 1+(k+2)=k+3 by omega] at h;cases h⟩
    (cY (pv 0)) (fun C s3 H3 fp pins=>(bF (i:=0) mZ rfl (Or.inl rfl))) (fun C s3 H3 fp pins=>gB)
    (fun C s3 H3 fp pins=>(oO (bG eQ (pv 0) (pv 1) (bL _)) (pv 2) (pv 0)))))))),?_⟩
 obtain⟨dx,hx⟩:=id rw
 have gi:∀{j:Nat},j < ms.length→atI (ms.map V.int) (j:Int)=some (.int (ms.getD j 0)):=fun h=>bZ (by rw[List.getElem?_map,List.getElem?_eq_getElem h,List.getD_eq_getElem?_getD,List.getElem?_eq_getElem h];rfl)
 refine⟨_,rfl,_,rfl,x,CK _,_,_,_,rfl,hx,T.cl _,T.nS _,dB _ _ _,a,_,_,_,rfl,rfl,hS,gi hs,?_⟩
 refine⟨_,rfl,_,rfl,x,CK _,_,_,_,rfl,hx,T.cl _,T.nG _,dQ _ _ _,a,_,_,_,rfl,rfl,hS,gi hg,?_⟩
 refine⟨_,rfl,a,rfl,⟨_,hS⟩,fun D hD=>?_⟩
 have sD:=aH hD (.lst [])
 refine fZ (xs:=ms.map V.int) (fun i zs H'=>bC H H'∧H' D=some (.lst zs)∧zs=((jn ms s0 g0).take i).map V.int) ⟨sD,aC,rfl⟩ (fun i zs H' h=>h.2.1) (fun i zs H' _ h=>h.1.seq hS) ?_ ?_
 ·rintro i zs x H1 hx' ⟨s1,e1,rfl⟩ C hC
  rw[List.getElem?_map] at hx'
  obtain⟨c,hc,rfl⟩:=Option.map_eq_some_iff.mp hx'
  have hi:i < ms.length:=(List.getElem?_eq_some_iff.mp hc).1
  have ej:(jn ms s0 g0)[i]?=some (if c=ms.getD g0 0 then ms.getD s0 0 else c):=by unfold jn;rw[List.getElem?_map,hc];rfl
  have lj:(jn ms s0 g0).length=ms.length:=by unfold jn;rw[List.length_map]
  refine⟨gH.1,gH.2,gJ ?_⟩
  refine⟨_,rfl,_,rfl,rfl,_,rfl,?_⟩
  by_cases h:c=ms.getD g0 0
  ·rw[if_pos h] at ej
   refine ifT (decide_eq_true (by rw[h])) ⟨_,rfl,e1,bH (by rw[List.length_map,List.length_take];omega),hC _ _ ⟨s1.change hD,aC,?_⟩⟩
   rw[List.take_add_one,ej,List.map_append];rfl
  ·rw[if_neg h] at ej
   refine ifF (decide_eq_false (fun z=>h (by injection z))) ⟨_,rfl,e1,bH (by rw[List.length_map,List.length_take];omega),hC _ _ ⟨s1.change hD,aC,?_⟩⟩
   rw[List.take_add_one,ej,List.map_append];rfl
 ·rintro zs H1 ⟨s1,e1,rfl⟩
  have lj:(jn ms s0 g0).length=ms.length:=by unfold jn;rw[List.length_map]
  rw[List.length_map,← lj,List.take_length] at e1
  exact q D H1 s1 hD e1
abbrev qD:Stmt:=top 28
theorem rH:aS ["net","marks","row"] ["net"] (aD qD):=⟨rfl,rfl,rfl,by decide +kernel,rfl,by decide +kernel,by decide +kernel⟩
theorem Lg {dV:Value} (F:cB K "marks_of" "marks_of" qD dV f fd)
  {CN:Addr} (mli:mg "list"=none) (mra:mg "range"=none) (NTx:NT K mg CN) (T:RT K mg CR CK)
  {fJ:Kd→Addr} {fdJ:Kd→FuncData} (GJ:∀k,aP P w K mg base CX0 1 (fJ k) (fdJ k) ["self"] (nH k)) (bJ:∀k,aR K (fdJ k) ["self"] []) (mJ:∀k,gD K (CK k) "joins" (fJ k))
  {gMa:Addr} {gdMa:FuncData} (GMa:aP P w K mg base CX0 1 gMa gdMa ["self"] (oV CN K)) (bMa:aR K gdMa ["self"] []) (mMa:gD K CN "many" gMa)
  {gRo:Addr} {gdRo:FuncData} (GRo:aP P w K mg base CX0 4 gRo gdRo ["self"] (tH CN K CK)) (bRo:aR K gdRo ["self"] []) (mRo:gD K CN "rows" gRo)
  (G1:aP P w K mg base CX0 1 g1 gd1 ["marks","row"] (zF K CK)) (b1:aR K gd1 ["marks","row"] []) (k1:PySem.W.keepIn K (.ref g1)=true) (m1:mg "joined"=some (.ref g1)) :
  aP P w K mg base CX 5 f fd ["net"] (Fe CN K):=by
 refine F.ok rH (fun vs H Q E h=>?_) (fun cdv A outer s H vs Q E hr h=>?_)
 ·obtain⟨n,l,m,ds,rfl,nt,pt,hm,h100,q⟩:=h
  rfl
 obtain⟨n,l,m,ds,rfl,nt,pt,hm,h100,q⟩:=h
 have r1:=hr.mono (show 1≤4 by omega)
 refine⟨_,(aB (aT (i:=1) rH.nd rfl (Or.inl rfl) (oM rfl rfl mli rfl mra (aA (fF (pv 0) NTx.cl mMa GMa r1 bMa .nil aL) aE)))
  (aB (dW PassesOwn.never rfl (cY (fF (pv 0) NTx.cl mRo GRo hr bRo .nil aL)) (bF (i:=2) rH.nd rfl (Or.inl rfl))
   (aG (cD (dD (gA (pv 2) T.cl mJ GJ r1 bJ .nil aL)) (aG (aT (i:=1) rH.nd rfl (Or.inl rfl) (aI G1 r1 rfl m1 k1 b1 .nil aL (aA (pv 1) (aA (pv 2) aE))))) bK)))
  (aG (aY (pv 1))))),?_⟩
 obtain⟨dx,hn⟩:=nt.ob
 refine⟨_,rfl,n,dx,_,rfl,hn,dX _ _ (by decide +kernel) (by decide +kernel),n,l,_,ds,rfl,nt,m,rfl,by omega,fun D hD=>?_⟩
 have sD:=aH hD (.lst ((List.range m).map fun (i:Nat)=>V.int (i:Int)))
 have eD:upd H D (.lst ((List.range m).map fun (i:Nat)=>V.int (i:Int))) D=some (.lst ((mks m (ds.take 0)).map V.int)):=by
  rw[aC];show some (HO.lst _)=some (HO.lst ((zV m).map V.int));unfold zV;rw[List.map_map];rfl
 generalize upd H D (.lst ((List.range m).map fun (i:Nat)=>V.int (i:Int)))=H1 at sD eD ⊢
 refine⟨_,rfl,n,dx,_,rfl,sD _ _ hn,dX _ _ (by decide +kernel) (by decide +kernel),n,l,_,ds,rfl,nt.same sD,h100,fun a xs H2 s2 na ea Rb=>?_⟩
 have lxs:=Rb.length
 refine⟨a,rfl,⟨_,SqL.of ea⟩,?_⟩
 refine fH (xs:=xs) (fun i σ H'=>bC H2 H'∧∃(c:Addr) (z:Option V),σ=[some (.ref n),some (.ref c),z]∧H c=none∧H' c=some (.lst ((mks m (ds.take i)).map V.int))) ⟨bC.refl _,D,none,rfl,hD,s2 _ _ eD⟩ (fun i σ H' _ h=>h.1.seq (SqL.of ea)) ?_ ?_
 ·rintro i x σ H3 hx ⟨s3,c,z,rfl,nc,ec⟩
  have hi:i < ds.length:=by
   have:=(List.getElem?_eq_some_iff.mp hx).1
   omega
  obtain⟨⟨k,u,v,p⟩,hd⟩:∃d,ds[i]?=some d:=⟨_,List.getElem?_eq_getElem hi⟩
  obtain⟨y,z',ey,rw,fz⟩:=Rb.at hd
  have ex:x=.ref y:=by rw[ey] at hx;exact(Option.some.inj hx).symm
  subst ex
  have rw3:=rw.same s3
  obtain⟨dr,hy⟩:=id rw3
  have et:ds.take (i+1)=ds.take i++[(k,u,v,p)]:=by rw[List.take_add_one,hd];rfl
  obtain⟨u0,u1,v0,v1⟩:cQ (m:Int) u v:=pt _ (List.mem_of_getElem? hd)
  refine⟨_,rfl,k,y,dr,_,rfl,hy,(eE _ _ _ (by decide +kernel) (by decide +kernel) (by decide +kernel)),_,rfl,_,rfl,?_⟩
  by_cases hk:k=.pu
  ·refine ifF (decide_eq_false (fun z=>z hk)) ⟨s3,c,_,rfl,nc,?_⟩
   rw[et,kQ]
   unfold gW
   rw[if_pos hk]
   exact ec
  ·refine ifT (decide_eq_true hk) ⟨_,rfl,_,rfl,c,y,mks m (ds.take i),k,u.toNat,v.toNat,.ref z',rfl,SqL.of ec,?_,by rw[jV];omega,by rw[jV];omega,by rw[jV];omega,fun c' H4 s4 nc' ec'=>⟨s3.trans s4,c',_,rfl,?_,?_⟩⟩
   ·rw[show ((u.toNat:Nat):Int)=u by omega,show ((v.toNat:Nat):Int)=v by omega]
    exact rw3
   ·exact((sD.trans s2).trans s3).free nc'
   ·rw[et,kQ]
    unfold gW
    rw[if_neg hk]
    exact ec'
 ·rintro σ H3 ⟨s3,c,z,rfl,nc,ec⟩
  rw[show ds.take xs.length=ds by rw[lxs,List.take_length]] at ec
  exact⟨_,rfl,q c H3 ((sD.trans s2).trans s3) nc ec⟩
theorem hJ:(["point","mark","marks"]:List Str).Nodup:=by decide +kernel
abbrev pI:Stmt:=top 27
theorem Dq:aS ["net","marks"] ["net"] (aD pI):=⟨rfl,rfl,rfl,by decide +kernel,rfl,by decide +kernel,by decide +kernel⟩
theorem Jk {dV:Value} (F:cB K "floating" "floating" pI dV f fd)
  {CN:Addr} (men:mg "enumerate"=none)
  (G1:aP P w K mg base CX0 5 g1 gd1 ["net"] (Fe CN K)) (b1:aR K gd1 ["net"] []) (k1:PySem.W.keepIn K (.ref g1)=true) (m1:mg "marks_of"=some (.ref g1)) :
  aP P w K mg base CX 6 f fd ["net"] (Fu CN K):=by
 refine F.ok Dq (fun vs H Q E h=>?_) (fun cdv A outer s H vs Q E hr h=>?_)
 ·obtain⟨n,l,m,ds,rfl,nt,pt,h1,hm,h100,q⟩:=h
  rfl
 obtain⟨n,l,m,ds,rfl,nt,pt,h1,hm,h100,q⟩:=h
 refine⟨_,(aB (aT (i:=1) Dq.nd rfl (Or.inr rfl) (aI G1 hr rfl m1 k1 b1 .nil aL (aA (pv 0) aE)))
  (aG (aY (gV (nl:=2) (fr:=[1]) (Nc:=["point","mark","marks"]) (cl:=[("marks",s.heap.objs.size+1)]) (g:=(Nq K 2 (oI (kT 0) (oI (kT 1) Mz)))) rfl ⟨rfl,rfl,by decide +kernel,by decide +kernel,fun x c h=>h,gQ rfl,rfl,fun i n h=>match i,h with | 0,h=>by cases h;exact⟨1,rfl,rfl,rfl,rfl,.inl rfl⟩ | k+1,h=>by rw[show 2+(k+1)=k+3 by omega] at h;cases h⟩
    (yP rfl men rfl (aA (pv 1) aE)) (fun C s3 H3 fp pins=>(kX rfl (cJ (bF (i:=0) hJ rfl (Or.inl rfl)) (cJ (bF (i:=1) hJ rfl (Or.inl rfl)) iR)))) (fun C s3 H3 fp pins=>(Dz (bG mO (pv 1) (aX (yW (K:=K) rfl) (pv 2) aF (fun _ _=>rfl)) (bL _))))
    (fun C s3 H3 fp pins=>(pv 0)))))),?_⟩
 refine⟨_,rfl,n,l,m,ds,rfl,nt,pt,hm,h100,fun M H1 s1 nM eM=>?_⟩
 have mlen:=jV m ds
 have hS:SqL K H1 M ((mks m ds).map V.int):=SqL.of eM
 refine⟨_,rfl,M,rfl,⟨_,hS⟩,fun D hD=>?_⟩
 have sD:=aH hD (.lst [])
 refine wJ (xs:=(mks m ds).map V.int) (fun i zs H'=>bC H1 H'∧H' D=some (.lst zs)∧zs=(((List.range i).filter fun p=>decide (mk m ds p≠mk m ds 0)).map fun (p:Nat)=>V.int (p:Int))) ⟨sD,aC,rfl⟩ (fun i zs H' h=>h.2.1) (fun i zs H' _ h=>h.1.seq hS) ?_ ?_
 ·rintro i zs x H2 T2 hx ⟨s2,e2,rfl⟩ hT C hC
  rw[List.getElem?_map] at hx
  obtain⟨c,hc,rfl⟩:=Option.map_eq_some_iff.mp hx
  have hi:i < m:=by have:=(List.getElem?_eq_some_iff.mp hc).1;omega
  have ec:c=mk m ds i:=by unfold mk;rw[List.getD_eq_getElem?_getD,hc];rfl
  have g0:atI ((mks m ds).map V.int) 0=some (.int (mk m ds 0)):=bZ (j:=0) (by unfold mk;rw[List.getElem?_map,List.getElem?_eq_getElem (by omega),List.getD_eq_getElem?_getD,List.getElem?_eq_getElem (by omega)];rfl)
  have ll:(((List.range i).filter fun p=>decide (mk m ds p≠mk m ds 0)).map fun (p:Nat)=>V.int (p:Int)).length≤20:=by
   rw[List.length_map]
   have:=List.length_filter_le (fun p=>decide (mk m ds p≠mk m ds 0)) (List.range i)
   rw[List.length_range] at this
   omega
  have sT:=aH hT (.tup [.int (i:Int),.int c])
  refine⟨T2,_,rfl,SqT.of aC,rfl,_,_,rfl,_,_,rfl,rfl,qK.1,qK.2,?_⟩
  generalize upd H2 T2 (.tup [.int (i:Int),.int c])=H3 at sT ⊢
  have s3:=s2.trans sT
  have e3:=sT _ _ e2
  refine⟨_,rfl,_,rfl,M,_,_,_,rfl,rfl,s3.seq hS,g0,rfl,_,rfl,?_⟩
  subst ec
  by_cases h:mk m ds i=mk m ds 0
  ·refine ifF (by rw[h];simp) (hC _ _ ⟨s3,e3,?_⟩)
   rw[List.range_succ,List.filter_append,List.filter_cons_of_neg (by simp[h])];simp
  ·refine ifT (by simp[h]) ⟨_,rfl,e3,bH (by omega),hC _ _ ⟨s3.change hD,aC,?_⟩⟩
   rw[List.range_succ,List.filter_append,List.filter_cons_of_pos (by simp[h]),List.map_append];rfl
 ·rintro zs H2 ⟨s2,e2,rfl⟩
  refine q D H2 (s1.trans s2) (s1.free hD) ?_
  rw[List.length_map,mlen] at e2
  rw[e2];unfold Ii;rw[List.map_map];rfl
end
end K66
namespace Mq
def KJ (m:Nat) (A1:Mat) (R:List (List Int)):Prop:=∀Φ,Lin Φ→(∀i,i < m→Φ (A1 i)=0)→∀k,k < m→Φ (at2 R k)=0
theorem KJ.swap {m:Nat} {A1:Mat} {R:List (List Int)} (h:KJ m A1 R) (hl:R.length=m) {p r:Nat} (hp:p < m) (hr:r < m):KJ m A1 (eZ R p r):=fun Φ lin hz k hk=>by
 have e:at2 (eZ R p r) k=at2 R (sw p r k):=by
  funext x
  rw[oR (by omega) (by omega)]
 rw[e]
 exact h Φ lin hz _ (xG hp hr hk)
theorem KJ.clear {m w:Nat} {A0 A1:Mat} {R:List (List Int)} {r col:Nat} {d sg:Int} (h:KJ m A1 R) (s:SI m w A0 R r col d sg) (hr:r < m) (hc:col < w) (he:ent R r col≠0):KJ m A1 (cH R r col d):=fun Φ lin hz k hk=>by
 have cl:=fun (x:Nat)=>rF s hr hc he hk x
 have z:=h Φ lin hz
 by_cases e:k=r
 ·have e2:at2 (cH R r col d) k=at2 R k:=by funext x;rw[cl x,if_pos e]
  rw[e2];exact z k hk
 ·have e2:at2 (cH R r col d) k=fun x=>(fun x=>(at2 R r col / (d:Rat))*at2 R k x) x+(-(at2 R k col / (d:Rat)))*at2 R r x:=by
   funext x
   show _=(at2 R r col / (d:Rat))*at2 R k x+_
   rw[cl x,if_neg e]
   grind
  rw[e2,lin,lin.mul,z k hk,z r hr];grind
theorem KJ.whole {m w:Nat} {A0 A1:Mat} {R:List (List Int)} {d sg:Int} (h:KJ m A1 R) (s:SI m w A0 R m m d sg) {v:Nat→Rat} (hv:∀i,i < m→(rs m fun k=>A1 i k*v k)=A1 i m) {k:Nat} (hk:k < m):at2 R k m / (d:Rat)=v k:=by
 obtain⟨A,c,B,e⟩:=s.bar
 have dn:=B.dne
 have:=h (fun f=>(rs m fun k=>f k*v k) - f m) (fun x y l=>by
  have:(rs m fun k=>(x k+l*y k)*v k)=(rs m fun k=>x k*v k+l*(y k*v k)):=aK fun k _=>by grind
  show (rs m fun k=>(x k+l*y k)*v k) - (x m+l*y m)=((rs m fun k=>x k*v k) - x m)+l*((rs m fun k=>y k*v k) - y m)
  rw[this,cZ,eU];grind) (fun i hi=>by
  show (rs m fun k=>A1 i k*v k) - A1 i m=0
  rw[hv i hi];grind) k hk
 have e1:(rs m fun j=>at2 R k j*v j)=rs m fun j=>if j=k then (d:Rat)*v k else 0:=aK fun j hj=>by
  have i2:=B.i2 k j hk hj
  rw[B.full rfl j hj] at i2
  rw[i2]
  by_cases z:j=k
  ·rw[if_pos z,if_pos z,z]
  ·rw[if_neg z,if_neg z];grind
 have e2:(rs m fun j=>at2 R k j*v j) - at2 R k m=0:=this
 rw[e1,kO m k _ hk] at e2
 grind
end Mq
namespace Shp
open PySem L2
theorem Nh {m w:Nat} {A0 A1:Mq.Mat}:Stp m w A0 (fun R=>Mq.KI m A1 R∧Mq.KJ m A1 R):=
 ⟨fun R r col d sg p s h1 h2 h=>⟨h.1.swap s.len h2 (by omega),h.2.swap s.len h2 (by omega)⟩,fun R r col d sg s h1 h2 h3 h=>⟨h.1.clear s h1 h2 h3,h.2.clear s h1 h2 h3⟩⟩
theorem Ue {X:List (List Mq.Q2)} {qs:List Mq.Q2} (hX:Mq.fA X) (hq:Mq.Pos qs) (hl:qs.length=X.length) (hw:∀row∈X,row.length=X.length) {R:List (List Int)} {w:Nat} {d sg:Int} (h:Mq.KJ X.length (Mq.at2 (gZ X qs)) R) (s:Mq.SI X.length w (Mq.at2 (gZ X qs)) R X.length X.length d sg)
  {v:Nat→Rat} (hv:∀i,i < X.length→(Mq.rs X.length fun j=>pL X i j*v j)=Mq.val (qs.getD i Mq.z0)) {k:Nat} (hk:k < X.length):Mq.at2 R k X.length / (d:Rat)=v k:=by
 refine h.whole s (fun i hi=>?_) hk
 rw[tN hX hq hl hw hi (by omega),if_neg (by omega),← hv i hi,← Mq.eU]
 refine Mq.aK fun k hk=>?_
 rw[tN hX hq hl hw hi (by omega),if_pos hk];grind
abbrev MxR (X:List (List Mq.Q2)):Prop:=Mq.fA X∧(∀row∈X,(∀p∈row,Mq.Bd 8 p)∧row.length=X.length)∧X.length≤8
abbrev RtR (X:List (List Mq.Q2)) (qs:List Mq.Q2):Prop:=qs.length=X.length∧Mq.iL qs∧∀p∈qs,Mq.Bd 240 p
structure Ti (X:List (List Mq.Q2)) (qs ps:List Mq.Q2):Prop extends Slv X qs ps where
 uni:∀v:Nat→Rat,(∀i,i < X.length→(Mq.rs X.length fun j=>pL X i j*v j)=Mq.val (qs.getD i Mq.z0))→∀j,j < X.length→Mq.val (ps.getD j Mq.z0)=v j
end Shp
set_option maxHeartbeats 1000000
namespace Mq
theorem Wb.rs5 {n K:Nat} {f:Nat→Rat} (hK:K≤32) (h:∀k,k < K→Wb n (f k)):Wb (n+5) (Mq.rs K f):=by
 obtain⟨z,e,b⟩:=Sg K h
 refine⟨z,e,?_⟩
 have p:2 ^ (n+5)=32*2 ^ n:=by rw[Nat.pow_add];omega
 have q:K*2 ^ n≤32*2 ^ n:=Nat.mul_le_mul_right _ hK
 have r:0 < 2 ^ n:=Nat.two_pow_pos n
 show z.natAbs < 2 ^ (n+5)
 by_cases k0:K=0
 ·subst k0;omega
 ·omega
theorem xM {n:Nat}:∀(r:Nat) (M:Mat),r≤32→(∀i j,i < r→Wb n (M i j))→Wb ((n+5)*r+1) (det r M)
 |0,_,_,_=>Wb.one
 |r+1,M,hr,h=>by
  rw[fD]
  have:=Wb.rs5 (n:=n+((n+5)*r+1)) (K:=r+1) (f:=fun j=>sgn (r+j)*M r j*det r fun i k=>M i (skip j k)) hr fun j _=>((h r j (by omega)).sgn _).mul (xM r _ (by omega) fun i k hi=>h i _ (by omega))
  exact this.mono (by rw[Nat.mul_succ];omega)
section
variable {m:Nat} {A E:Mat} {r col:Nat} {d:Rat} {c:Nat→Nat} {n:Nat}
theorem Bar.wd5 (h:Bar m A E r col d c) (hA:∀i x,i < m→Wb n (A i x)) (hm:m≤31):Wb ((n+5)*r+1) d:=by
 have rm:=h.rm
 rw[← h.i5]
 exact xM r _ (by omega) fun i j hi=>hA i _ (by omega)
theorem Bar.wtop5 (h:Bar m A E r col d c) (hA:∀i x,i < m→Wb n (A i x)) (hm:m≤31) {k:Nat} (hk:k < r) (x:Nat):Wb ((n+5)*r+7) (E k x):=by
 have rm:=h.rm
 have hd:=h.dne
 by_cases hx:∃j,j < r∧x=c j
 ·obtain⟨j,hj,rfl⟩:=hx
  rw[h.i2 k j hk hj]
  split
  ·exact(h.wd5 hA hm).mono (by omega)
  ·exact Wb.zero _
 ·let c2:Nat→Nat:=fun j=>if j=r then x else c j
  let u:Nat→Rat:=fun j=>if j=c k then 1 else 0
  have hΦ:=Eu r A c2
  have z:=h.i6 _ hΦ (fun s hs=>Fd r A c2 hs) k hk
  have eu:u=fun y=>(fun y=>u y+(-(1 / d))*E k y) y+(1 / d)*E k y:=by
   funext y
   show u y=u y+(-(1 / d))*E k y+(1 / d)*E k y
   grind
  have fb:=yO r A c2 (fun y=>u y+(-(1 / d))*E k y) fun j hj=>by
   have ec:c2 j=c j:=by show (if j=r then x else c j)=_;rw[if_neg (by omega)]
   rw[ec]
   show u (c j)+(-(1 / d))*E k (c j)=0
   rw[h.i2 k j hk hj]
   show (if c j=c k then (1:Rat) else 0)+_=0
   by_cases e:j=k
   ·rw[if_pos e,if_pos (by rw[e])];grind
   ·rw[if_neg e,if_neg (fun q=>e (h.cinj j k hj hk q))];grind
  have dd:(det r fun i j=>A i (c2 j))=d:=by
   rw[← h.i5]
   exact cN fun i j _ hj=>by show A i (if j=r then x else c j)=_;rw[if_neg (by omega)]
  have ux:u x=0:=by show (if x=c k then (1:Rat) else 0)=0;rw[if_neg (fun q=>hx ⟨k,hk,q⟩)]
  have cx:c2 r=x:=by show (if r=r then x else _)=x;rw[if_pos rfl]
  rw[dd,cx] at fb
  have val:F r A c2 u=- E k x:=by
   rw[eu,hΦ,z,fb]
   show (u x+(-(1 / d))*E k x)*d+_=_
   rw[ux];grind
  have wh:Wb ((n+5)*r+7) (F r A c2 u):=by
   rw[Hd]
   have:=Wb.rs5 (n:=1+((n+5)*r+1)) (K:=r+1) (f:=fun j=>Mq.sgn (r+j)*u (c2 j)*det r fun i k=>A i (c2 (Mq.skip j k))) (by omega) fun j _=>by
    refine Wb.mul (Wb.sgn ?_ _) (xM r _ (by omega) fun i k hi=>hA i _ (by omega))
    show Wb 1 (if c2 j=c k then (1:Rat) else 0)
    split
    ·exact Wb.one
    ·exact Wb.zero _
   exact this.mono (by omega)
  rw[val] at wh
  have:=wh.neg
  rwa [show - - E k x=E k x by grind] at this
theorem Bar.wall5 (h:Bar m A E r col d c) (hA:∀i x,i < m→Wb n (A i x)) (hm:m≤31) {i:Nat} (hi:i < m) (x:Nat):Wb ((n+5)*(m+1)+8) (E i x):=by
 have rm:=h.rm
 have mono:=Nat.mul_le_mul_left (n+5) rm
 have e1:(n+5)*(m+1)=(n+5)*m+(n+5):=Nat.mul_succ ..
 by_cases h1:i < r
 ·exact(h.wtop5 hA hm h1 x).mono (by omega)
 ·have q:=h.i4 i x hi
  rw[if_neg h1] at q
  have e:E i x=d*A i x - rs r fun k=>A i (c k)*E k x:=by grind
  rw[e]
  have b1:Wb (n+((n+5)*r+7)+5) (d*A i x):=((h.wd5 hA hm).mul (hA i x hi)).mono (by omega)
  have b2:Wb (n+((n+5)*r+7)+5) (rs r fun k=>A i (c k)*E k x):=Wb.rs5 (by omega) fun k hk=>(hA i _ hi).mul (h.wtop5 hA hm hk x)
  exact(b1.sub b2).mono (by omega)
end
theorem SB.bd5 {n m w:Nat} {A0:Mat} {R:List (List Int)} {r col:Nat} {d sg:Int} (h:SB n m R r col d) (s:SI m w A0 R r col d sg) (hm:m≤31):BdR ((n+5)*(m+1)+8) R∧B ((n+5)*(m+1)+8) d:=by
 obtain⟨A,c,B,q⟩:=h
 refine⟨fun i x=>?_,?_⟩
 ·by_cases hi:i < m
  ·obtain⟨z,e,b⟩:=B.wall5 q hm hi x
   have:ent R i x=z:=Rat.intCast_inj.mp e
   rw[this];exact b
  ·unfold ent
   rw[List.getD_eq_getElem?_getD (l:=R),List.getElem?_eq_none (by rw[s.len];omega)]
   exact Nat.two_pow_pos _
 ·obtain⟨z,e,b⟩:=B.wd5 q hm
  have:d=z:=Rat.intCast_inj.mp e
  have mono:=Nat.mul_le_mul_left (n+5) B.rm
  rw[this];exact b.mono (by rw[Nat.mul_succ];omega)
end Mq
set_option maxHeartbeats 4000000
namespace Mq
theorem Jz {a b L:Int} (ha:1≤a) (hb:1≤b) (h1:a ∣ L) (h2:b ∣ L):mX a b ∣ L:=by
 have g1:gc a b ∣ a:=Int.gcd_dvd_left ..
 have g0:gc a b≠0:=by have:=tD (a:=a) (b:=b) (by omega);omega
 obtain⟨x,hx⟩:=g1
 have e:mX a b=x*b:=by
  unfold mX
  rw[fB g0 hx]
 have k:(Int.lcm a b:Int) ∣ L:=Int.coe_lcm_dvd h1 h2
 have m:(Int.gcd a b:Int)*(Int.lcm a b:Int)=a*b:=by
  have:=Int.gcd_mul_lcm a b
  have h:((Int.gcd a b*Int.lcm a b:Nat):Int)=((a*b).natAbs:Nat):=by rw[this,Int.natAbs_mul]
  rw[Int.natCast_mul] at h
  rw[h,Int.natAbs_of_nonneg (Int.mul_nonneg (by omega) (by omega))]
 have e2:(Int.lcm a b:Int)=x*b:=by
  have hg:(Int.gcd a b:Int)=gc a b:=rfl
  rw[hg] at m
  have:gc a b*(Int.lcm a b:Int)=gc a b*(x*b):=by
   rw[m,← Int.mul_assoc,← hx]
  exact Int.eq_of_mul_eq_mul_left g0 this
 rw[e,← e2];exact k
theorem vT {L:Int}:∀{ps:List Q2},Pos ps→(∀p∈ps,p.2 ∣ L)→∀i,i≤ps.length→dL (ps.take i) ∣ L∧1≤dL (ps.take i)
 |ps,hp,h,0,_=>⟨Int.one_dvd _,by rw[List.take_zero];decide⟩
 |ps,hp,h,i+1,hi=>by
  obtain⟨a,b⟩:=vT hp h i (by omega)
  have hm:ps[i]?=some ps[i]:=List.getElem?_eq_getElem (by omega)
  have mem:=List.mem_of_getElem? hm
  rw[lF hm]
  refine⟨Jz b (hp _ mem) a (h _ mem),?_⟩
  have:=rK (ps:=ps.take (i+1)) (fun p hp'=>hp p (List.mem_of_mem_take hp'))
  rwa [lF hm] at this
end Mq
namespace Shp
open PySem L2
abbrev bw (n m:Nat):Nat:=(n+5)*(m+1)+8
def Dp (K:PySem.W.Frag):Sp:=fun vs H Q _=>∃(l D:Addr) (zs:List V) (R:List (List Int)) (m w n:Nat) (Pr:List (List Int)→Prop),vs=[.ref l,.int (m:Int)]∧SqL K H l zs∧Imx D H zs R∧R.length=m∧(∀i,i < m→(R.getD i []).length=w)∧m≤w∧w≤100∧Mq.BdR n R∧1≤n∧bw n m≤9000∧m≤31∧Pr R∧Stp m w (Mq.at2 R) Pr∧
 ∀d l' zs' R' rank pivot sign H',bC H H'→H d=none→H l'=none→H' d=some (Jq l' rank pivot sign)→H' l'=some (.lst zs')→Imx l' H' zs' R'→Mq.SI m w (Mq.at2 R) R' rank m pivot sign→Mq.BdR (bw n m) R'→Mq.B (bw n m) pivot→Pr R'→Q (.ref d) H'
end Shp
set_option maxHeartbeats 1000000
namespace L2
open PySem PySem.Spec PyProof.Rows
section
variable (u:Nat→Rat)
def fw (d:RD) (h:Nat):Rat:=match d.1 with
 | .pc=>(u d.2.1.toNat - u d.2.2.1.toNat)*(1 / Mq.val d.2.2.2)
 | .pu=>0
 | .ho=>u h
def nt:Nat→List RD→Nat→Rat
 |_,[],_=>0
 |h,d :: ds,p=>fw u d h*dl d.2.1.toNat d.2.2.1.toNat p+nt (h+cA d.1) ds p
def hw:Nat→List RD→Nat→Rat
 |_,[],_=>0
 |h,d :: ds,y=>(if d.1=.ho∧h=y then u d.2.1.toNat - u d.2.2.1.toNat else 0)+hw (h+cA d.1) ds y
def eg:Nat→List RD→Rat
 |_,[]=>0
 |h,d :: ds=>fw u d h*(u d.2.1.toNat - u d.2.2.1.toNat)+eg (h+cA d.1) ds
end
section
variable {u:Nat→Rat} {m N:Nat}
theorem zQ (F:Nat→Rat) {n s g:Nat} (hs:s < n) (hg:g < n):Mq.rs n (fun p=>F p*dl s g p)=F s - F g:=by
 have e:∀p,F p*dl s g p=(if s=p then F p else 0) + - (if g=p then F p else 0):=fun p=>by
  unfold dl
  by_cases a:s=p<;>by_cases b:g=p<;>simp only[a,b,if_true,if_false]<;>grind
 rw[Mq.aK fun p _=>e p,Mq.cZ,Mq.iM,Mq.xH,Mq.xH,if_pos hs,if_pos hg]
 grind
theorem Vf {n s g:Nat} (u0:u 0=0) (hs:s≤n) (hg:g≤n):Mq.rs n (fun i=>u (i+1)*dl s g (i+1))=u s - u g:=by
 have:=zQ u (n:=n+1) (s:=s) (g:=g) (by omega) (by omega)
 rw[Mq.oJ,u0] at this
 grind
theorem Vt (u0:u 0=0) {d:RD} {h y:Nat} (pt:cQ (m:Int) d.2.1 d.2.2.1) (hm:m≤N+1) (h1:1≤h) (hh:d.1=.ho→h≤N):Mq.rs N (fun i=>u (i+1)*cM d h (i+1) y)=fw u d h*dl d.2.1.toNat d.2.2.1.toNat y+(if d.1=.ho∧h=y then u d.2.1.toNat - u d.2.2.1.toNat else 0):=by
 obtain⟨a,b,c,e⟩:=pt
 have base:=Vf (u:=u) (n:=N) (s:=d.2.1.toNat) (g:=d.2.2.1.toNat) u0 (by omega) (by omega)
 unfold cM fw
 cases hk:d.1 with
 |pc=>
  dsimp only
  rw[if_neg (fun z=>by cases z.1)]
  have:∀i,u (i+1)*(dl d.2.1.toNat d.2.2.1.toNat (i+1)*dl d.2.1.toNat d.2.2.1.toNat y*(1 / Mq.val d.2.2.2))=(dl d.2.1.toNat d.2.2.1.toNat y*(1 / Mq.val d.2.2.2))*(u (i+1)*dl d.2.1.toNat d.2.2.1.toNat (i+1)):=fun i=>by grind
  rw[Mq.aK fun i _=>this i,Mq.eU,base]
  grind
 |pu=>
  dsimp only
  rw[if_neg (fun z=>by cases z.1)]
  have:∀i,u (i+1)*(0:Rat)=0:=fun i=>by grind
  rw[Mq.aK fun i _=>this i,Mq.dE]
  grind
 |ho=>
  dsimp only
  have hN:=hh hk
  have one:Mq.rs N (fun i=>u (i+1)*(if h=i+1 then 1 else 0))=u h:=by
   have:∀i,u (i+1)*(if h=i+1 then (1:Rat) else 0)=if h - 1=i then u (i+1) else 0:=fun i=>by
    by_cases z:h=i+1
    ·rw[if_pos z,if_pos (by omega)];grind
    ·rw[if_neg z,if_neg (by omega)];grind
   rw[Mq.aK fun i _=>this i,Mq.xH,if_pos (by omega),show h - 1+1=h by omega]
  have:∀i,u (i+1)*(dl d.2.1.toNat d.2.2.1.toNat (i+1)*(if h=y then 1 else 0)+(if h=i+1 then 1 else 0)*dl d.2.1.toNat d.2.2.1.toNat y)=(if h=y then 1 else 0)*(u (i+1)*dl d.2.1.toNat d.2.2.1.toNat (i+1))+dl d.2.1.toNat d.2.2.1.toNat y*(u (i+1)*(if h=i+1 then 1 else 0)):=fun i=>by grind
  rw[Mq.aK fun i _=>this i,Mq.cZ,Mq.eU,Mq.eU,base,one]
  by_cases z:h=y
  ·rw[if_pos z,if_pos ⟨rfl,z⟩];grind
  ·rw[if_neg z,if_neg (fun q=>z q.2)];grind
theorem Ct (u0:u 0=0) (hm:m≤N+1) (y:Nat):∀(ds:List RD) (h:Nat),(∀d∈ds,cQ (m:Int) d.2.1 d.2.2.1)→1≤h→h+bU ds≤N+1→Mq.rs N (fun i=>u (i+1)*eqM h ds (i+1) y)=nt u h ds y+hw u h ds y
 | [],h,_,_,_=>by
  have:∀i,u (i+1)*eqM h [] (i+1) y=0:=fun i=>by show u (i+1)*(0:Rat)=0;grind
  rw[Mq.aK fun i _=>this i,Mq.dE]
  show (0:Rat)=0+0
  grind
 |d :: ds,h,pt,h1,hN=>by
  rw[fR] at hN
  have ih:=Ct u0 hm y ds (h+cA d.1) (fun e he=>pt e (List.mem_cons_of_mem _ he)) (by omega) (by omega)
  have c:=Vt (u:=u) (N:=N) (h:=h) (y:=y) u0 (pt d (by simp)) hm h1 (fun z=>by rw[z] at hN;have:cA .ho=1:=rfl;omega)
  have:∀i,u (i+1)*eqM h (d :: ds) (i+1) y=u (i+1)*cM d h (i+1) y+u (i+1)*eqM (h+cA d.1) ds (i+1) y:=fun i=>by
   show u (i+1)*(cM d h (i+1) y+eqM (h+cA d.1) ds (i+1) y)=_
   grind
  rw[Mq.aK fun i _=>this i,Mq.cZ,ih,c]
  show _=(fw u d h*dl d.2.1.toNat d.2.2.1.toNat y+nt u (h+cA d.1) ds y)+((if d.1=.ho∧h=y then u d.2.1.toNat - u d.2.2.1.toNat else 0)+hw u (h+cA d.1) ds y)
  grind
theorem Du {y:Nat}:∀(ds:List RD) (h:Nat),y < h→hw u h ds y=0
 | [],_,_=>rfl
 |d :: ds,h,hy=>by
  show (if d.1=.ho∧h=y then u d.2.1.toNat - u d.2.2.1.toNat else 0)+hw u (h+cA d.1) ds y=0
  rw[if_neg (fun z=>by omega),Du ds (h+cA d.1) (by omega)]
  grind
theorem Ch {y:Nat}:∀(ds:List RD) (h:Nat),(∀d∈ds,cQ (m:Int) d.2.1 d.2.2.1)→m≤y→nt u h ds y=0
 | [],_,_,_=>rfl
 |d :: ds,h,pt,hy=>by
  obtain⟨a,b,c,e⟩:=pt d (by simp)
  show fw u d h*dl d.2.1.toNat d.2.2.1.toNat y+nt u (h+cA d.1) ds y=0
  rw[Ch ds (h+cA d.1) (fun e he=>pt e (List.mem_cons_of_mem _ he)) hy]
  unfold dl
  rw[if_neg (by omega),if_neg (by omega)]
  grind
theorem yR:∀(ds:List RD) (h:Nat),(∀y,h≤y→y < h+bU ds→hw u h ds y=0)→∀d∈ds,d.1=.ho→u d.2.1.toNat=u d.2.2.1.toNat
 | [],_,_,_,hd,_=>by cases hd
 |e :: ds,h,all,d,hd,hk=>by
  by_cases he:e.1=.ho
  ·have c1:cA e.1=1:=by rw[he];rfl
   have first:=all h (Nat.le_refl _) (by rw[fR];omega)
   have f1:(if e.1=.ho∧h=h then u e.2.1.toNat - u e.2.2.1.toNat else 0)+hw u (h+cA e.1) ds h=0:=first
   rw[if_pos ⟨he,rfl⟩,Du ds (h+cA e.1) (by omega)] at f1
   rcases List.mem_cons.mp hd with rfl | hd
   ·grind
   ·refine yR ds (h+cA e.1) (fun y hy hl=>?_) d hd hk
    have:=all y (by omega) (by rw[fR];omega)
    have f2:(if e.1=.ho∧h=y then u e.2.1.toNat - u e.2.2.1.toNat else 0)+hw u (h+cA e.1) ds y=0:=this
    rw[if_neg (fun z=>by omega)] at f2
    grind
  ·have c0:cA e.1=0:=if_neg he
   rcases List.mem_cons.mp hd with rfl | hd
   ·exact absurd hk he
   ·refine yR ds (h+cA e.1) (fun y hy hl=>?_) d hd hk
    have:=all y (by omega) (by rw[fR];omega)
    have f2:(if e.1=.ho∧h=y then u e.2.1.toNat - u e.2.2.1.toNat else 0)+hw u (h+cA e.1) ds y=0:=this
    rw[if_neg (fun z=>he z.1)] at f2
    grind
theorem So (F:Nat→Rat):∀(ds:List RD) (h:Nat),(∀d∈ds,cQ (m:Int) d.2.1 d.2.2.1)→(∀d∈ds,d.1≠.pu→F d.2.1.toNat=F d.2.2.1.toNat)→Mq.rs m (fun p=>F p*nt u h ds p)=0
 | [],h,_,_=>by
  have:∀p,F p*nt u h [] p=0:=fun p=>by show F p*(0:Rat)=0;grind
  rw[Mq.aK fun p _=>this p,Mq.dE]
 |d :: ds,h,pt,hF=>by
  have ih:=So F ds (h+cA d.1) (fun e he=>pt e (List.mem_cons_of_mem _ he)) (fun e he=>hF e (List.mem_cons_of_mem _ he))
  obtain⟨a,b,c,e⟩:=pt d (by simp)
  have base:=zQ F (n:=m) (s:=d.2.1.toNat) (g:=d.2.2.1.toNat) (by omega) (by omega)
  have:∀p,F p*nt u h (d :: ds) p=fw u d h*(F p*dl d.2.1.toNat d.2.2.1.toNat p)+F p*nt u (h+cA d.1) ds p:=fun p=>by
   show F p*(fw u d h*dl d.2.1.toNat d.2.2.1.toNat p+nt u (h+cA d.1) ds p)=_
   grind
  rw[Mq.aK fun p _=>this p,Mq.cZ,Mq.eU,base,ih]
  by_cases hk:d.1=.pu
  ·have:fw u d h=0:=by unfold fw;rw[hk]
   rw[this];grind
  ·rw[hF d (by simp) hk];grind
theorem Lo:∀(ds:List RD) (h:Nat),(∀d∈ds,cQ (m:Int) d.2.1 d.2.2.1)→Mq.rs m (fun p=>u p*nt u h ds p)=eg u h ds
 | [],h,_=>by
  have:∀p,u p*nt u h [] p=0:=fun p=>by show u p*(0:Rat)=0;grind
  rw[Mq.aK fun p _=>this p,Mq.dE]
  rfl
 |d :: ds,h,pt=>by
  have ih:=Lo ds (h+cA d.1) (fun e he=>pt e (List.mem_cons_of_mem _ he))
  obtain⟨a,b,c,e⟩:=pt d (by simp)
  have base:=zQ u (n:=m) (s:=d.2.1.toNat) (g:=d.2.2.1.toNat) (by omega) (by omega)
  have:∀p,u p*nt u h (d :: ds) p=fw u d h*(u p*dl d.2.1.toNat d.2.2.1.toNat p)+u p*nt u (h+cA d.1) ds p:=fun p=>by
   show u p*(fw u d h*dl d.2.1.toNat d.2.2.1.toNat p+nt u (h+cA d.1) ds p)=_
   grind
  rw[Mq.aK fun p _=>this p,Mq.cZ,Mq.eU,base,ih]
  rfl
theorem Xt (x:Rat):0≤x*x:=by
 rcases Rat.le_total (a:=0) (b:=x) with h | h
 ·exact Rat.mul_nonneg h h
 ·have:0≤(-x)*(-x):=Rat.mul_nonneg (by grind) (by grind)
  grind
theorem Nr {a:Rat} (h:0 < a):0 < 1 / a:=by
 rw[Rat.div_def,Rat.one_mul]
 exact Rat.inv_pos.mpr h
theorem Gh:∀(ds:List RD) (h:Nat),(∀d∈ds,d.1=.pc→0 < Mq.val d.2.2.2)→(∀d∈ds,d.1=.ho→u d.2.1.toNat=u d.2.2.1.toNat)→0≤eg u h ds∧(eg u h ds=0→∀d∈ds,d.1=.pc→u d.2.1.toNat=u d.2.2.1.toNat)
 | [],_,_,_=>⟨Rat.le_refl,fun _ d hd=>by cases hd⟩
 |e :: ds,h,pos,ho=>by
  obtain⟨i1,i2⟩:=Gh ds (h+cA e.1) (fun d hd=>pos d (List.mem_cons_of_mem _ hd)) (fun d hd=>ho d (List.mem_cons_of_mem _ hd))
  have eq:eg u h (e :: ds)=fw u e h*(u e.2.1.toNat - u e.2.2.1.toNat)+eg u (h+cA e.1) ds:=rfl
  rw[eq]
  generalize eg u (h+cA e.1) ds=r at i1 i2
  have t:0≤fw u e h*(u e.2.1.toNat - u e.2.2.1.toNat)∧(e.1=.pc→fw u e h*(u e.2.1.toNat - u e.2.2.1.toNat)=0→u e.2.1.toNat=u e.2.2.1.toNat):=by
   unfold fw
   cases hk:e.1 with
   |pu=>exact⟨by grind,fun z=>by cases z⟩
   |ho=>exact⟨by rw[ho e (by simp) hk];grind,fun z=>by cases z⟩
   |pc=>
    dsimp only
    have p:=Nr (pos e (by simp) hk)
    generalize 1 / Mq.val e.2.2.2=q at p
    generalize u e.2.1.toNat=a
    generalize u e.2.2.1.toNat=b
    have e2:(a - b)*q*(a - b)=q*((a - b)*(a - b)):=by grind
    rw[e2]
    refine⟨Rat.mul_nonneg (Rat.le_of_lt p) (Xt _),fun _ z=>?_⟩
    have q0:q≠0:=fun z=>by rw[z] at p;exact absurd p (by decide)
    have:(a - b)*(a - b)=0:=by grind
    have:a - b=0:=by grind
    grind
  obtain⟨t1,t2⟩:=t
  generalize fw u e h*(u e.2.1.toNat - u e.2.2.1.toNat)=x at t1 t2
  refine⟨by grind,fun z d hd hk=>?_⟩
  have x0:x=0:=by grind
  have r0:r=0:=by grind
  rcases List.mem_cons.mp hd with rfl | hd
  ·exact t2 hk x0
  ·exact i2 r0 d hd hk
theorem yQ (d:RD) (p:Nat):∀(ds:List RD) (h:Nat),nt u h (ds++[d]) p=nt u h ds p+fw u d (h+bU ds)*dl d.2.1.toNat d.2.2.1.toNat p
 | [],h=>by show fw u d h*_+0=0+fw u d (h+0)*_;rw[Nat.add_zero];grind
 |e :: ds,h=>by
  show fw u e h*_+nt u (h+cA e.1) (ds++[d]) p=fw u e h*_+nt u (h+cA e.1) ds p+_
  rw[yQ d p ds,fR,Nat.add_assoc];grind
theorem yU (F:Nat→Rat):∀(ds:List RD) (h:Nat),(∀d∈ds,cQ (m:Int) d.2.1 d.2.2.1)→(∀d∈ds,d.1=.pc→u d.2.1.toNat=u d.2.2.1.toNat)→(∀d∈ds,d.1=.ho→F d.2.1.toNat=F d.2.2.1.toNat)→Mq.rs m (fun p=>F p*nt u h ds p)=0
 | [],h,_,_,_=>by
  have:∀p,F p*nt u h [] p=0:=fun p=>by show F p*(0:Rat)=0;grind
  rw[Mq.aK fun p _=>this p,Mq.dE]
 |d :: ds,h,pt,hu,hF=>by
  have ih:=yU F ds (h+cA d.1) (fun e he=>pt e (List.mem_cons_of_mem _ he)) (fun e he=>hu e (List.mem_cons_of_mem _ he)) (fun e he=>hF e (List.mem_cons_of_mem _ he))
  obtain⟨a,b,c,e⟩:=pt d (by simp)
  have base:=zQ F (n:=m) (s:=d.2.1.toNat) (g:=d.2.2.1.toNat) (by omega) (by omega)
  have:∀p,F p*nt u h (d :: ds) p=fw u d h*(F p*dl d.2.1.toNat d.2.2.1.toNat p)+F p*nt u (h+cA d.1) ds p:=fun p=>by
   show F p*(fw u d h*dl d.2.1.toNat d.2.2.1.toNat p+nt u (h+cA d.1) ds p)=_
   grind
  rw[Mq.aK fun p _=>this p,Mq.cZ,Mq.eU,base,ih]
  cases hk:d.1 with
  |pu=>
   have:fw u d h=0:=by unfold fw;rw[hk]
   rw[this];grind
  |pc=>
   have:fw u d h=0:=by unfold fw;rw[hk];dsimp only;rw[hu d (by simp) hk];grind
   rw[this];grind
  |ho=>rw[hF d (by simp) hk];grind
def Frs (ds:List RD):Prop:=∀(A B:List RD) (d:RD),ds=A++d :: B→d.1=.ho→¬Cn (bY .ho A) d.2.1.toNat d.2.2.1.toNat
theorem Gg:∀(n:Nat) (ds:List RD) (h:Nat),ds.length=n→(∀d∈ds,cQ (m:Int) d.2.1 d.2.2.1)→Frs ds→(∀d∈ds,d.1=.pc→u d.2.1.toNat=u d.2.2.1.toNat)→(∀p,p < m→nt u h ds p=0)→∀y,h≤y→y < h+bU ds→u y=0
 |0,ds,h,hl,_,_,_,_,y,h1,h2=>by
  have:ds=[]:=List.length_eq_zero_iff.mp hl
  subst this
  have:bU ([]:List RD)=0:=rfl
  omega
 |n+1,ds,h,hl,pt,fr,hu,ze,y,h1,h2=>by
  obtain⟨es,d,rfl⟩:∃es d,ds=es++[d]:=⟨ds.dropLast,ds.getLast (by intro z;rw[z] at hl;cases hl),(List.dropLast_concat_getLast _).symm⟩
  have le:es.length=n:=by rw[List.length_append] at hl;simpa using hl
  have pe:∀x∈es,cQ (m:Int) x.2.1 x.2.2.1:=fun x hx=>pt x (List.mem_append_left _ hx)
  have ue:∀x∈es,x.1=.pc→u x.2.1.toNat=u x.2.2.1.toNat:=fun x hx=>hu x (List.mem_append_left _ hx)
  have fe:Frs es:=fun A B x e hx=>fr A (B++[d]) x (by rw[e];simp) hx
  obtain⟨i0,i1,j0,j1⟩:=pt d (by simp)
  have f0:fw u d (h+bU es)=0:=by
   cases hk:d.1 with
   |pu=>unfold fw;rw[hk]
   |pc=>unfold fw;rw[hk];dsimp only;rw[hu d (by simp) hk];grind
   |ho=>
    open Classical in
    have nc:=fr es [] d rfl hk
    let F:Nat→Rat:=fun p=>if Cn (bY .ho es) d.2.1.toNat p then 1 else 0
    have s1:=yU (u:=u) (m:=m) F es h pe ue (fun x hx hk'=>by
     show (if Cn (bY .ho es) d.2.1.toNat x.2.1.toNat then (1:Rat) else 0)=if Cn (bY .ho es) d.2.1.toNat x.2.2.1.toNat then 1 else 0
     have r:Cn (bY .ho es) x.2.1.toNat x.2.2.1.toNat:=.row (List.mem_filter.mpr ⟨hx,decide_eq_true hk'⟩) (by rw[hk'];exact fun z=>by cases z)
     by_cases c:Cn (bY .ho es) d.2.1.toNat x.2.1.toNat
     ·rw[if_pos c,if_pos (c.trans r)]
     ·rw[if_neg c,if_neg (fun z=>c (z.trans r.symm))])
    have s2:Mq.rs m (fun p=>F p*nt u h (es++[d]) p)=0:=by
     have:∀p,p < m→F p*nt u h (es++[d]) p=0:=fun p hp=>by rw[ze p hp];grind
     rw[Mq.aK this,Mq.dE]
    have e3:∀p,F p*nt u h (es++[d]) p=F p*nt u h es p+fw u d (h+bU es)*(F p*dl d.2.1.toNat d.2.2.1.toNat p):=fun p=>by rw[yQ];grind
    rw[Mq.aK fun p _=>e3 p,Mq.cZ,s1,Mq.eU,zQ F (by omega) (by omega)] at s2
    have Fs:F d.2.1.toNat=1:=if_pos (.refl _)
    have Fg:F d.2.2.1.toNat=0:=if_neg nc
    rw[Fs,Fg] at s2
    grind
  have ze':∀p,p < m→nt u h es p=0:=fun p hp=>by
   have:=ze p hp
   rw[yQ,f0] at this
   grind
  rw[gX] at h2
  by_cases c:y < h+bU es
  ·exact Gg n es h le pe fe ue ze' y h1 c
  ·have hk:d.1=.ho:=Classical.byContradiction fun z=>by
    have:cA d.1=0:=if_neg z
    omega
   have c1:cA d.1=1:=by rw[hk];rfl
   have:y=h+bU es:=by omega
   rw[this]
   unfold fw at f0
   rw[hk] at f0
   exact f0
theorem Fw {ds:List RD} (hm1:1≤m) (pt:∀d∈ds,cQ (m:Int) d.2.1 d.2.2.1) (pos:∀d∈ds,d.1=.pc→0 < Mq.val d.2.2.2) (cn:∀p,p < m→Cn ds 0 p) (fr:Frs ds) (u0:u 0=0)
  (ze:∀y,1≤y→y≤m - 1+bU ds→Mq.rs (m - 1+bU ds) (fun i=>u (i+1)*eqM m ds (i+1) y)=0):∀y,y≤m - 1+bU ds→u y=0:=by
 have ze2:∀y,1≤y→y≤m - 1+bU ds→nt u m ds y+hw u m ds y=0:=fun y a b=>by
  have:=ze y a b
  rw[Ct (m:=m) u0 (by omega) y ds m pt hm1 (by omega)] at this
  exact this
 have hf:=yR (u:=u) ds m (fun y a b=>by
  have:=ze2 y (by omega) (by omega)
  rw[Ch ds m pt a] at this
  grind)
 have np:∀p,1≤p→p < m→nt u m ds p=0:=fun p a b=>by
  have:=ze2 p a (by omega)
  rw[Du ds m b] at this
  grind
 have e0:eg u m ds=0:=by
  rw[← Lo (u:=u) (m:=m) ds m pt]
  have:∀p,p < m→u p*nt u m ds p=0:=fun p hp=>by
   by_cases c:p=0
   ·rw[c,u0];grind
   ·rw[np p (by omega) hp];grind
  rw[Mq.aK this,Mq.dE]
 have pf:=(Gh (u:=u) ds m pos hf).2 e0
 have cz:∀p,p < m→u p=0:=fun p hp=>by
  have:=Cn.ind (R:=fun a b=>u a=u b) (fun _=>rfl) (fun _ _ e=>e.symm) (fun _ _ _ a b=>a.trans b) (fun d hd hk=>by
   cases h:d.1 with
   |pc=>exact pf d hd h
   |pu=>exact absurd h hk
   |ho=>exact hf d hd h) (cn p hp)
  rw[← this,u0]
 have all:∀p,p < m→nt u m ds p=0:=fun p hp=>by
  by_cases c:p=0
  ·have s:=yU (u:=u) (m:=m) (fun _=>1) ds m pt pf (fun _ _ _=>rfl)
   obtain⟨k,rfl⟩:∃k,m=k+1:=⟨m - 1,by omega⟩
   rw[Mq.oJ] at s
   have:∀i,i < k→(1:Rat)*nt u (k+1) ds (i+1)=0:=fun i hi=>by rw[np (i+1) (by omega) (by omega)];grind
   rw[Mq.aK this,Mq.dE] at s
   rw[c]
   grind
  ·exact np p (by omega) hp
 have hz:=Gg (u:=u) (m:=m) _ ds m rfl pt fr pf all
 intro y hy
 by_cases c:y < m
 ·exact cz y c
 ·exact hz y (by omega) (by omega)
end
end L2
namespace L2
open PySem PySem.Spec PyProof.Rows Shp
section
variable {m N:Nat} {ds:List RD}
theorem Pf (d:RD) (h x y:Nat):cM d h x y=cM d h y x:=by
 unfold cM
 cases d.1<;>dsimp only<;>grind
theorem tV:∀(ds:List RD) (h x y:Nat),eqM h ds x y=eqM h ds y x
 | [],_,_,_=>rfl
 |d :: ds,h,x,y=>by
  show cM d h x y+eqM (h+cA d.1) ds x y=cM d h y x+eqM (h+cA d.1) ds y x
  rw[Pf,tV ds]
structure Nof (m:Nat) (ds:List RD):Prop where
 m1:1≤m
 pt:∀d∈ds,cQ (m:Int) d.2.1 d.2.2.1
 pos:∀d∈ds,d.1=.pc→0 < Mq.val d.2.2.2
 cn:∀p,p < m→Cn ds 0 p
 fr:Frs ds
theorem Nof.uni (o:Nof m ds) {v w:Nat→Rat} {r:Nat→Rat} (hv:∀i,i < m - 1+bU ds→(Mq.rs (m - 1+bU ds) fun j=>eqM m ds (i+1) (j+1)*v j)=r i) (hw:∀i,i < m - 1+bU ds→(Mq.rs (m - 1+bU ds) fun j=>eqM m ds (i+1) (j+1)*w j)=r i):∀j,j < m - 1+bU ds→v j=w j:=by
 have:=Fw (u:=fun x=>if x=0 then 0 else v (x - 1) - w (x - 1)) o.m1 o.pt o.pos o.cn o.fr (if_pos rfl) (fun y y1 yn=>by
  have e:∀i,i < m - 1+bU ds→(if i+1=0 then (0:Rat) else v (i+1 - 1) - w (i+1 - 1))*eqM m ds (i+1) y=eqM m ds (y - 1+1) (i+1)*v i + - (eqM m ds (y - 1+1) (i+1)*w i):=fun i _=>by
   rw[if_neg (by omega),Nat.add_sub_cancel,tV ds m (i+1) y,show y - 1+1=y by omega]
   grind
  rw[Mq.aK e,Mq.cZ,Mq.iM,hv (y - 1) (by omega),hw (y - 1) (by omega)]
  grind)
 intro j hj
 have:=this (j+1) (by omega)
 rw[if_neg (by omega),Nat.add_sub_cancel] at this
 grind
theorem Vl {X:List (List Mq.Q2)} {Y:List Mq.Q2} (e:xQ m ds N X Y):X.length=m - 1+bU ds:=e.x.h
theorem Kg {X:List (List Mq.Q2)} {Y:List Mq.Q2} (e:xQ m ds N X Y) (i j:Nat):pL X i j=eqM m ds (i+1) (j+1):=e.vx i j
end
end L2
set_option maxHeartbeats 4000000
namespace Shp
open PySem L2
theorem Fv {m w:Nat} {R0:List (List Int)} (hl:R0.length=m) (hw:∀i,i < m→(R0.getD i []).length=w) (hmw:m≤w) {Pr:List (List Int)→Prop} (h0:Pr R0) (st:Stp m w (Mq.at2 R0) Pr):∀col,col≤m→∃R r d sg,Mq.SI m w (Mq.at2 R0) R r col d sg∧Pr R
 |0,_=>⟨R0,0,1,1,.start hl hw,h0⟩
 |col+1,hc=>by
  obtain⟨R,r,d,sg,S,p⟩:=Fv hl hw hmw h0 st col (by omega)
  by_cases hz:∀i,r≤i→i < m→Mq.ent R i col=0
  ·exact⟨R,r,d,sg,S.skip hz,p⟩
  ·obtain⟨i,hi⟩:=Classical.not_forall.mp hz
   obtain⟨h1,hi⟩:=Classical.not_imp.mp hi
   obtain⟨h2,ne⟩:=Classical.not_imp.mp hi
   by_cases e:i=r
   ·subst e
    exact⟨_,_,_,_,S.clear h2 (by omega) ne,st.cl R i col d sg S h2 (by omega) ne p⟩
   ·have hlt:r < i:=by omega
    have S2:=S.swap hlt h2
    have p2:=st.sw R r col d sg i S hlt h2 p
    have ne2:Mq.ent (Mq.eZ R i r) r col≠0:=by
     have:=Mq.yC (R:=R) (p:=i) (r:=r) (by rw[S.len];omega) (by rw[S.len];omega) r
     unfold Mq.ent at ne ⊢
     rw[this,show Mq.sw i r r=i by unfold Mq.sw;simp]
     exact ne
    exact⟨_,_,_,_,S2.clear (by omega) (by omega) ne2,st.cl _ r col d (-sg) S2 (by omega) (by omega) ne2 p2⟩
theorem Rk {X:List (List Mq.Q2)} (xP:Mq.fA X) (hw:∀row∈X,row.length=X.length) (m1:1≤X.length) (hz:wgt X=0):∃v:Nat→Rat,(∃j,j < X.length∧v j≠0)∧∀x,x < X.length→(Mq.rs X.length fun j=>v j*pL X j x)=0:=by
 obtain⟨R,r,d,sg,S,L⟩:=Fv (m:=X.length) (w:=X.length+X.length) (R0:=iZ X) (Ny X) (fun i hi=>by rw[sQ hi,Al,hw _ (List.mem_of_getElem? (uI hi))]) (by omega) (Po xP hw) Ve X.length (Nat.le_refl _)
 have wr:=Jm xP (Rh fun i j hi hj=>wK xP hw hi hj) S
 have hr:r < X.length:=by
  rcases wr with z | z
  ·exact z.1
  ·exact absurd hz z.2
 obtain⟨⟨k0,hk0,nk0⟩,hsum⟩:=L.lame S hr
 refine⟨fun k=>Mq.at2 R (X.length - 1) (X.length+k),⟨k0,hk0,fun z=>?_⟩,hsum⟩
 exact nk0 (Rat.intCast_inj.mp (by unfold Mq.at2 at z;simpa using z))
end Shp
namespace L2
open Shp
theorem Nof.wgt_ne {m N:Nat} {ds:List RD} (o:Nof m ds) {X:List (List Mq.Q2)} {Y:List Mq.Q2} (e:xQ m ds N X Y) (xP:Mq.fA X) (hw:∀row∈X,row.length=X.length) (m1:1≤X.length):wgt X≠0:=fun hz=>by
 obtain⟨v,⟨j,hj,vj⟩,hs⟩:=Rk xP hw m1 hz
 have n:=Vl e
 have z:=Fw (u:=fun x=>if x=0 then 0 else v (x - 1)) o.m1 o.pt o.pos o.cn o.fr (if_pos rfl) (fun y y1 yn=>by
  have s:=hs (y - 1) (by omega)
  rw[n] at s
  rw[← s]
  refine Mq.aK fun i _=>?_
  rw[if_neg (by omega),Nat.add_sub_cancel,Kg e,show y - 1+1=y by omega])
 have:=z (j+1) (by omega)
 rw[if_neg (by omega),Nat.add_sub_cancel] at this
 exact vj this
end L2
namespace Mq
theorem zZ {p:Q2} (l:Low p) {a L:Int} (hL:1≤L) (h:val p=(a:Rat) / (L:Rat)):p.2 ∣ L∧p.1.natAbs≤a.natAbs:=by
 have h2:((p.2:Int):Rat)≠0:=by have:=l.pos;exact_mod_cast (show p.2≠0 by omega)
 have hl:((L:Int):Rat)≠0:=by exact_mod_cast (show L≠0 by omega)
 have e:p.1*L=a*p.2:=by
  unfold val at h
  have:((p.1:Int):Rat)*(L:Rat)=(a:Rat)*((p.2:Int):Rat):=by grind
  exact_mod_cast this
 have d:p.2 ∣ L:=by
  have c:Int.gcd p.2 p.1=1:=by
   have:=l.one
   unfold gc at this
   rw[Int.gcd_comm]
   exact_mod_cast this
  have c':Nat.Coprime p.2.natAbs p.1.natAbs:=c
  have dv:p.2.natAbs ∣ p.1.natAbs*L.natAbs:=by
   rw[← Int.natAbs_mul,e,Int.natAbs_mul]
   exact Nat.dvd_mul_left ..
  exact Int.natAbs_dvd_natAbs.mp (c'.dvd_of_dvd_mul_left dv)
 obtain⟨t,ht⟩:=d
 have t1:t≠0:=fun z=>by rw[z,Int.mul_zero] at ht;omega
 have e2:p.1*t=a:=by
  have:p.2*(p.1*t)=p.2*a:=by
   rw[Int.mul_comm p.2 a,← e,ht,← Int.mul_assoc,← Int.mul_assoc,Int.mul_comm p.2 p.1]
  exact Int.eq_of_mul_eq_mul_left (by have:=l.pos;omega) this
 refine⟨⟨t,ht⟩,?_⟩
 rw[← e2,Int.natAbs_mul]
 exact Nat.le_mul_of_pos_right _ (by omega)
def Fr (L:Int) (M:Nat) (x:Rat):Prop:=∃a:Int,x=(a:Rat) / (L:Rat)∧a.natAbs≤M*L.natAbs
section
variable {L K:Int} {M N:Nat} {x y:Rat}
theorem qJ (h:1≤L):((L:Int):Rat)≠0:=by exact_mod_cast (show L≠0 by omega)
theorem Fr.mono (h:Fr L M x) (l:M≤N):Fr L N x:=by
 obtain⟨a,e,b⟩:=h
 exact⟨a,e,Nat.le_trans b (Nat.mul_le_mul_right _ l)⟩
theorem Fr.zero:Fr L 0 0:=⟨0,by rw[show ((0:Int):Rat)=0 by rfl,Rat.div_def];grind,by simp⟩
theorem Fr.one (h:1≤L):Fr L 1 1:=⟨L,by have:=qJ h;grind,by omega⟩
theorem Fr.add (h:Fr L M x) (g:Fr L N y):Fr L (M+N) (x+y):=by
 obtain⟨a,ea,ba⟩:=h
 obtain⟨b,eb,bb⟩:=g
 refine⟨a+b,?_,?_⟩
 ·rw[ea,eb,Rat.intCast_add,Rat.div_def,Rat.div_def,Rat.div_def];grind
 ·rw[Nat.add_mul]
  have:=Int.natAbs_add_le a b
  omega
theorem Fr.neg (h:Fr L M x):Fr L M (-x):=by
 obtain⟨a,ea,ba⟩:=h
 refine⟨-a,?_,by rw[Int.natAbs_neg];exact ba⟩
 rw[ea,Rat.intCast_neg,Rat.div_def,Rat.div_def];grind
theorem Fr.of (hL:1≤L) {t b:Int} (hb:1≤b) (d:b ∣ L) (ht:t.natAbs≤M):Fr L M ((t:Rat) / (b:Rat)):=by
 obtain⟨k,rfl⟩:=d
 have k1:1≤k:=by
  rcases Int.lt_or_le k 1 with z | z
  ·have:=Int.mul_nonpos_of_nonneg_of_nonpos (show 0≤b by omega) (show k≤0 by omega)
   omega
  ·exact z
 refine⟨t*k,?_,?_⟩
 ·have:=qJ hb
  have:=qJ k1
  rw[Rat.intCast_mul,Rat.intCast_mul];grind
 ·rw[Int.natAbs_mul,Int.natAbs_mul]
  refine Nat.mul_le_mul ht (Nat.le_mul_of_pos_left _ (by omega))
theorem Fr.get (h:Fr L M x) {m n b:Nat} (hM:M < 2 ^ m) (hL:B n L) (hb:m+n≤b):∃a:Int,B b a∧x=(a:Rat) / (L:Rat):=by
 obtain⟨a,ea,ba⟩:=h
 refine⟨a,?_,ea⟩
 refine B.mono (n:=m+n) ?_ hb
 show a.natAbs < 2 ^ (m+n)
 rw[Nat.pow_add]
 have hL:L.natAbs < 2 ^ n:=hL
 exact Nat.lt_of_le_of_lt ba (Nat.mul_lt_mul'' hM hL)
end
def prB:List Int→Int
 | []=>1
 |a :: r=>a*prB r
theorem Fz:∀{l:List Int},(∀a∈l,1≤a)→1≤prB l
 | [],_=>Int.le_refl _
 |a :: r,h=>by
  have h1:=h a (by simp)
  have h2:=Fz (l:=r) fun b hb=>h b (List.mem_cons_of_mem _ hb)
  have:=Int.mul_pos (show 0 < a by omega) (show 0 < prB r by omega)
  show 1≤a*prB r
  omega
theorem Dj:∀{l:List Int} {a:Int},a∈l→a ∣ prB l
 |b :: r,a,h=>by
  rcases List.mem_cons.mp h with z | z
  ·rw[z];exact Int.dvd_mul_right ..
  ·exact Int.dvd_trans (Dj z) (Int.dvd_mul_left ..)
theorem Se {u:Nat}:∀{l:List Int},(∀a∈l,B u a)→B (u*l.length+1) (prB l)
 | [],_=>show (1:Nat) < 2 ^ (u*0+1) by rw[Nat.mul_zero];decide
 |a :: r,h=>by
  have h1:=h a (by simp)
  have h2:=Se (l:=r) fun b hb=>h b (List.mem_cons_of_mem _ hb)
  exact(h1.mul h2).mono (by rw[List.length_cons,Nat.mul_succ];omega)
end Mq
namespace L2
theorem Le (s g x:Nat):dl s g x=1∨dl s g x=0∨dl s g x=-1:=by
 unfold dl
 by_cases a:s=x<;>by_cases b:g=x<;>simp only[a,b,if_true,if_false]
 ·exact .inr (.inl (by grind))
 ·exact .inl (by grind)
 ·exact .inr (.inr (by grind))
 ·exact .inr (.inl (by grind))
theorem Dy {L:Int} {M:Nat} {y:Rat} (h:Mq.Fr L M y) (s g x:Nat):Mq.Fr L M (dl s g x*y):=by
 rcases Le s g x with e | e | e
 ·rw[e,Rat.one_mul];exact h
 ·rw[e,Rat.zero_mul];exact Mq.Fr.zero.mono (Nat.zero_le _)
 ·rw[e,show (-1:Rat)*y=-y by grind];exact h.neg
end L2
set_option maxHeartbeats 1000000
namespace L2
open PySem PySem.Spec PyProof.Rows Shp
abbrev Ent:=Option Nat × RD × Mq.Q2
abbrev Zp (E:List Ent):List Nat:=E.filterMap (·.1)
section
variable {m u j:Nat} {hs:List Mq.Q2} {par:Nat→Nat} {E:List Ent}
theorem Do {α:Type} {E:List α} {i:Nat} {e x:α} (h:x∈E.take i++e :: E.drop i):x=e∨x∈E:=by
 rcases List.mem_append.mp h with z | z
 ·exact .inr (List.mem_of_mem_take z)
 ·rcases List.mem_cons.mp z with z | z
  ·exact .inl z
  ·exact .inr (List.mem_of_mem_drop z)
abbrev Zq (E:List Ent) (C:List RD):List RD:=E.map (·.2.1)++C
end
theorem Gf {W:Kd→Bool} {sk:List Sk}:∀n,∀e∈(eO W sk n).1,∃k,W k=true∧sk[e.1]?=some (k,e.2.1,e.2.2)∧e.1 < n
 |0,e,h=>by cases h
 |n+1,e,h=>by
  have ih:=Gf (W:=W) (sk:=sk) n
  cases hd:sk[n]? with
  |none=>
   have:eO W sk (n+1)=eO W sk n:=by
    show (match sk[n]? with | none=>eO W sk n | some d=>iG W (eO W sk n) n d)=_
    rw[hd]
   rw[this] at h
   obtain⟨k,a,b,c⟩:=ih e h
   exact⟨k,a,b,by omega⟩
  |some d=>
   rw[iF hd] at h
   unfold iG at h
   split at h
   ·rename_i w
    split at h
    ·rcases List.mem_append.mp h with z | z
     ·obtain⟨k,a,b,c⟩:=ih e z
      exact⟨k,a,b,by omega⟩
     ·have:e=(n,d.2.1,d.2.2):=by simpa using z
      subst this
      exact⟨d.1,w,hd,by show n < n+1;omega⟩
    ·obtain⟨k,a,b,c⟩:=ih e h
     exact⟨k,a,b,by omega⟩
   ·obtain⟨k,a,b,c⟩:=ih e h
    exact⟨k,a,b,by omega⟩
theorem oT {m:Nat} {ds:List RD} {W:Kd→Bool} (hW:∀k,W k=true↔k=.ho) (pt:∀d∈ds,cQ (m:Int) d.2.1 d.2.2.1) (h20:m≤20) (fr:Frs ds):∀n,n≤ds.length→(eO W (skl ds) n).2=[]
 |0,_=>rfl
 |n+1,hn=>by
  have ih:=oT hW pt h20 fr n (by omega)
  have hd:ds[n]?=some ds[n]:=List.getElem?_eq_getElem (by omega)
  generalize ds[n]=d at hd
  have sl:(skl ds).length=ds.length:=by unfold skl;rw[List.length_map]
  have hs:(skl ds)[n]?=some (d.1,d.2.1.toNat,d.2.2.1.toNat):=by unfold skl;rw[List.getElem?_map,hd];rfl
  rw[iF hs]
  unfold iG
  split
  ·rename_i w
   have hk:d.1=.ho:=(hW _).mp w
   obtain⟨a,b,c,f⟩:=pt d (List.mem_of_getElem? hd)
   have ri:=sZ (W:=W) (sk:=skl ds) (m:=m) (fun x hx=>by
    obtain⟨y,hy,rfl⟩:=List.mem_map.mp hx
    obtain⟨a,b,c,f⟩:=pt y hy
    exact⟨by show y.2.1.toNat < m;omega,by show y.2.2.1.toNat < m;omega⟩) n (by omega)
   have wi:=Os (b:=d.2.2.1.toNat) (e:=d.2.1.toNat) ri.pt h20 (by omega) (by omega)
   cases e:tU (eO W (skl ds) n).1 d.2.2.1.toNat d.2.1.toNat with
   |none=>dsimp only;first | (rw[e];exact ih) | exact ih
   |some st=>
    exfalso
    rw[e] at wi
    have eq:=wi.mp rfl
    have cn:=(Fn (uA ri.pt) (by omega) (by omega)).mp eq
    have ed:ds=ds.take n++d :: ds.drop (n+1):=by
     have hn':n < ds.length:=by omega
     have:ds[n]=d:=by rw[List.getElem?_eq_getElem hn'] at hd;exact Option.some.inj hd
     rw[← this,List.getElem_cons_drop,List.take_append_drop]
    refine fr _ _ d ed hk ?_
    refine Cn.ind (R:=fun p q=>Cn (bY .ho (ds.take n)) p q) (fun p=>.refl p) (fun _ _=>.symm) (fun _ _ _=>.trans) (fun x hx _=>?_) cn
    obtain⟨y,hy,rfl⟩:=List.mem_map.mp hx
    obtain⟨k,wk,sk,yn⟩:=Gf n y hy
    unfold skl at sk
    rw[List.getElem?_map] at sk
    obtain⟨z,hz,ez⟩:=Option.map_eq_some_iff.mp sk
    have e1:z.1=k:=congrArg (·.1) ez
    have e2:z.2.1.toNat=y.2.1:=congrArg (·.2.1) ez
    have e3:z.2.2.1.toNat=y.2.2:=congrArg (·.2.2) ez
    have hz':z∈bY .ho (ds.take n):=List.mem_filter.mpr ⟨List.mem_of_getElem? (show (ds.take n)[y.1]?=some z by rw[List.getElem?_take_of_lt yn];exact hz),decide_eq_true (by rw[e1];exact(hW _).mp wk)⟩
    have:Cn (bY .ho (ds.take n)) z.2.1.toNat z.2.2.1.toNat:=.row hz' (by rw[e1,(hW _).mp wk];exact fun z=>by cases z)
    rw[e2,e3] at this
    show Cn _ ((y.2.1:Nat):Int).toNat ((y.2.2:Nat):Int).toNat
    rw[Int.toNat_natCast,Int.toNat_natCast]
    exact this
  ·exact ih
end L2
namespace Mq
theorem Qd {p:Q2} {a L l k:Int} (h:1≤p.2) (e:l=k*p.2) (l1:1≤l) (d:l ∣ L) (hL:1≤L) (v:val p=(a:Rat) / (L:Rat)):(As l p).natAbs≤a.natAbs:=by
 obtain⟨s,rfl⟩:=d
 have s1:s≠0:=fun z=>by rw[z,Int.mul_zero] at hL;omega
 have hv:=Np (L:=l) (k:=k) h e
 have h2:=qJ l1
 have h3:((s:Int):Rat)≠0:=by exact_mod_cast s1
 have e2:As l p*s=a:=by
  have:((As l p:Int):Rat)*(s:Rat)=(a:Rat):=by
   rw[hv,v,Rat.intCast_mul];grind
  exact_mod_cast this
 rw[← e2,Int.natAbs_mul]
 exact Nat.le_mul_of_pos_right _ (by omega)
end Mq
namespace Shp
open PySem L2
theorem Fo {X:List (List Mq.Q2)} {qs:List Mq.Q2} {L:Int} {b:Nat} (hX:Mq.fA X) (hq:Mq.Pos qs) (hl:qs.length=X.length) (hb:∀row∈X,∀p∈row,p.2 ∣ L∧∃a:Int,Mq.B b a∧Mq.val p=(a:Rat) / (L:Rat)) (hqb:∀p∈qs,p.2 ∣ L∧∃a:Int,Mq.B b a∧Mq.val p=(a:Rat) / (L:Rat)) (hL:1≤L):Mq.BdR b (gZ X qs):=fun i x=>by
 unfold Mq.ent
 by_cases hi:i < X.length
 ·rw[tZ hl hi]
  have pos:=rO hX hq hl hi
  have al:∀p∈X.getD i []++[qs.getD i Mq.z0],p.2 ∣ L∧∃a:Int,Mq.B b a∧Mq.val p=(a:Rat) / (L:Rat):=fun p hp=>by
   rcases List.mem_append.mp hp with z | z
   ·exact hb _ (List.mem_of_getElem? (uI hi)) p z
   ·have e:p=qs.getD i Mq.z0:=by simpa using z
    rw[e]
    exact hqb _ (List.mem_of_getElem? (Mq.Nk (show i < qs.length by omega)))
  generalize X.getD i []++[qs.getD i Mq.z0]=row at pos al
  obtain⟨dv,l1⟩:=Mq.vT pos (fun p hp=>(al p hp).1) row.length (Nat.le_refl _)
  rw[List.take_length] at dv l1
  unfold Mq.iw
  rw[List.getD_eq_getElem?_getD,List.getElem?_map]
  cases e:row[x]? with
  |none=>exact Nat.two_pow_pos _
  |some p=>
   have mem:=List.mem_of_getElem? e
   obtain⟨_,a,ab,ea⟩:=al p mem
   obtain⟨k,ek⟩:=Mq.zX pos p mem
   exact ab.le (Mq.Qd (pos p mem) ek l1 dv hL ea)
 ·rw[List.getD_eq_getElem?_getD (l:=gZ X qs),List.getElem?_eq_none (by rw[Ap hl];omega)]
  exact Nat.two_pow_pos _
structure Ovr (n:Nat) (ps:List Mq.Q2):Prop where
 e:∃D:Int,1≤D∧Mq.B n D∧∀p∈ps,∃t:Int,Mq.B n t∧Mq.val p=(t:Rat) / (D:Rat)
theorem Pi {n:Nat} {d:Int} (d0:d≠0) (bd:Mq.B n d) {ps:List Mq.Q2} (h:∀p∈ps,∃t:Int,Mq.B n t∧p=Mq.red t d):Ovr n ps:=by
 refine⟨(d.natAbs:Int),by omega,by show ((d.natAbs:Int)).natAbs < _;rw[Int.natAbs_natCast];exact bd,fun p hp=>?_⟩
 obtain⟨t,bt,rfl⟩:=h p hp
 rw[Mq.lP d0]
 rcases Int.lt_or_le d 0 with z | z
 ·refine⟨-t,bt.neg,?_⟩
  rw[show ((d.natAbs:Nat):Int)=-d by omega,Rat.intCast_neg,Rat.intCast_neg]
  have:((d:Int):Rat)≠0:=by exact_mod_cast d0
  grind
 ·exact⟨t,bt,by rw[show ((d.natAbs:Nat):Int)=d by omega]⟩
def pE (K:PySem.W.Frag):Sp:=fun vs H Q _=>∃(g b D:Addr) (H0:Hp) (us bs:List V) (X:List (List Mq.Q2)) (qs:List Mq.Q2) (k n:Nat),vs=[.ref g,.ref b]∧SqL K H g us∧Fmd K H0 D H us X∧SqL K H b bs∧Fqs K H bs qs∧qs.length=X.length∧Mq.iL qs∧(∀p∈qs,Mq.Bd k p)∧Mq.fA X∧(∀row∈X,(∀p∈row,Mq.Bd k p)∧row.length=X.length)∧X.length≤26∧10+k+k*(X.length+1)≤8000∧Mq.BdR n (gZ X qs)∧1≤n∧bw n X.length≤8900∧wgt X≠0∧
 ∀l zs ps H',bC H H'→H l=none→H' l=some (.lst zs)→Fqs K H' zs ps→Ti X qs ps→Ovr (bw n X.length) ps→Q (.ref l) H'
end Shp
set_option maxHeartbeats 4000000
namespace K66
open PySem L2 Shp
section
variable {P:Program} {w:World} {K:PySem.W.Frag} {mg:Str→Option Value} {base:Heap} {f g1 g2 g3 g4 g5 g6 g7 g8:Addr} {fd gd1 gd2 gd3 gd4 gd5 gd6 gd7 gd8:FuncData} {CX:CXT}
variable {CR:Addr} {CK:Kd→Addr} {fW fJ fT fS:Kd→Addr} {fdW fdJ fdT fdS:Kd→FuncData}
theorem uH:(["one","bottom"]:List Str).Nodup:=by decide +kernel
abbrev sIW:Stmt:=top 52
theorem Qy:aS ["some","bottom","one"] ["some"] (aD sIW):=⟨rfl,rfl,rfl,by decide +kernel,rfl,by decide +kernel,by decide +kernel⟩
theorem Vz {dV:Value} (F:cB K "in_wholes" "in_wholes" sIW dV f fd)
  (G1:aP P w K mg base CX0 1 g1 gd1 ["one","other"] Pj) (b1:aR K gd1 ["one","other"] []) (k1:PySem.W.keepIn K (.ref g1)=true) (m1:mg "greatest_common"=some (.ref g1)) :
  aP P w K mg base CX 2 f fd ["some"] (Sd K):=by
 refine F.ok Qy (fun vs H Q E h=>?_) (fun cdv A outer s H vs Q E hr h=>?_)
 ·obtain⟨a,xs,ps,n,rfl,hS,hF,hP,hB,h100,hn,q⟩:=h
  rfl
 obtain⟨a,xs,ps,n,rfl,hS,hF,hP,hB,h100,hn,q⟩:=h
 refine⟨_,(aB (aT (i:=1) Qy.nd rfl (Or.inr rfl) aF)
  (aB (dW PassesOwn.never rfl (cY (pv 0)) (bF (i:=2) Qy.nd rfl (Or.inl rfl))
   (aG (aT (i:=1) Qy.nd rfl (Or.inr rfl) (aV dG (aV iN (pv 1) (aI G1 hr rfl m1 k1 b1 .nil aL (aA (pv 1) (aA (aX bA (pv 2) aF (fun _ _=>rfl)) aE)))) (aX bA (pv 2) aF (fun _ _=>rfl))))))
  (aG (aY (cW (aA (gV (nl:=1) (fr:=[1]) (Nc:=["one","bottom"]) (cl:=[("bottom",s.heap.objs.size+1)]) rfl ⟨rfl,rfl,by decide +kernel,by decide +kernel,fun x c h=>h,gQ rfl,rfl,fun i n h=>match i,h with | 0,h=>by cases h;exact⟨1,rfl,rfl,rfl,rfl,.inl rfl⟩ | k+1,h=>by rw[show 1+(k+1)=k+2 by omega] at h;cases h⟩
    (cY (pv 0)) (fun C s3 H3 fp pins=>(bF (i:=0) uH rfl (Or.inl rfl))) (fun C s3 H3 fp pins=>gB)
    (fun C s3 H3 fp pins=>(aV dG (aX (wX (K:=K) rfl) (pv 0) aF (fun _ _=>rfl)) (aV iN (pv 1) (aX (wX (K:=K) rfl) (pv 0) aF (fun _ _=>rfl)))))) (aA (pv 1) aE))))))),?_⟩
 have lx:=hF.length
 refine⟨_,rfl,a,rfl,⟨_,hS⟩,?_⟩
 refine fH (xs:=xs) (fun i σ H'=>H'=H∧i≤ps.length∧∃z,σ=[some (.ref a),some (.int (Mq.dL (ps.take i))),z]) ⟨rfl,Nat.zero_le _,none,rfl⟩ (fun i σ H' _ h=>by rw[h.1];exact hS) ?_ ?_
 ·rintro i x σ H' hx ⟨rfl,hi,z,rfl⟩
  obtain⟨u,p,rfl,ep,fu⟩:=hF.get hx
  have hi':i < ps.length:=(List.getElem?_eq_some_iff.mp ep).1
  obtain⟨f1,f2,_⟩:=Mq.mU hP hB i hi
  have mono:=Nat.mul_le_mul_left n hi
  have hp:=hP p (List.mem_of_getElem? ep)
  have pb:=(hB p (List.mem_of_getElem? ep)).b
  have g0:Mq.gc (Mq.dL (ps.take i)) p.2≠0:=by have:=Mq.tD (a:=Mq.dL (ps.take i)) (show p.2≠0 by omega);omega
  have gb:Mq.B n (Mq.gc (Mq.dL (ps.take i)) p.2):=by
   have:=Mq.Cj (t:=Mq.dL (ps.take i)) (show p.2≠0 by omega)
   rw[Rf (by omega)] at this
   exact pb.le this
  have qb:Mq.B (1+n*i) (Int.fdiv (Mq.dL (ps.take i)) (Mq.gc (Mq.dL (ps.take i)) p.2)):=by
   have d1:Mq.gc (Mq.dL (ps.take i)) p.2 ∣ Mq.dL (ps.take i):=by unfold Mq.gc;exact Int.gcd_dvd_left ..
   obtain⟨k,hk⟩:=d1
   have:=Mq.iH g0 hk
   rw[Mq.fB g0 hk]
   exact f2.le this
  refine⟨_,rfl,_,rfl,dH rfl fu ⟨_,_,rfl,fC g0 gb (by omega) (dH rfl fu (dF qb pb (by omega) (by omega) ?_))⟩⟩
  refine⟨rfl,hi',some (.ref u),?_⟩
  rw[Mq.lF ep]
  rfl
 rintro σ H' ⟨rfl,_,z,rfl⟩
 rw[lx,List.take_length]
 obtain⟨f1,f2,f3⟩:=Mq.mU hP hB ps.length (Nat.le_refl _)
 rw[List.take_length] at f1 f2 f3
 refine⟨_,rfl,a,rfl,⟨_,hS⟩,fun D hD=>?_⟩
 have sD:=aH hD (.lst [])
 refine fZ (xs:=xs) (fun i zs H1=>bC H' H1∧H1 D=some (.lst zs)∧zs=((ps.take i).map (Mq.As (Mq.dL ps))).map V.int) ⟨sD,aC,rfl⟩ (fun i zs H1 h=>h.2.1) (fun i zs H1 _ h=>h.1.seq hS) ?_ ?_
 ·rintro i zs x H1 hx ⟨s1,e1,rfl⟩ C hC
  obtain⟨u,p,rfl,ep,fu⟩:=hF.get hx
  have hi':i < ps.length:=(List.getElem?_eq_some_iff.mp ep).1
  have mem:=List.mem_of_getElem? ep
  have hp:=hP p mem
  obtain⟨k,hk⟩:=f3 p mem
  have fu1:=s1.fq fu
  have kb:Mq.B (1+n*ps.length) (Int.fdiv (Mq.dL ps) p.2):=by
   have e:=Mq.fB (show p.2≠0 by omega) (show Mq.dL ps=p.2*k by rw[hk,Int.mul_comm])
   rw[e]
   refine f2.le ?_
   rw[hk,Int.natAbs_mul]
   exact Nat.le_mul_of_pos_right _ (by omega)
  refine⟨gH.1,gH.2,gJ ?_⟩
  refine fX rfl fu1 ⟨_,rfl,dH rfl fu1 (fC (show p.2≠0 by omega) (hB p mem).b (by omega) (dF (hB p mem).a kb (by omega) (by omega) ?_))⟩
  refine⟨e1,bH (by rw[List.length_map,List.length_map,List.length_take];omega),hC _ _ ⟨s1.change hD,aC,?_⟩⟩
  rw[List.take_add_one,ep,List.map_append,List.map_append];rfl
 rintro zs H1 ⟨s1,e1,rfl⟩
 rw[lx,List.take_length] at e1
 refine⟨_,rfl,by show 2≤sizeLine;decide,fun t ht=>?_⟩
 have s2:=aH ht (.tup [.ref D,.int (Mq.dL ps)])
 exact q t D _ (s1.trans s2) hD (SqT.of aC) (s2 _ _ e1)
abbrev Io:Stmt:=top 56
theorem Sl:aS ["rows","rank","column","place"] ["rows","rank","column"] (aD Io):=⟨rfl,rfl,rfl,by decide +kernel,rfl,by decide +kernel,by decide +kernel⟩
theorem Vg {dV:Value} (F:cB K "pivot_place" "pivot_place" Io dV f fd)
  (ml:mg "len"=none) (mr:mg "range"=none) :
  aP P w K mg base CX 1 f fd ["rows","rank","column"] (Rs K):=by
 refine F.ok Sl (fun vs H Q E h=>?_) (fun cdv A outer s H vs Q E hr h=>?_)
 ·obtain⟨l,D,zs,R,r,c,m,w',rfl,hS,hI,hm,hw,hc,hr',h100,q1,q2⟩:=h
  rfl
 obtain⟨l,D,zs,R,r,c,m,w',rfl,hS,hI,hm,hw,hc,hr',h100,q1,q2⟩:=h
 refine⟨_,(aB (dW PassesOwn.never rfl (vG rfl mr (aA (pv 1) (aA (cK bO rfl ml PySem.boot_len (aA (pv 0) aE)) aE))) (bF (i:=3) Sl.nd rfl (Or.inl rfl))
   (aG (cD (bG mO (aX bN (aX bN (pv 0) (pv 3) (fun _ _=>rfl)) (pv 2) (fun _ _=>rfl)) aF (bL _)) (aG (aY (pv 3))) bK)))
  (aG (aY Uq))),?_⟩
 have lz:=hI.length
 obtain⟨k,hk⟩:∃k,m=r+k:=⟨m - r,by omega⟩
 refine⟨_,rfl,_,rfl,l,zs,rfl,.inl hS,(r:Int),(zs.length:Int),rfl,⟨by omega,by omega,by omega,by omega⟩,?_⟩
 rw[show ((zs.length:Int) - (r:Int)).toNat=k by omega]
 refine gM (lo:=(r:Int)) (n:=k) (fun i σ H'=>H'=H∧(∀j,r≤j→j < r+i→Mq.ent R j c=0)∧∃z,σ=[some (.ref l),some (.int (r:Int)),some (.int (c:Int)),z]) ⟨rfl,fun j h1 h2=>absurd h1 (by omega),none,rfl⟩ ?_ ?_
 ·rintro i σ H' hi ⟨rfl,hz,z,rfl⟩
  obtain⟨u,eu,nu,hu⟩:=hI.at (i:=r+i) (by omega)
  have eu':atI zs ((r:Int)+(i:Int))=some (.ref u):=by have:=bZ eu;rwa [Int.natCast_add] at this
  have ec:=bZ (jQ (l:=R.getD (r+i) []) (i:=c) (by rw[hw _ (by omega)];exact hc))
  refine⟨_,rfl,_,rfl,l,zs,_,_,rfl,rfl,hS,eu',_,rfl,u,_,_,_,rfl,rfl,SqL.of hu,ec,rfl,_,rfl,oH (fun e=>?_) (fun e=>?_)⟩
  ·refine⟨_,rfl,?_⟩
   have ne:Mq.ent R (r+i) c≠0:=fun z=>by
    have z':(R.getD (r+i) []).getD c 0=0:=z
    rw[z'] at e
    simp at e
   have:=q1 (r+i) (by omega) (by omega) ne
   rwa [Int.natCast_add] at this
  ·refine⟨rfl,fun j h1 h2=>?_,_,rfl⟩
   by_cases hj:j=r+i
   ·rw[hj]
    simp at e
    exact e
   ·exact hz j h1 (by omega)
 ·rintro σ H' ⟨rfl,hz,z,rfl⟩
  exact q2 fun i h1 h2=>hz i h1 (by omega)
theorem dS:(["here","above","own","other","divisor"]:List Str).Nodup:=by decide +kernel
abbrev Hc:Stmt:=top 58
theorem Ls:aS ["row","upper","column","divisor","own","other"] ["row","upper","column","divisor"] (aD Hc):=⟨rfl,rfl,rfl,by decide +kernel,rfl,by decide +kernel,by decide +kernel⟩
theorem Uh {dV:Value} (F:cB K "cleared" "cleared" Hc dV f fd)
  (mz:mg "zip"=none) :
  aP P w K mg base CX 1 f fd ["row","upper","column","divisor"] (vY K):=by
 refine F.ok Ls (fun vs H Q E h=>?_) (fun cdv A outer s H vs Q E hr h=>?_)
 ·obtain⟨u,v,row,upper,c,n,dv,rfl,hu,hv,hl,h100,hc,hd,b1,b2,bd,hn,q⟩:=h
  rfl
 obtain⟨u,v,row,upper,c,n,dv,rfl,hu,hv,hl,h100,hc,hd,b1,b2,bd,hn,q⟩:=h
 refine⟨_,(aB (aT (i:=4) Ls.nd rfl (Or.inr rfl) (aX bN (pv 1) (pv 2) (fun _ _=>rfl)))
  (aB (aT (i:=5) Ls.nd rfl (Or.inr rfl) (aX bN (pv 0) (pv 2) (fun _ _=>rfl)))
  (aG (aY (gV (nl:=2) (fr:=[4,5,3]) (Nc:=["here","above","own","other","divisor"]) (cl:=[("own",s.heap.objs.size+2),("other",s.heap.objs.size+3),("divisor",s.heap.objs.size+1)]) (g:=(Nq K 2 (oI (kT 0) (oI (kT 1) Mz)))) rfl ⟨rfl,rfl,by decide +kernel,by decide +kernel,(dZ rfl (dZ rfl (dZ rfl (nC)))),gQ rfl,rfl,fun i n h=>match i,h with | 0,h=>by cases h;exact⟨4,rfl,rfl,rfl,rfl,.inl rfl⟩ | 1,h=>by cases h;exact⟨5,rfl,rfl,rfl,rfl,.inl rfl⟩ | 2,h=>by cases h;exact⟨3,rfl,rfl,rfl,rfl,.inl rfl⟩ | k+3,h=>by rw[show 2+(k+3)=k+5 by omega] at h;cases h⟩
    (Li rfl mz rfl (aA (pv 0) (aA (pv 1) aE))) (fun C s3 H3 fp pins=>(kX rfl (cJ (bF (i:=0) dS rfl (Or.inl rfl)) (cJ (bF (i:=1) dS rfl (Or.inl rfl)) iR)))) (fun C s3 H3 fp pins=>gB)
    (fun C s3 H3 fp pins=>(aV iN (aV iI (aV dG (pv 2) (pv 0)) (aV dG (pv 3) (pv 1))) (pv 4)))))))),?_⟩
 have e1:=bZ (jQ (l:=upper) (i:=c) (by omega))
 have e2:=bZ (jQ (l:=row) (i:=c) (by omega))
 refine⟨_,rfl,_,rfl,v,_,_,_,rfl,rfl,hv,e1,?_⟩
 refine⟨_,rfl,_,rfl,u,_,_,_,rfl,rfl,hu,e2,?_⟩
 refine⟨_,rfl,_,rfl,u,v,rfl,⟨_,hu⟩,⟨_,hv⟩,fun D hD=>?_⟩
 have sD:=aH hD (.lst [])
 refine zY (xs:=row.map V.int) (ys:=upper.map V.int) (fun i zs H'=>bC H H'∧H' D=some (.lst zs)∧zs=((Mq.gC upper row c dv).take i).map V.int) ⟨sD,aC,rfl⟩ (fun i zs H' h=>h.2.1) (fun i zs H' _ h=>⟨h.1.seq hu,h.1.seq hv⟩) ?_ ?_
 ·rintro i zs x y H1 T1 ex ey ⟨s1,e1',rfl⟩ hT C hC
  have hi:i < row.length:=by have:=(List.getElem?_eq_some_iff.mp ex).1;simpa using this
  have ex':x=.int (row.getD i 0):=by rw[jQ hi] at ex;cases ex;rfl
  have ey':y=.int (upper.getD i 0):=by rw[jQ (by omega)] at ey;cases ey;rfl
  subst ex' ey'
  have sT:=aH hT (.tup [.int (row.getD i 0),.int (upper.getD i 0)])
  refine⟨T1,_,rfl,SqT.of aC,rfl,_,_,rfl,_,_,rfl,rfl,qK.1,qK.2,gJ ?_⟩
  have mm:Mq.B (n+n+1) (upper.getD c 0*row.getD i 0 - row.getD c 0*upper.getD i 0):=Mq.B.sub ((b2 c).mul (b1 i)) ((b1 c).mul (b2 i))
  refine⟨_,rfl,_,rfl,dF (b2 c) (b1 i) (by omega) (by omega) ⟨_,rfl,_,rfl,dF (b1 c) (b2 i) (by omega) (by omega) ⟨_,_,rfl,rfl,_,rfl,fC hd bd (by omega) ?_⟩⟩⟩
  have ll:(Mq.gC upper row c dv).length=row.length:=by unfold Mq.gC;rw[List.length_zipWith];omega
  have eA:=sT _ _ e1'
  refine⟨eA,bH (by rw[List.length_map,List.length_take];omega),hC _ _ ⟨(s1.trans sT).change hD,aC,?_⟩⟩
  have eg:(Mq.gC upper row c dv)[i]?=some (Int.fdiv (upper.getD c 0*row.getD i 0 - row.getD c 0*upper.getD i 0) dv):=by
   unfold Mq.gC
   rw[List.getElem?_zipWith,Mq.kN hi,Mq.kN (show i < upper.length by omega)]
  rw[List.take_add_one,eg,List.map_append];rfl
 rintro zs H1 ⟨s1,e1',rfl⟩
 have ll:(Mq.gC upper row c dv).length=row.length:=by unfold Mq.gC;rw[List.length_zipWith];omega
 rw[List.length_map,List.length_map,List.take_of_length_le (by rw[ll];omega)] at e1'
 exact q D H1 s1 hD e1'
theorem cU:(["place","row","upper","rank","divisor","column"]:List Str).Nodup:=by decide +kernel
abbrev iW:Stmt:=top 57
theorem uR:aS ["rows","rank","column","divisor","upper"] ["rows","rank","column","divisor"] (aD iW):=⟨rfl,rfl,rfl,by decide +kernel,rfl,by decide +kernel,by decide +kernel⟩
theorem Cu {dV:Value} (F:cB K "cleared_rows" "cleared_rows" iW dV f fd)
  (men:mg "enumerate"=none)
  (G1:aP P w K mg base CX0 1 g1 gd1 ["row","upper","column","divisor"] (vY K)) (b1:aR K gd1 ["row","upper","column","divisor"] []) (k1:PySem.W.keepIn K (.ref g1)=true) (m1:mg "cleared"=some (.ref g1)) :
  aP P w K mg base CX 2 f fd ["rows","rank","column","divisor"] (vP K):=by
 refine F.ok uR (fun vs H Q E h=>?_) (fun cdv A outer s H vs Q E hr h=>?_)
 ·obtain⟨l,D0,zs,R,r,c,m,w',n,dv,rfl,hS,hI,hm,hw,hc,hw100,hr',h100,hd,hB,bd,hn,q⟩:=h
  rfl
 obtain⟨l,D0,zs,R,r,c,m,w',n,dv,rfl,hS,hI,hm,hw,hc,hw100,hr',h100,hd,hB,bd,hn,q⟩:=h
 refine⟨_,(aB (aT (i:=4) uR.nd rfl (Or.inr rfl) (aX bN (pv 0) (pv 1) (fun _ _=>rfl)))
  (aG (aY (gV (nl:=2) (fr:=[4,1,3,2]) (Nc:=["place","row","upper","rank","divisor","column"]) (cl:=[("upper",s.heap.objs.size+4),("rank",s.heap.objs.size+1),("divisor",s.heap.objs.size+3),("column",s.heap.objs.size+2)]) (g:=(Nq K 2 (oI (kT 0) (oI (kT 1) Mz)))) rfl ⟨rfl,rfl,by decide +kernel,by decide +kernel,(dZ rfl (dZ rfl (dZ rfl (dZ rfl (nC))))),gQ rfl,rfl,fun i n h=>match i,h with | 0,h=>by cases h;exact⟨4,rfl,rfl,rfl,rfl,.inl rfl⟩ | 1,h=>by cases h;exact⟨1,rfl,rfl,rfl,rfl,.inl rfl⟩ | 2,h=>by cases h;exact⟨3,rfl,rfl,rfl,rfl,.inl rfl⟩ | 3,h=>by cases h;exact⟨2,rfl,rfl,rfl,rfl,.inl rfl⟩ | k+4,h=>by rw[show 2+(k+4)=k+6 by omega] at h;cases h⟩
    (yP rfl men rfl (aA (pv 0) aE)) (fun C s3 H3 fp pins=>(kX rfl (cJ (bF (i:=0) cU rfl (Or.inl rfl)) (cJ (bF (i:=1) cU rfl (Or.inl rfl)) iR)))) (fun C s3 H3 fp pins=>gB)
    (fun C s3 H3 fp pins=>(oO (bG eQ (pv 0) (pv 3) (bL _)) (pv 1) (aI G1 hr rfl m1 k1 b1 .nil aL (aA (pv 1) (aA (pv 2) (aA (pv 5) (aA (pv 4) aE))))))))))),?_⟩
 have lz:=hI.length
 obtain⟨v,ev,nv,hv⟩:=hI.at (i:=r) (by omega)
 refine⟨_,rfl,_,rfl,l,zs,_,_,rfl,rfl,hS,bZ ev,?_⟩
 refine⟨_,rfl,l,rfl,⟨_,hS⟩,fun D hD=>?_⟩
 have sD:=aH hD (.lst [])
 have ll:=Mq.Fp R r c dv
 refine wJ (xs:=zs) (fun i ys H'=>bC H H'∧H' D=some (.lst ys)∧Imx D H' ys ((Mq.cH R r c dv).take i)) ⟨sD,aC,.nil⟩ (fun i ys H' h=>h.2.1) (fun i ys H' _ h=>h.1.seq hS) ?_ ?_
 ·rintro i ys x H1 T1 ex ⟨s1,e1,I1⟩ hT C hC
  have hi:i < m:=by have:=(List.getElem?_eq_some_iff.mp ex).1;omega
  obtain⟨u,eu,nu,hu⟩:=hI.at (i:=i) (by omega)
  have exu:x=.ref u:=by rw[eu] at ex;cases ex;rfl
  subst exu
  have lI:=I1.length
  rw[List.length_take] at lI
  have cg:=Mq.oE (R:=R) (i:=i) (by omega) r c dv
  have cs:(Mq.cH R r c dv).take (i+1)=(Mq.cH R r c dv).take i++[(Mq.cH R r c dv).getD i []]:=by
   rw[List.take_add_one,List.getD_eq_getElem?_getD,List.getElem?_eq_getElem (show i < (Mq.cH R r c dv).length by omega)];rfl
  have sT:=aH hT (.tup [.int (i:Int),.ref u])
  have uD:∀{x:Addr} {o:HO},H x=some o→x≠D:=fun h z=>by rw[z,hD] at h;cases h
  refine⟨T1,_,rfl,SqT.of aC,rfl,_,_,rfl,_,_,rfl,rfl,qK.1,qK.2,gJ ?_⟩
  generalize upd H1 T1 (.tup [.int (i:Int),.ref u])=H2 at sT ⊢
  have sA:=s1.trans sT
  have eA:=sT _ _ e1
  refine⟨_,rfl,_,rfl,rfl,_,rfl,oH (fun e=>?_) (fun e=>?_)⟩
  ·have ei:i=r:=by simp at e;omega
   refine⟨_,rfl,eA,bH (by omega),hC _ _ ⟨sA.change hD,aC,?_⟩⟩
   rw[cs,cg,if_pos ei]
   exact((I1.same sT).app (.cons (uD hu) (sA _ _ hu) .nil)).upd
  ·have ei:i≠r:=by simp at e;omega
   refine⟨_,rfl,_,rfl,_,rfl,_,rfl,u,v,R.getD i [],R.getD r [],c,n,dv,rfl,SqL.of (sA _ _ hu),SqL.of (sA _ _ hv),by rw[hw i hi,hw r hr'],by rw[hw i hi];exact hw100,by rw[hw i hi];exact hc,hd,fun j=>hB i j,fun j=>hB r j,bd,hn,fun l3 H3 s3 n3 e3=>?_⟩
   have eB:=s3 _ _ eA
   have n3':l3≠D:=fun z=>by rw[z,eA] at n3;cases n3
   refine⟨eB,bH (by omega),hC _ _ ⟨(sA.trans s3).change hD,aC,?_⟩⟩
   rw[cs,cg,if_neg ei]
   exact((I1.same (sT.trans s3)).app (.cons n3' e3 .nil)).upd
 rintro ys H1 ⟨s1,e1,I1⟩
 rw[lz,List.take_of_length_le (by omega)] at I1
 exact q D ys H1 s1 hD e1 I1
abbrev vO:Stmt:=top 55
theorem hG:aS ["rows","width","rank","pivot","sign","column","place","lifted"] ["rows","width"] (aD vO):=⟨rfl,rfl,rfl,by decide +kernel,rfl,by decide +kernel,by decide +kernel⟩
theorem Qm {dV:Value} (F:cB K "eliminated" "eliminated" vO dV f fd)
  (mr:mg "range"=none) (mli:mg "list"=none)
  (G1:aP P w K mg base CX0 1 g1 gd1 ["rows","rank","column"] (Rs K)) (b1:aR K gd1 ["rows","rank","column"] []) (k1:PySem.W.keepIn K (.ref g1)=true) (m1:mg "pivot_place"=some (.ref g1))
  (G2:aP P w K mg base CX0 2 g2 gd2 ["rows","rank","column","divisor"] (vP K)) (b2:aR K gd2 ["rows","rank","column","divisor"] []) (k2:PySem.W.keepIn K (.ref g2)=true) (m2:mg "cleared_rows"=some (.ref g2)) :
  aP P w K mg base CX 3 f fd ["rows","width"] (Dp K):=by
 refine F.ok hG (fun vs H Q E h=>?_) (fun cdv A outer s H vs Q E hr h=>?_)
 ·obtain⟨l,D0,zs,R,m,w',n,Pr,rfl,hS,hI,hm,hw,hmw,hw100,hB,hn1,hn,hm31,hPr,hSt,q⟩:=h
  rfl
 obtain⟨l,D0,zs,R,m,w',n,Pr,rfl,hS,hI,hm,hw,hmw,hw100,hB,hn1,hn,hm31,hPr,hSt,q⟩:=h
 have r1:=hr.mono (show 1≤2 by omega)
 refine⟨_,(aB (aT (i:=0) hG.nd rfl (Or.inl rfl) (uZ nY rfl mli PyProof.Rows.boot_list (aA (pv 0) aE)))
  (aB (aT (i:=2) hG.nd rfl (Or.inl rfl) aF)
  (aB (aT (i:=3) hG.nd rfl (Or.inl rfl) aF)
  (aB (aT (i:=4) hG.nd rfl (Or.inl rfl) aF)
  (aB (dW PassesOwn.never rfl (iC rfl mr (aA (pv 1) aE)) (bF (i:=5) hG.nd rfl (Or.inl rfl))
   (aB (aT (i:=6) hG.nd rfl (Or.inl rfl) (aI G1 r1 rfl m1 k1 b1 .nil aL (aA (pv 0) (aA (pv 2) (aA (pv 5) aE)))))
  (aB (cD (xY (Da (pv 6))) (aG An) bK)
  (aB (cD (bG mO (pv 6) (pv 2) (bL _)) (aB (aT (i:=7) hG.nd rfl (Or.inl rfl) (aX bN (pv 0) (pv 6) (fun _ _=>rfl)))
  (aB (pJ (aX bN (pv 0) (pv 2) (fun _ _=>rfl)) (pA (pv 0) (pv 6) iY))
  (aB (pJ (pv 7) (pA (pv 0) (pv 2) iY))
  (aG (aT (i:=4) hG.nd rfl (Or.inl rfl) (Ji Df (pv 4))))))) bK)
  (aB (aT (i:=0) hG.nd rfl (Or.inl rfl) (aI G2 hr rfl m2 k2 b2 .nil aL (aA (pv 0) (aA (pv 2) (aA (pv 5) (aA (pv 3) aE))))))
  (aB (aT (i:=3) hG.nd rfl (Or.inl rfl) (aX bN (aX bN (pv 0) (pv 2) (fun _ _=>rfl)) (pv 5) (fun _ _=>rfl)))
  (aG (Cs (i:=2) hG.nd rfl (Or.inl rfl) aF Cr))))))))
  (aG (aY (Es (kH cI (pv 0) (kH cI (pv 2) (kH cI (pv 3) (kH cI (pv 4) Em)))) rfl rfl (by simp) (by decide))))))))),?_⟩
 refine⟨_,rfl,l,zs,rfl,.inl hS,fun l0 hl0=>?_⟩
 have s0:=aH hl0 (.lst zs)
 have e0:upd H l0 (.lst zs) l0=some (.lst zs):=aC
 generalize upd H l0 (.lst zs)=H0 at s0 e0 ⊢
 refine⟨_,rfl,(m:Int),rfl,by omega,by omega,?_⟩
 rw[Int.toNat_natCast]
 have b1:Mq.B n 1:=by
  show 1 < 2 ^ n
  exact Nat.one_lt_two_pow (by omega)
 refine gM (lo:=0) (n:=m) (fun i σ H'=>bC H H'∧∃(lR:Addr) (zs':List V) (R':List (List Int)) (rank:Nat) (pivot sign:Int) (z5 z6 z7:Option V),σ=[some (.ref lR),some (.int (m:Int)),some (.int (rank:Int)),some (.int pivot),some (.int sign),z5,z6,z7]∧H lR=none∧H' lR=some (.lst zs')∧Imx lR H' zs' R'∧Mq.SI m w' (Mq.at2 R) R' rank i pivot sign∧Mq.SB n m R' rank i pivot∧Pr R') ⟨s0,l0,zs,R,0,1,1,none,none,none,rfl,hl0,e0,(hI.other hl0).same s0,.start hm hw,.start hB,hPr⟩ ?_ ?_
 ·rintro i σ H1 hi ⟨s1,lR,zs',R',rank,pivot,sign,z5,z6,z7,rfl,nR,eR,I1,S1,sb,p1⟩
  rw[Int.zero_add]
  obtain⟨bR,bP⟩:=sb.bd5 S1 hm31
  obtain⟨A1,c1,B1,_⟩:=S1.bar
  have rm:=B1.rm
  have rc:=B1.rc
  have dn:pivot≠0:=fun z=>B1.dne (by rw[z];simp)
  clear B1
  refine⟨_,rfl,_,rfl,_,rfl,lR,lR,zs',R',rank,i,m,w',rfl,SqL.of eR,I1,S1.len,S1.wid,by omega,rm,by omega,fun p h1 h2 ne=>?_,fun hz=>?_⟩
  ·refine⟨_,rfl,_,rfl,eV ?_⟩
   have hrm:rank < m:=by omega
   refine(fun (hrest:∀(sg:Int) (z:Option V) (Hx:Hp) (zs2:List V) (R2:List (List Int)),bC H Hx→Hx lR=some (.lst zs2)→Imx lR Hx zs2 R2→Mq.SI m w' (Mq.at2 R) R2 rank i pivot sg→Mq.ent R2 rank i≠0→Mq.SB n m R2 rank i pivot→Pr R2→PySem.W.KIN.Hid ((?T:Int→Option V→Hp→Prop) sg z Hx))=>?main) ?rest
   case main=>
    refine⟨_,rfl,_,rfl,rfl,_,rfl,oH (fun e=>?c1) (fun e=>?c2)⟩
    case c1=>
     have npr:p≠rank:=by simp at e;omega
     obtain⟨up,eup,nup,hup⟩:=I1.at (i:=p) (by rw[S1.len];omega)
     obtain⟨ur,eur,nur,hur⟩:=I1.at (i:=rank) (by rw[S1.len];omega)
     have lz:zs'.length=m:=I1.length.trans S1.len
     refine⟨_,rfl,_,rfl,lR,zs',_,_,rfl,rfl,SqL.of eR,bZ eup,?_⟩
     refine⟨_,rfl,_,rfl,lR,zs',_,_,rfl,rfl,SqL.of eR,bZ eur,_,rfl,_,rfl,lR,zs',_,p,rfl,rfl,eR,lD (by omega),?_⟩
     have e2:upd H1 lR (.lst (zs'.set p (.ref ur))) lR=some (.lst (zs'.set p (.ref ur))):=aC
     have I2:=(Imx.set nur hur p I1).upd (o:=.lst (zs'.set p (.ref ur)))
     have s2:bC H (upd H1 lR (.lst (zs'.set p (.ref ur)))):=s1.change nR
     have hup2:upd H1 lR (.lst (zs'.set p (.ref ur))) up=some (.lst ((R'.getD p []).map V.int)):=by rw[aW nup];exact hup
     generalize upd H1 lR (.lst (zs'.set p (.ref ur)))=H2 at e2 I2 s2 hup2 ⊢
     refine⟨_,rfl,_,rfl,_,rfl,lR,_,_,rank,rfl,rfl,e2,lD (by rw[List.length_set];omega),?_⟩
     have e3:upd H2 lR (.lst ((zs'.set p (.ref ur)).set rank (.ref up))) lR=some (.lst ((zs'.set p (.ref ur)).set rank (.ref up))):=aC
     have I3:=(Imx.set nup hup2 rank I2).upd (o:=.lst ((zs'.set p (.ref ur)).set rank (.ref up)))
     have s3:bC H (upd H2 lR (.lst ((zs'.set p (.ref ur)).set rank (.ref up)))):=s2.change nR
     generalize upd H2 lR (.lst ((zs'.set p (.ref ur)).set rank (.ref up)))=H3 at e3 I3 s3 ⊢
     refine⟨_,rfl,_,rfl,?_⟩
     show iO _ _ _ [some (.ref lR),some (.int (m:Int)),some (.int (rank:Int)),some (.int pivot),some (.int (-sign)),some (.int (i:Int)),some (.int (p:Int)),some (.ref up)] H3
     have S3:=S1.swap (p:=p) (by omega) h2
     have bR3:=sb.swap S1 (p:=p) (by omega) h2
     have ne3:Mq.ent (Mq.eZ R' p rank) rank i≠0:=by
      unfold Mq.ent
      rw[Mq.yC (by rw[S1.len];omega) (by rw[S1.len];omega)]
      have:Mq.sw p rank rank=p:=by unfold Mq.sw;rw[if_pos rfl]
      rw[this];exact ne
     have I3':Imx lR H3 ((zs'.set p (.ref ur)).set rank (.ref up)) (Mq.eZ R' p rank):=I3
     clear I3 hup2
     have p3:=hSt.sw _ _ _ _ _ _ S1 (show rank < p by omega) h2 p1
     generalize -sign=sg at S3 ⊢
     generalize some (V.ref up)=zz at ⊢
     exact(hrest sg zz H3 _ _ s3 e3 I3' S3 ne3 bR3 p3).out
    case c2=>
     have epr:p=rank:=by simp at e;omega
     show iO _ _ _ [some (.ref lR),some (.int (m:Int)),some (.int (rank:Int)),some (.int pivot),some (.int sign),some (.int (i:Int)),some (.int (p:Int)),z7] H1
     exact(hrest sign z7 H1 _ _ s1 eR I1 S1 (by rw[← epr];exact ne) sb p1).out
   case rest=>
   intro sg z Hx zs2 R2 sx ex Ix Sx nx bx px
   refine⟨?_⟩
   have bxx:=bx.bd5 Sx hm31
   refine⟨_,rfl,_,rfl,_,rfl,_,rfl,lR,lR,zs2,R2,rank,i,m,w',bw n m,pivot,rfl,SqL.of ex,Ix,Sx.len,Sx.wid,by omega,hw100,hrm,by omega,dn,bxx.1,bxx.2,hn,fun l3 zs3 H3 s3 n3 e3 I3=>?_⟩
   have S3:=Sx.clear hrm (by omega) nx
   have b3:=bx.clear Sx hrm (by omega) nx
   obtain⟨u,eu,nu,hu⟩:=I3.at (i:=rank) (by rw[S3.len];omega)
   have ec:=bZ (jQ (l:=(Mq.cH R2 rank i pivot).getD rank []) (i:=i) (by rw[S3.wid _ hrm];omega))
   refine⟨_,rfl,_,rfl,l3,zs3,_,_,rfl,rfl,SqL.of e3,bZ eu,_,rfl,u,_,_,_,rfl,rfl,SqL.of hu,ec,?_⟩
   refine⟨_,rfl,_,_,rfl,rfl,?_⟩
   have ev:((Mq.cH R2 rank i pivot).getD rank []).getD i 0=Mq.ent R2 rank i:=by rw[Mq.oE (by rw[Sx.len];omega),if_pos rfl];rfl
   refine⟨sx.trans s3,l3,zs3,_,rank+1,Mq.ent R2 rank i,sg,some (.int (i:Int)),some (.int (p:Int)),z,?_,sx.free n3,e3,I3,S3,b3,hSt.cl _ _ _ _ _ Sx hrm (by omega) nx px⟩
   rw[ev];rfl
  ·refine⟨_,rfl,_,rfl,gJ ?_⟩
   exact⟨s1,lR,zs',R',rank,pivot,sign,_,_,_,rfl,nR,eR,I1,S1.skip hz,sb.skip hz,p1⟩
 ·rintro σ H1 ⟨s1,lR,zs',R',rank,pivot,sign,z5,z6,z7,rfl,nR,eR,I1,S1,sb,p1⟩
  obtain⟨bR,bP⟩:=sb.bd5 S1 hm31
  obtain⟨A1,c1,B1,_⟩:=S1.bar
  have rm:=B1.rm
  intro d hd
  have nd:lR≠d:=fun z=>by rw[z,hd] at eR;cases eR
  refine⟨_,rfl,_,rfl,_,rfl,_,rfl,aC,[(.inr "rows",.ref lR),(.inr "rank",.int (rank:Int)),(.inr "pivot",.int pivot),(.inr "sign",.int sign)],rfl,by show 4≤15;decide,?_⟩
  have sd:bC H1 (upd (upd H1 d (.dK [])) d (Jq lR rank pivot sign)):=(aH hd _).change hd
  exact q d lR zs' R' rank pivot sign _ (s1.trans sd) (s1.free hd) nR aC (sd _ _ eR) (I1.same sd) S1 bR bP p1
theorem qM:(["row","side"]:List Str).Nodup:=by decide +kernel
theorem qX:(["row","many","end"]:List Str).Nodup:=by decide +kernel
abbrev lL:Stmt:=top 51
theorem oK:aS ["matrix","right","many","rows","end"] ["matrix","right"] (aD lL):=⟨rfl,rfl,rfl,by decide +kernel,rfl,by decide +kernel,by decide +kernel⟩
theorem Gs {dV:Value} (F:cB K "solved" "solved" lL dV f fd)
  (ml:mg "len"=none) (mz:mg "zip"=none)
  (G1:aP P w K mg base CX0 2 g1 gd1 ["some"] (Sd K)) (b1:aR K gd1 ["some"] []) (k1:PySem.W.keepIn K (.ref g1)=true) (m1:mg "in_wholes"=some (.ref g1))
  (G2:aP P w K mg base CX0 3 g2 gd2 ["rows","width"] (Dp K)) (b2:aR K gd2 ["rows","width"] []) (k2:PySem.W.keepIn K (.ref g2)=true) (m2:mg "eliminated"=some (.ref g2))
  (G3:aP P w K mg base CX0 2 g3 gd3 ["top","bottom"] jM) (b3:aR K gd3 ["top","bottom"] []) (k3:PySem.W.keepIn K (.ref g3)=true) (m3:mg "fraction"=some (.ref g3)) :
  aP P w K mg base CX 5 f fd ["matrix","right"] (pE K):=by
 refine F.ok oK (fun vs H Q E h=>?_) (fun cdv A outer s H vs Q E hr h=>?_)
 ·obtain⟨g,bR,D0,H00,us,bs,X,qs,k,n,rfl,hU,hX,hB,hQ,ql,qL,qB,xP,xB,x4,hk,hBd,hn1,hnb,hz0,q⟩:=h
  rfl
 obtain⟨g,bR,D0,H00,us,bs,X,qs,k,n,rfl,hU,hX,hB,hQ,ql,qL,qB,xP,xB,x4,hk,hBd,hn1,hnb,hz0,q⟩:=h
 have hu:=Ai hr
 have r3:=hr.mono (show 3≤4 by omega)
 have r2:=hr.mono (show 2≤4 by omega)
 refine⟨_,(aB (aT (i:=2) oK.nd rfl (Or.inr rfl) (cK bO rfl ml PySem.boot_len (aA (pv 0) aE)))
  (aB (yH (i:=3) (nl:=2) (fr:=[]) (Nc:=["row","side"]) (cl:=[]) (g:=(Nq K 2 (oI (kT 0) (oI (kT 1) Mz)))) oK.nd rfl rfl rfl ⟨rfl,rfl,by decide +kernel,by decide +kernel,fun x c h=>(by cases h),gQ rfl,rfl,fun i n h=>(by simp at h)⟩
    (Li rfl mz rfl (aA (pv 0) (aA (pv 1) aE))) (fun C s3 H3 fp pins=>(kX rfl (cJ (bF (i:=0) qM rfl (Or.inl rfl)) (cJ (bF (i:=1) qM rfl (Or.inl rfl)) iR)))) (fun C s3 H3 fp pins=>gB)
    (fun C s3 H3 fp pins=>(aX (wX (K:=K) rfl) (aI G1 r2 rfl m1 k1 b1 .nil aL (aA (aV pD (pv 0) (cS (aA (pv 1) aE))) aE)) aF (fun _ _=>rfl))) rfl)
  (aB (aT (i:=4) oK.nd rfl (Or.inr rfl) (aI G2 r3 rfl m2 k2 b2 .nil aL (aA (pv 3) (aA (pv 2) aE))))
  (aB (cD (bG uT (rB hu (pv 4) cI (fun _ _=>rfl)) (pv 2) (bL _)) (aG fE) bK)
  (aG (aY (gV (nl:=1) (fr:=[2,4]) (Nc:=["row","many","end"]) (cl:=[("many",s.heap.objs.size+1),("end",s.heap.objs.size+2)]) rfl ⟨rfl,rfl,by decide +kernel,by decide +kernel,(dZ rfl (dZ rfl (nC))),gQ rfl,rfl,fun i n h=>match i,h with | 0,h=>by cases h;exact⟨2,rfl,rfl,rfl,rfl,.inl rfl⟩ | 1,h=>by cases h;exact⟨4,rfl,rfl,rfl,rfl,.inl rfl⟩ | k+2,h=>by rw[show 1+(k+2)=k+3 by omega] at h;cases h⟩
    (cY (rB hu (pv 4) cI (fun _ _=>rfl))) (fun C s3 H3 fp pins=>(bF (i:=0) qX rfl (Or.inl rfl))) (fun C s3 H3 fp pins=>gB)
    (fun C s3 H3 fp pins=>(aI G3 r2 rfl m3 k3 b3 .nil aL (aA (aX (yW (K:=K) rfl) (pv 0) (pv 1) (fun _ _=>rfl)) (aA (rB hu (pv 2) cI (fun _ _=>rfl)) aE))))))))))),?_⟩
 have lu:=hX.length
 have lb:=hQ.length
 have hw:∀row∈X,row.length=X.length:=fun row h=>(xB row h).2
 have qP:=qL.pos
 have lA:=Ap ql
 refine⟨_,rfl,g,us,rfl,.inl hU,?_⟩
 refine⟨_,rfl,_,rfl,g,bR,rfl,⟨_,hU⟩,⟨_,hB⟩,fun D hD=>?_⟩
 have sD:=aH hD (.lst [])
 refine zY (xs:=us) (ys:=bs) (fun i zs H'=>bC H H'∧H' D=some (.lst zs)∧Imx D H' zs ((gZ X qs).take i)) ⟨sD,aC,.nil⟩ (fun i zs H' h=>h.2.1) (fun i zs H' _ h=>⟨h.1.seq hU,h.1.seq hB⟩) ?_ ?_
 ·rintro i zs x y H1 T1 ex ey ⟨s1,e1,I1⟩ hT C hC
  obtain⟨u,ys,row,rfl,er,_,_,hu',fu⟩:=hX.get ex
  obtain⟨v,qv,rfl,eq,fv⟩:=hQ.get ey
  have hi:i < X.length:=(List.getElem?_eq_some_iff.mp er).1
  have mem:=List.mem_of_getElem? er
  have memq:=List.mem_of_getElem? eq
  obtain⟨rb,rl⟩:=xB row mem
  have lys:=fu.length
  have sT:=aH hT (.tup [.ref u,.ref v])
  refine⟨T1,_,rfl,SqT.of aC,rfl,_,_,rfl,_,_,rfl,rfl,qK.1,qK.2,gJ ?_⟩
  generalize upd H1 T1 (.tup [.ref u,.ref v])=H2 at sT ⊢
  have s2:=s1.trans sT
  refine⟨_,rfl,_,rfl,by show 1≤sizeLine;decide,fun lo hlo=>?_⟩
  have s3:=aH hlo (.lst [.ref v])
  have e3:upd H2 lo (.lst [.ref v]) lo=some (.lst [.ref v]):=aC
  generalize upd H2 lo (.lst [.ref v])=H3 at s3 e3 ⊢
  have s03:=s2.trans s3
  refine⟨u,lo,_,_,rfl,rfl,s03 _ _ hu',e3,Nat.le_of_lt (bH (by simp only[List.length_cons,List.length_nil];omega)),fun p hp=>?_⟩
  have s4:=aH hp (.lst (ys++[.ref v]))
  have e4:upd H3 p (.lst (ys++[.ref v])) p=some (.lst (ys++[.ref v])):=aC
  generalize upd H3 p (.lst (ys++[.ref v]))=H4 at s4 e4 ⊢
  have s04:=s03.trans s4
  have s14:=sT.trans (s3.trans s4)
  refine⟨p,_,row++[qv],k,rfl,SqL.of e4,(fu.same s04).app (.cons (s04.fq fv) .nil),fun z hz=>?_,fun z hz=>?_,by rw[List.length_append];simp only[List.length_cons,List.length_nil];omega,by rw[List.length_append,rl];simp only[List.length_cons,List.length_nil];rw[show X.length+(0+1)=X.length+1 by omega];omega,fun t l H5 s5 nl ht hl=>?_⟩
  ·rcases List.mem_append.mp hz with z1 | z1
   ·exact xP row mem z z1
   ·have:z=qv:=by simpa using z1
    rw[this];exact qP qv memq
  ·rcases List.mem_append.mp hz with z1 | z1
   ·exact rb z z1
   ·have:z=qv:=by simpa using z1
    rw[this];exact qB qv memq
  have s15:=s14.trans s5
  have e5:=s15 _ _ e1
  have ne:l≠D:=fun z=>by rw[z,s14 _ _ e1] at nl;cases nl
  have lz:=I1.length
  rw[List.length_take,lA] at lz
  refine⟨t,_,_,_,rfl,rfl,ht,rfl,e5,bH (by omega),hC _ _ ⟨(s1.trans s15).change hD,aC,?_⟩⟩
  have ee:(gZ X qs).take (i+1)=(gZ X qs).take i++[Mq.iw (row++[qv])]:=by
   rw[List.take_add_one]
   unfold gZ kW
   rw[List.getElem?_map,List.getElem?_zipWith,er,eq];rfl
  rw[ee]
  exact((I1.same s15).app (.cons ne hl .nil)).upd
 rintro zs H1 ⟨s1,e1,I1⟩
 rw[show min us.length bs.length=(gZ X qs).length by omega,List.take_length] at I1
 have bits4:bw n X.length≤9000:=Nat.le_trans hnb (by decide)
 have wA:∀i,i < X.length→((gZ X qs).getD i []).length=X.length+1:=fun i hi=>by
  rw[tZ ql hi,rQ,List.length_append,hw _ (List.mem_of_getElem? (uI hi))];rfl
 refine⟨_,rfl,_,rfl,D,D,zs,gZ X qs,X.length,X.length+1,n,fun R=>Mq.KI X.length (Mq.at2 (gZ X qs)) R∧Mq.KJ X.length (Mq.at2 (gZ X qs)) R,by rw[lu];rfl,SqL.of e1,I1,lA,wA,by omega,by omega,hBd,hn1,by omega,by omega,⟨fun Φ _ hz=>hz,fun Φ _ hz=>hz⟩,Nh,fun d lE zE R' rank pivot sign H2 s2 nd nlE ed el IE SE bE bp LE=>?_⟩
 obtain⟨g1',g2',g3',g4'⟩:=Bc ed
 have s02:=s1.trans s2
 have wr:=Ln xP qP ql hw SE
 refine⟨_,rfl,d,_,rfl,g2',_,rfl,_,_,rfl,rfl,_,rfl,oH (fun e=>?_) (fun e=>?_)⟩
 ·-- lame
  have hr':rank < X.length:=by simp at e;omega
  have hz:wgt X=0:=by
   rcases wr with z | z
   ·exact z.2
   ·omega
  exact absurd hz hz0
 ·-- whole
  have hr':rank=X.length:=by
   rcases wr with z | z
   ·simp at e;omega
   ·exact z.1
  have hz:wgt X≠0:=by
   rcases wr with z | z
   ·omega
   ·exact z.2
  subst hr'
  have dn:=SE.dne
  have pn:pivot≠0:=fun z=>dn (by rw[z];simp)
  have lzE:=IE.length
  rw[SE.len] at lzE
  refine⟨_,rfl,d,_,rfl,g1',lE,rfl,⟨_,SqL.of el⟩,fun D2 hD2=>?_⟩
  have sD2:=aH hD2 (.lst [])
  refine fZ (xs:=zE) (fun i ws H'=>bC H2 H'∧H' D2=some (.lst ws)∧Fqs K H' ws ((List.range i).map fun i=>Mq.red (Mq.ent R' i X.length) pivot)) ⟨sD2,aC,.nil⟩ (fun i ws H' h=>h.2.1) (fun i ws H' _ h=>h.1.seq (SqL.of el)) ?_ ?_
  ·rintro i ws x H3 hx ⟨s3,e3,F3⟩ C hC
   have hi:i < X.length:=by have:=(List.getElem?_eq_some_iff.mp hx).1;omega
   obtain⟨u,eu,nu,hu2⟩:=IE.at (i:=i) (by rw[SE.len];exact hi)
   have exu:x=.ref u:=by rw[eu] at hx;cases hx;rfl
   subst exu
   have wid:=SE.wid i hi
   have lz:=F3.length
   rw[List.length_map,List.length_range] at lz
   have ea:=bZ (jQ (l:=R'.getD i []) (i:=X.length) (by omega))
   rw[← lu] at ea
   refine⟨gH.1,gH.2,gJ ?_⟩
   refine⟨_,rfl,_,rfl,u,_,_,_,rfl,rfl,SqL.of (s3 _ _ hu2),ea,?_⟩
   rw[lu]
   refine⟨_,rfl,d,_,rfl,Bc (s3 _ _ ed) |>.2.2.1,_,_,bw n X.length,rfl,pn,bp,bits4,fun r H4 s4 e4=>?_⟩
   have eD:=s4 _ _ e3
   refine⟨eD,bH (by omega),hC _ _ ⟨(s3.trans s4).change hD2,aC,?_⟩⟩
   rw[List.range_succ,List.map_append]
   exact((F3.same s4).app (.cons (Fq.of e4) .nil)).upd eD
  rintro ws H3 ⟨s3,e3,F3⟩
  rw[lzE] at F3
  have gd:∀j,j < X.length→((List.range X.length).map fun i=>Mq.red (Mq.ent R' i X.length) pivot).getD j Mq.z0=Mq.red (Mq.ent R' j X.length) pivot:=fun j hj=>by
   rw[List.getD_eq_getElem?_getD,List.getElem?_map,List.getElem?_range hj];rfl
  refine q D2 ws _ H3 (s02.trans s3) (s02.free hD2) e3 F3 ⟨⟨by simp,fun p hp=>?_,fun p hp=>?_,fun i hi=>?_⟩,fun v hv j hj=>?_⟩ (Pi pn bp fun p hp=>by obtain⟨i,hi,rfl⟩:=List.mem_map.mp hp;exact⟨_,bE i X.length,rfl⟩)
  ·obtain⟨i,_,rfl⟩:=List.mem_map.mp hp
   exact Mq.gU pn
  ·obtain⟨i,hi,rfl⟩:=List.mem_map.mp hp
   have le:=Mq.kD (t:=Mq.ent R' i X.length) pn
   exact⟨((bE i X.length).le le.1).mono bits4,(bp.le le.2).mono bits4⟩
  ·rw[← Uz xP qP ql hw LE.1 SE hi]
   refine Mq.aK fun j hj=>?_
   rw[gd j hj,Mq.lP pn];rfl
  ·rw[gd j hj,Mq.lP pn,← Ue xP qP ql hw LE.2 SE hv hj];rfl
abbrev wHo:Kd→Bool:=fun k=>inV (.str k.wd) [.str "hold"]
def Kb (CN:Addr) (K:PySem.W.Frag):Sp:=fun vs H Q _=>∃(n l:Addr) (m:Nat) (ds:List RD),vs=[.ref n]∧cX CN K H n l (m:Int) ds∧(∀d∈ds,cQ (m:Int) d.2.1 d.2.2.1)∧1≤m∧m≤20∧ds.length≤40∧(eO wHo (skl ds) ds.length).2=[]∧Ii m ds=[]∧∀H',bC H H'→Q .non H'
abbrev Gr:Stmt:=top 67
theorem Jw:aS ["net","held","points"] ["net"] (aD Gr):=⟨rfl,rfl,rfl,by decide +kernel,rfl,by decide +kernel,by decide +kernel⟩
theorem Su {dV:Value} (F:cB K "refuse_unanswered" "refuse_unanswered" Gr dV f fd)
  {CN:Addr} (ml:mg "len"=none)
  (G1:aP P w K mg base CX0 5 g1 gd1 ["net","words"] (Ec CN K)) (b1:aR K gd1 ["net","words"] []) (k1:PySem.W.keepIn K (.ref g1)=true) (m1:mg "rings"=some (.ref g1))
  (G2:aP P w K mg base CX0 6 g2 gd2 ["net"] (Fu CN K)) (b2:aR K gd2 ["net"] []) (k2:PySem.W.keepIn K (.ref g2)=true) (m2:mg "floating"=some (.ref g2)) :
  aP P w K mg base CX 7 f fd ["net"] (Kb CN K):=by
 refine F.ok Jw (fun vs H Q E h=>?_) (fun cdv A outer s H vs Q E hr h=>?_)
 ·obtain⟨n,l,m,ds,rfl,nt,pt,mo,m20,h40,hR,hF,q⟩:=h
  rfl
 obtain⟨n,l,m,ds,rfl,nt,pt,mo,m20,h40,hR,hF,q⟩:=h
 have r5:=hr.mono (show 5≤6 by omega)
 refine⟨_,(aB (aT (i:=1) Jw.nd rfl (Or.inl rfl) (aI G1 r5 rfl m1 k1 b1 .nil aL (aA (pv 0) (aA (cS (aA cI aE)) aE))))
  (aB (cD (bG Aj (cK bO rfl ml PySem.boot_len (aA (pv 1) aE)) aF (bL _)) (aG fE) bK)
  (aB (aT (i:=2) Jw.nd rfl (Or.inl rfl) (aI G2 hr rfl m2 k2 b2 .nil aL (aA (pv 0) aE)))
  (aG (cD (bG Aj (cK bO rfl ml PySem.boot_len (aA (pv 2) aE)) aF (bL _)) (aG fE) bK))))),?_⟩
 refine⟨_,rfl,by show 1≤sizeLine;decide,fun L hL=>?_⟩
 have s1:=aH hL (.lst [.str "hold"])
 have e1:upd H L (.lst [.str "hold"]) L=some (.lst [.str "hold"]):=aC
 generalize upd H L (.lst [.str "hold"])=H1 at s1 e1 ⊢
 refine⟨n,l,.ref L,m,ds,wHo,rfl,nt.same s1,pt,m20,h40,.seq (SqL.of e1) rfl,fun r us H2 s2 nr er G nx=>?_⟩
 rw[hR] at G
 have lu:us=[]:=List.eq_nil_of_length_eq_zero (by have:=G.l;simpa using this)
 subst lu
 refine⟨_,rfl,r,_,rfl,.inl (SqL.of er),_,_,rfl,rfl,_,rfl,L2.ifF rfl ?_⟩
 have s02:=s1.trans s2
 refine⟨_,rfl,n,l,m,ds,rfl,nt.same s02,pt,mo,m20,by omega,fun l' H3 s3 nl e3=>?_⟩
 rw[hF] at e3
 refine⟨_,rfl,l',_,rfl,.inl (SqL.of e3),_,_,rfl,rfl,_,rfl,L2.ifF rfl ?_⟩
 exact q H3 (s02.trans s3)
end
end K66
set_option maxHeartbeats 1000000
namespace L2
open PySem PySem.Spec PyProof.Rows Shp
abbrev wd (m:Nat) (ds:List RD):Nat:=m - 1+bU ds
structure Sv (m:Nat) (ds:List RD) (r:Nat→Rat) (v:Nat→Rat):Prop where
 z:v 0=0
 e:∀i,i < wd m ds→(Mq.rs (wd m ds) fun j=>eqM m ds (i+1) (j+1)*v (j+1))=r (i+1)
def un (k x:Nat):Rat:=if x=k then 1 else 0
abbrev kA (m:Nat) (ds:List RD) (a b:Nat) (v:Nat→Rat):Prop:=Sv m ds (fun x=>un a x - un b x) v
section
variable {m:Nat} {ds:List RD} {r v:Nat→Rat}
theorem Sv.uni (o:Nof m ds) {u:Nat→Rat} (h:Sv m ds r v) (g:Sv m ds r u):∀j,j≤wd m ds→v j=u j:=fun j hj=>by
 by_cases c:j=0
 ·rw[c,h.z,g.z]
 ·have:=o.uni (v:=fun j=>v (j+1)) (w:=fun j=>u (j+1)) (r:=fun i=>r (i+1)) h.e g.e (j - 1) (by unfold wd at hj;omega)
  rwa [show j - 1+1=j by omega] at this
theorem Sv.row (o:Nof m ds) (h:Sv m ds r v) {x:Nat} (x1:1≤x) (xw:x≤wd m ds):nt v m ds x+hw v m ds x=r x:=by
 have e:=h.e (x - 1) (by omega)
 have m1:=o.m1
 rw[show x - 1+1=x by omega] at e
 have c:∀j,j < wd m ds→eqM m ds x (j+1)*v (j+1)=v (j+1)*eqM m ds (j+1) x:=fun j _=>by rw[tV,Rat.mul_comm]
 rw[Mq.aK c,Ct (m:=m) (u:=v) h.z (by unfold wd;omega) x ds m o.pt m1 (by unfold wd;omega)] at e
 exact e
theorem Sv.pt (o:Nof m ds) (h:Sv m ds r v) {x:Nat} (x1:1≤x) (xm:x < m):nt v m ds x=r x:=by
 have:=h.row o x1 (by unfold wd;omega)
 rw[Du ds m xm] at this
 grind
theorem Sv.hold (o:Nof m ds) (h:Sv m ds r v) {x:Nat} (xm:m≤x) (xw:x≤wd m ds):hw v m ds x=r x:=by
 have:=h.row o (by have:=o.m1;omega) xw
 rw[Ch ds m o.pt xm] at this
 grind
theorem Vm (o:Nof m ds):Mq.rs m (fun p=>nt v m ds p)=0:=by
 have:=So (u:=v) (m:=m) (fun _=>1) ds m o.pt (fun _ _ _=>rfl)
 rw[← this]
 exact Mq.aK fun p _=>by grind
theorem Bg {n k:Nat} (hk:k < n) (F:Nat→Rat):Mq.rs n (fun p=>F p*un k p)=F k:=by
 have:∀p,p < n→F p*un k p=if k=p then F p else 0:=fun p _=>by
  unfold un
  by_cases c:p=k
  ·rw[if_pos c,if_pos c.symm];grind
  ·rw[if_neg c,if_neg (fun z=>c z.symm)];grind
 rw[Mq.aK this,Mq.xH,if_pos hk]
theorem Ly {n k:Nat} (hk:k < n):Mq.rs n (fun p=>un k p)=1:=by
 have:=Bg hk (fun _=>1)
 rw[← this]
 exact Mq.aK fun p _=>by grind
theorem kA.all {a b:Nat} (o:Nof m ds) (h:kA m ds a b v) (ha:a < m) (hb:b < m):∀p,p < m→nt v m ds p=un a p - un b p:=fun p hp=>by
 by_cases c:p=0
 ·have s:=Vm (v:=v) o
  have t:Mq.rs m (fun p=>un a p - un b p)=0:=by
   have e:∀p,p < m→un a p - un b p=un a p + - un b p:=fun p _=>by grind
   rw[Mq.aK e,Mq.cZ,Mq.iM,Ly ha,Ly hb];grind
  obtain⟨k,rfl⟩:∃k,m=k+1:=⟨m - 1,by omega⟩
  rw[Mq.oJ] at s t
  have e:Mq.rs k (fun i=>nt v (k+1) ds (i+1))=Mq.rs k (fun i=>un a (i+1) - un b (i+1)):=Mq.aK fun i hi=>h.pt o (by omega) (by omega)
  rw[e] at s
  rw[c];grind
 ·exact h.pt o (by omega) hp
theorem kA.holds {a b:Nat} (o:Nof m ds) (h:kA m ds a b v) (ha:a < m) (hb:b < m):∀d∈ds,d.1=.ho→v d.2.1.toNat=v d.2.2.1.toNat:=
 yR (u:=v) ds m fun y hy hl=>by
  rw[h.hold o hy (by have:=o.m1;unfold wd;omega)]
  unfold un
  rw[if_neg (by omega),if_neg (by omega)];grind
theorem kA.eg {a b:Nat} (o:Nof m ds) (h:kA m ds a b v) (ha:a < m) (hb:b < m):L2.eg v m ds=v a - v b:=by
 rw[← Lo (u:=v) (m:=m) ds m o.pt]
 have e:∀p,p < m→v p*nt v m ds p=v p*un a p + - (v p*un b p):=fun p hp=>by rw[h.all o ha hb p hp];grind
 rw[Mq.aK e,Mq.cZ,Mq.iM,Bg ha,Bg hb];grind
theorem kA.nn {a b:Nat} (o:Nof m ds) (h:kA m ds a b v) (ha:a < m) (hb:b < m):0≤v a - v b:=by
 rw[← h.eg o ha hb]
 exact(Gh (u:=v) ds m o.pos (h.holds o ha hb)).1
end
end L2
set_option maxHeartbeats 2000000
namespace L2
open PySem PySem.Spec PyProof.Rows
theorem cL.seqI {K:PySem.W.Frag} {t a C dx:Addr} {fs:List (Str × V)} {H H':Hp} {xs:List V} (ht:H t=some (.ins C dx fs)) (e:cL t H H') (h:SqL K H a xs):SqL K H' a xs:=by
 rcases h with (h | ⟨u,h⟩) | h
 ·exact .inl (.inl (e _ _ h (fY h ht (fun z=>by cases z))))
 ·exact .inl (.inr ⟨u,e _ _ h (fY h ht (fun z=>by cases z))⟩)
 ·exact .inr h
theorem cL.seqTI {K:PySem.W.Frag} {t a C dx:Addr} {fs:List (Str × V)} {H H':Hp} {xs:List V} (ht:H t=some (.ins C dx fs)) (e:cL t H H') (h:SqT K H a xs):SqT K H' a xs:=by
 rcases h with (h | ⟨u,h⟩) | h
 ·exact .inl (.inl (e _ _ h (fY h ht (fun z=>by cases z))))
 ·exact .inl (.inr ⟨u,e _ _ h (fY h ht (fun z=>by cases z))⟩)
 ·exact .inr h
theorem cL.fqsI {K:PySem.W.Frag} {t C dx:Addr} {fs:List (Str × V)} {H H':Hp} (ht:H t=some (.ins C dx fs)) (e:cL t H H'):∀{xs:List V} {ps:List Mq.Q2},Fqs K H xs ps→Fqs K H' xs ps
 |_,_,.nil=>.nil
 |_,_,.cons f q=>.cons (cL.seqTI ht e f) (cL.fqsI ht e q)
theorem glo:¬(("levels":Str) = "flows"):=by decide +kernel
def kE (p l a:Addr):List (Str × V):=dY "flows" (.ref a) (dY "levels" (.ref l) (dY "lines" (.ref p) []))
theorem xV (p l a:Addr):(kE p l a).lookup ("levels":Str)=some (.ref l):=by
 unfold kE
 rw[bM,if_neg glo,bM,if_pos rfl]
theorem Ob (p l a:Addr) {x:Str} (h1:¬x = "lines") (h2:¬x = "levels") (h3:¬x = "flows"):(kE p l a).lookup x=none:=by
 unfold kE
 rw[bM,if_neg h3,bM,if_neg h2,bM,if_neg h1]
 rfl
structure AB (K:PySem.W.Frag) (mg:Str→Option Value) (CA:Addr):Prop where
 cl:Cls K CA
 nI:gE K CA "lines"
 nE:gE K CA "levels"
 nO:gE K CA "flows"
 mA:mg "Answer"=some (.ref CA)
structure Sn (CA:Addr) (K:PySem.W.Frag) (H:Hp) (a:Addr) (lv fl:List Mq.Q2):Prop where
 e:∃(dx li le fo:Addr) (xs ys:List V),H a=some (.ins CA dx (kE li le fo))∧SqL K H le xs∧Fqs K H xs lv∧SqL K H fo ys∧Fqs K H ys fl
end L2
set_option maxHeartbeats 4000000
namespace L2
open PySem PySem.Spec PyProof.Rows Shp
def Ov (lv hs:List Mq.Q2) (t:Nat) (d:RD):Mq.Q2:=Ho d.1 (flF lv d) (if d.1=.ho then hs.getD t Mq.z0 else (0,1)) d.2.2.2
def uE (lv hs:List Mq.Q2):Nat→List RD→List Mq.Q2
 |_,[]=>[]
 |t,d :: r=>Ov lv hs t d :: uE lv hs (t+cA d.1) r
theorem uY (lv hs:List Mq.Q2) (d:RD):∀(ds:List RD) (t:Nat),uE lv hs t (ds++[d])=uE lv hs t ds++[Ov lv hs (t+bU ds) d]
 | [],t=>rfl
 |e :: r,t=>by
  show _ :: uE lv hs (t+cA e.1) (r++[d])=_ :: (uE lv hs (t+cA e.1) r++_)
  rw[uY lv hs d r,fR,Nat.add_assoc]
theorem zG (lv hs:List Mq.Q2):∀(ds:List RD) (t:Nat),(uE lv hs t ds).length=ds.length
 | [],_=>rfl
 |d :: r,t=>by show (uE lv hs _ r).length+1=r.length+1;rw[zG lv hs r]
def lvS (m:Nat) (sol:List Mq.Q2):List Mq.Q2:=(0,1) :: sol.take (m - 1)
structure Tf (l CA:Addr) (K:PySem.W.Frag) (H:Hp) (a:Addr) (lv fl:List Mq.Q2):Prop where
 e:∃(dx li le fo:Addr) (xs ys:List V),H a=some (.ins CA dx (kE li le fo))∧SqL K H le xs∧Fqs K H xs lv∧SqL K H fo ys∧Fqs K H ys fl∧le≠l∧fo≠l
section
variable {l CA a:Addr} {K:PySem.W.Frag} {H H':Hp} {lv fl:List Mq.Q2}
theorem Tf.at (h:Tf l CA K H a lv fl):Sn CA K H a lv fl:=by
 obtain⟨dx,li,le,fo,xs,ys,h1,h2,h3,h4,h5,_,_⟩:=h.e
 exact⟨dx,li,le,fo,xs,ys,h1,h2,h3,h4,h5⟩
end
theorem xC {p:Mq.Q2} (l:Mq.Low p) {a L:Int} {b:Nat} (hL:1≤L) (LB:Mq.B b L) (ab:Mq.B b a) (h:Mq.val p=(a:Rat) / (L:Rat)):Mq.Bd b p∧p.2 ∣ L:=by
 obtain⟨d,t⟩:=Mq.zZ l hL h
 refine⟨⟨ab.le t,LB.le ?_⟩,d⟩
 have:=Int.le_of_dvd (by omega) d
 have:=l.pos
 omega
end L2
set_option maxHeartbeats 1000000
namespace L2
open PySem PySem.Spec PyProof.Rows Shp
structure EqB (m b:Nat) (L:Int) (ds:List RD):Prop where
 o:Nof m ds
 w26:wd m ds≤26
 b1:1≤b
 hb:10+b+b*(wd m ds+1)≤8000
 hbw:bw b (wd m ds)≤4000
 L1:1≤L
 LB:Mq.B b L
 eM:∀i j,∃a:Int,Mq.B b a∧eqM m ds (i+1) (j+1)=(a:Rat) / (L:Rat)
def Q01 (p:Mq.Q2):Prop:=Mq.Low p∧p.2=1∧p.1.natAbs≤1
theorem Q01.bd {p:Mq.Q2} {b:Nat} (h:Q01 p) (b1:1≤b):Mq.Bd b p:=by
 obtain⟨_,e,l⟩:=h
 have:(2:Nat) ^ 1≤2 ^ b:=Nat.pow_le_pow_right (by decide) b1
 exact⟨by show p.1.natAbs < 2 ^ b;omega,by show p.2.natAbs < 2 ^ b;rw[e];show 1 < 2 ^ b;omega⟩
theorem Q01.ov {p:Mq.Q2} {b:Nat} {L:Int} (h:Q01 p) (L1:1≤L) (LB:Mq.B b L):p.2 ∣ L∧∃a:Int,Mq.B b a∧Mq.val p=(a:Rat) / (L:Rat):=by
 obtain⟨_,e,l⟩:=h
 refine⟨by rw[e];exact Int.one_dvd _,p.1*L,LB.le ?_,?_⟩
 ·rw[Int.natAbs_mul]
  calc p.1.natAbs*L.natAbs≤1*L.natAbs:=Nat.mul_le_mul_right _ l
   _=L.natAbs:=Nat.one_mul _
 ·have:=Mq.qJ L1
  unfold Mq.val
  rw[e,Rat.intCast_mul,show ((1:Int):Rat)=1 by rfl]
  grind
def uP (sol:List Mq.Q2) (x:Nat):Rat:=if x=0 then 0 else Mq.val (sol.getD (x - 1) Mq.z0)
section
variable {m b N:Nat} {L:Int} {ds:List RD} {X:List (List Mq.Q2)} {Y qs ps:List Mq.Q2}
theorem EqB.cell (h:EqB m b L ds) (e:xQ m ds N X Y):∀row∈X,(∀p∈row,Mq.Bd b p∧p.2 ∣ L∧∃a:Int,Mq.B b a∧Mq.val p=(a:Rat) / (L:Rat))∧row.length=X.length:=fun row hr=>by
 refine⟨fun p hp=>?_,by rw[e.x.w row hr,e.x.h]⟩
 obtain⟨i,hi⟩:=List.getElem?_of_mem hr
 obtain⟨j,hj⟩:=List.getElem?_of_mem hp
 have ep:p=iT X i j:=by
  unfold iT
  rw[List.getD_eq_getElem?_getD (l:=X),hi]
  show p=row.getD j (0,1)
  rw[List.getD_eq_getElem?_getD,hj];rfl
 obtain⟨a,ab,ea⟩:=h.eM i j
 have ev:Mq.val p=(a:Rat) / (L:Rat):=by rw[ep,e.vx,ea]
 obtain⟨x,y⟩:=xC (e.x.l row hr p hp).1 h.L1 h.LB ab ev
 exact⟨x,y,a,ab,ev⟩
theorem EqB.pos (e:xQ m ds N X Y):Mq.fA X:=fun row hr p hp=>(e.x.l row hr p hp).1.pos
theorem EqB.wgt (h:EqB m b L ds) (e:xQ m ds N X Y):wgt X≠0:=by
 by_cases c:1≤X.length
 ·exact h.o.wgt_ne e (EqB.pos e) (fun row hr=>(h.cell e row hr).2) c
 ·have:X=[]:=List.eq_nil_of_length_eq_zero (by omega)
  subst this
  show (1:Rat)≠0
  decide
theorem EqB.sol (e:xQ m ds N X Y) (s:Ti X qs ps) {r:Nat→Rat} (vq:∀i,i < wd m ds→Mq.val (qs.getD i Mq.z0)=r (i+1)):Sv m ds r (uP ps):=by
 have lX:X.length=wd m ds:=e.x.h
 refine⟨if_pos rfl,fun i hi=>?_⟩
 rw[← vq i hi,← s.sum i (by omega),lX]
 refine Mq.aK fun j _=>?_
 unfold uP
 rw[if_neg (by omega),Nat.add_sub_cancel,Kg e]
end
theorem xD {m:Nat} {ps:List Mq.Q2} (hl:m - 1≤ps.length) {p:Nat} (hp:p < m):Mq.val ((lvS m ps).getD p (0,1))=uP ps p:=by
 unfold lvS uP
 by_cases c:p=0
 ·subst c
  rw[if_pos rfl]
  exact Mq.mG
 ·rw[if_neg c]
  obtain⟨q,rfl⟩:∃q,p=q+1:=⟨p - 1,by omega⟩
  rw[Nat.add_sub_cancel,List.getD_eq_getElem?_getD,List.getElem?_cons_succ,List.getElem?_take_of_lt (by omega),← List.getD_eq_getElem?_getD]
theorem Dm {m:Nat} {ps:List Mq.Q2} (m1:1≤m) (hl:m - 1≤ps.length):(lvS m ps).length=m:=by
 unfold lvS
 rw[List.length_cons,List.length_take];omega
theorem Dt {m:Nat} {ps:List Mq.Q2} (h:Mq.iL ps):Mq.iL (lvS m ps):=fun p hp=>by
 rcases List.mem_cons.mp hp with z | z
 ·rw[z];exact⟨by decide,by decide⟩
 ·exact h p (List.mem_of_mem_take z)
theorem Nx {m n:Nat} {ps:List Mq.Q2} (h:Ovr n ps):Ovr n (lvS m ps):=by
 obtain⟨D,D1,bD,al⟩:=h.e
 refine⟨D,D1,bD,fun p hp=>?_⟩
 rcases List.mem_cons.mp hp with z | z
 ·refine⟨0,Nat.two_pow_pos _,?_⟩
  rw[z,Mq.mG,Rat.div_def]
  show (0:Rat)=((0:Int):Rat)*_
  rw[show ((0:Int):Rat)=0 by rfl];grind
 ·exact al p (List.mem_of_mem_take z)
theorem Ovr.minus {n:Nat} {ps:List Mq.Q2} (h:Ovr n ps) (low:Mq.iL ps) {p q:Mq.Q2} (hp:p∈ps) (hq:q∈ps):Mq.Bd (n+1) (Mq.minus p q)∧Mq.Bd n p∧Mq.Bd n q:=by
 obtain⟨D,D1,bD,al⟩:=h.e
 obtain⟨t,bt,et⟩:=al p hp
 obtain⟨s,bs,es⟩:=al q hq
 have lp:=low p hp
 have lq:=low q hq
 refine⟨?_,(xC lp D1 bD bt et).1,(xC lq D1 bD bs es).1⟩
 refine(xC (Mq.jE lp.pos lq.pos) D1 (bD.mono (by omega)) (bt.sub bs) ?_).1
 rw[Mq.lU lp.pos lq.pos,et,es,Rat.intCast_sub,Rat.div_def,Rat.div_def,Rat.div_def];grind
def Sh (CN:Addr) (K:PySem.W.Frag):Sp:=fun vs H Q _=>∃(n l g r D:Addr) (H0:Hp) (m b N:Nat) (L:Int) (ds:List RD) (us ys:List V) (X:List (List Mq.Q2)) (Y qs:List Mq.Q2),vs=[.ref n,.ref g,.ref r]∧cX CN K H n l (m:Int) ds∧SqL K H g us∧Fmd K H0 D H us X∧xQ m ds N X Y∧EqB m b L ds∧SqL K H r ys∧Fqs K H ys qs∧qs.length=X.length∧(∀p∈qs,Q01 p)∧
 ∀t zs ps H',bC H H'→H' t=some (.lst zs)→Fqs K H' zs (lvS m ps)→Ti X qs ps→Ovr (bw b (wd m ds)) ps→Q (.ref t) H'
structure Cw (CN:Addr) (K:PySem.W.Frag) (H:Hp) (n l:Addr) (m b:Nat) (kb:Nat→Nat) (L:Int) (ds:List RD):Prop where
 nt:cX CN K H n l (m:Int) ds
 ok:∀i d,ds[i]?=some d→uG (m:Int) d∧Mq.Bd (kb i) d.2.2.2
 m20:m≤20
 h40:ds.length≤40
 cu:jO kb ds.length+30≤8900
 eb:EqB m b L ds
theorem Cw.same {CN:Addr} {K:PySem.W.Frag} {H H':Hp} {n l:Addr} {m b:Nat} {kb:Nat→Nat} {L:Int} {ds:List RD} (s:bC H H') (h:Cw CN K H n l m b kb L ds):Cw CN K H' n l m b kb L ds:=⟨h.nt.same s,h.ok,h.m20,h.h40,h.cu,h.eb⟩
def Sm (CN:Addr) (K:PySem.W.Frag):Sp:=fun vs H Q _=>∃(n l:Addr) (m b:Nat) (kb:Nat→Nat) (L:Int) (ds:List RD) (s g:Nat),vs=[.ref n,.int (s:Int),.int (g:Int)]∧Cw CN K H n l m b kb L ds∧s < m∧g < m∧
 ∀t zs hp v H',bC H H'→H' t=some (.lst zs)→Fqs K H' zs hp→hp.length=m→Mq.iL hp→Ovr (bw b (wd m ds)) hp→kA m ds g s v→(∀p,p < m→Mq.val (hp.getD p (0,1))=v p)→Q (.ref t) H'
def Nb (CN:Addr) (K:PySem.W.Frag):Sp:=fun vs H Q _=>∃(n l:Addr) (m b:Nat) (kb:Nat→Nat) (L:Int) (ds:List RD) (x y:Nat),vs=[.ref n,.int (x:Int),.int (y:Int)]∧Cw CN K H n l m b kb L ds∧x < m∧y < m∧
 ∀r p v H',bC H H'→Fq K H' r p→Mq.Low p→Mq.Bd (bw b (wd m ds)+1) p→kA m ds x y v→Mq.val p=v x - v y→Q (.ref r) H'
end L2
set_option maxHeartbeats 4000000
namespace K66
open PySem L2 Shp
section
variable {P:Program} {w:World} {K:PySem.W.Frag} {mg:Str→Option Value} {base:Heap} {f g1 g2 g3 g4 g5 g6 g7 g8:Addr} {fd gd1 gd2 gd3 gd4 gd5 gd6 gd7 gd8:FuncData} {CX:CXT}
variable {CR:Addr} {CK:Kd→Addr} {fW fJ fT fS:Kd→Addr} {fdW fdJ fdT fdS:Kd→FuncData}
theorem xK {K:PySem.W.Frag} {H0 H:Hp} {D:Addr}:∀{us:List V} {X:List (List Mq.Q2)},Fms K H0 H us X→(∀x∈us,x≠.ref D)→Fmd K H0 D H us X
 | [],[],_,_=>.nil
 | [],_ :: _,h,_=>by have:=h.l;simp at this
 |_ :: _,[],h,_=>by have:=h.l;simp at this
 |x :: us,ps :: X,h,n=>by
  obtain⟨a,xs,rfl,n0,h1,h2⟩:=h.r 0 x ps rfl rfl
  exact .cons n0 (fun z=>n _ (List.mem_cons_self ..) (by rw[z])) h1 h2 (xK ⟨by have:=h.l;simpa using this,fun i y qs e1 e2=>h.r (i+1) y qs (by simpa using e1) (by simpa using e2)⟩ fun y hy=>n y (List.mem_cons_of_mem _ hy))
theorem Jv (xs:List V) (k:Nat):kB xs none (some (k:Int))=xs.take k:=by
 unfold kB
 have h1:HT.sIx xs.length 0 none=0:=rfl
 have h2:HT.sIx xs.length xs.length (some (k:Int))=min k xs.length:=by simp[HT.sIx];omega
 rw[h1,h2,List.drop_zero,Nat.sub_zero,List.take_eq_take_iff];omega
theorem cL.rtsI {K:PySem.W.Frag} {t C dx:Addr} {fs:List (Str × V)} {H H':Hp} (ht:H t=some (.ins C dx fs)) (e:cL t H H'):∀{xs:List V} {ds:List RD},Rts K H xs ds→Rts K H' xs ds
 |_,_,.nil=>.nil
 |_,_,.cons h f q=>.cons (cL.seqTI ht e h) (cL.seqTI ht e f) (cL.rtsI ht e q)
theorem cX.xI {CN C dx:Addr} {K:PySem.W.Frag} {fs:List (Str × V)} {H H':Hp} {n l q:Addr} {m:Int} {ds:List RD} (hq:H q=some (.ins C dx fs)) (e:cL q H H') (ne:n≠q) (h:cX CN K H n l m ds):cX CN K H' n l m ds:=
 let ⟨⟨dx,a⟩,ts,b,c⟩:=h;⟨⟨dx,e _ _ a ne⟩,ts,e _ _ b (fY b hq (fun z=>by cases z)),cL.rtsI hq e c⟩
theorem Ux {CN C dx:Addr} {K:PySem.W.Frag} {H:Hp} {n l q:Addr} {m:Int} {ds:List RD} (hq:H q=some (.ins C dx [])) (h:cX CN K H n l m ds):n≠q:=fun z=>by
 obtain⟨dn,a⟩:=h.ob
 rw[z,hq] at a
 injection a with a
 injection a with _ _ a
 unfold mI at a
 have:=bM ("kept":Str) "kept" (.ref l) (dY "point_count" (.int m) [])
 rw[← a,if_pos rfl] at this
 cases this
theorem Fqs.drop {K:PySem.W.Frag} {H:Hp}:∀(k:Nat) {xs:List V} {ps:List Mq.Q2},Fqs K H xs ps→Fqs K H (xs.drop k) (ps.drop k)
 |0,_,_,h=>h
 |_+1,_,_,.nil=>.nil
 |k+1,_,_,.cons _ q=>Fqs.drop k q
theorem Fqs.take {K:PySem.W.Frag} {H:Hp}:∀(k:Nat) {xs:List V} {ps:List Mq.Q2},Fqs K H xs ps→Fqs K H (xs.take k) (ps.take k)
 |0,_,_,h=>.nil
 |_+1,_,_,.nil=>.nil
 |k+1,_,_,.cons f q=>.cons f (Fqs.take k q)
theorem Ff (k:Kd):wHo k=true↔k=.ho:=by
 cases k
 ·exact⟨fun h=>absurd h (by decide +kernel),fun h=>by cases h⟩
 ·exact⟨fun h=>absurd h (by decide +kernel),fun h=>by cases h⟩
 ·exact⟨fun _=>rfl,fun _=>by decide +kernel⟩
theorem Dr {m:Nat} {ds:List RD} (o:Nof m ds):Ii m ds=[]:=by
 unfold Ii
 rw[List.filter_eq_nil_iff.mpr fun p hp=>?_]
 ·rfl
 ·have pm:=List.mem_range.mp hp
  rw[(Fn o.pt pm (by have:=o.m1;omega)).mpr (o.cn p pm).symm]
  simp
theorem Eh {H:Hp} {x dx C:Addr} (hx:H x=none) (hd:H dx=none):bC H (upd (upd H dx (.own x)) x (.ins C dx [])):=fun b o h=>by
 have n1:b≠x:=fun z=>by rw[z,hx] at h;cases h
 have n2:b≠dx:=fun z=>by rw[z,hd] at h;cases h
 rw[aW n1,aW n2];exact h
abbrev Hq:Stmt:=top 73
theorem Wz:aS ["net","matrix","right"] ["net","matrix","right"] (aD Hq):=⟨rfl,rfl,rfl,by decide +kernel,rfl,by decide +kernel,by decide +kernel⟩
theorem Td {dV:Value} (F:cB K "heights_by" "heights_by" Hq dV f fd)
  {CN:Addr} (NTx:NT K mg CN) {aN:Addr} (fN:∀H,Fq K H aN (0,1)) (mNO:mg "NOUGHT"=some (.ref aN))
  {gMa:Addr} {gdMa:FuncData} (GMa:aP P w K mg base CX0 1 gMa gdMa ["self"] (oV CN K)) (bMa:aR K gdMa ["self"] []) (mMa:gD K CN "many" gMa)
  (G1:aP P w K mg base CX0 5 g1 gd1 ["matrix","right"] (pE K)) (b1:aR K gd1 ["matrix","right"] []) (k1:PySem.W.keepIn K (.ref g1)=true) (m1:mg "solved"=some (.ref g1)) :
  aP P w K mg base CX 6 f fd ["net","matrix","right"] (Sh CN K):=by
 refine F.ok Wz (fun vs H Q E h=>?_) (fun cdv A outer s H vs Q E hr h=>?_)
 ·obtain⟨n,l,g,r,D,H0,m,b,N,L,ds,us,ys,X,Y,qs,rfl,nt,hg,FX,EO,EB,hr0,FQ,lq,h01,q⟩:=h
  rfl
 obtain⟨n,l,g,r,D,H0,m,b,N,L,ds,us,ys,X,Y,qs,rfl,nt,hg,FX,EO,EB,hr0,FQ,lq,h01,q⟩:=h
 have r1:=hr.mono (show 1≤5 by omega)
 refine⟨_,(aG (aY (aV pD (cS (aA (dA (v:=.ref aN) rfl mNO rfl) aE)) (fQ iA (aI G1 hr rfl m1 k1 b1 .nil aL (aA (pv 1) (aA (pv 2) aE))) iQ (fU (aV iI (fF (pv 0) NTx.cl mMa GMa r1 bMa .nil aL) aF)))))),?_⟩
 have lX:X.length=wd m ds:=EO.x.h
 have lw:wd m ds=m - 1+bU ds:=rfl
 have mo:=EB.o.m1
 have w26:=EB.w26
 refine⟨by show 1≤sizeLine;decide,fun L1 hL1=>?_⟩
 have s1:=aH hL1 (.lst [.ref aN])
 have e1:upd H L1 (.lst [.ref aN]) L1=some (.lst [.ref aN]):=aC
 generalize upd H L1 (.lst [.ref aN])=H1 at s1 e1 ⊢
 refine⟨_,rfl,_,rfl,g,r,D,H0,us,ys,X,qs,b,b,rfl,s1.seq hg,FX.same s1,s1.seq hr0,FQ.same s1,lq,fun p hp=>(h01 p hp).1,fun p hp=>(h01 p hp).bd EB.b1,EqB.pos EO,fun row hr=>⟨fun p hp=>((EB.cell EO row hr).1 p hp).1,(EB.cell EO row hr).2⟩,by omega,by rw[lX];exact EB.hb,Fo (EqB.pos EO) (fun p hp=>(h01 p hp).1.pos) lq (fun row hr p hp=>((EB.cell EO row hr).1 p hp).2) (fun p hp=>(h01 p hp).ov EB.L1 EB.LB) EB.L1,EB.b1,by rw[lX];exact Nat.le_trans EB.hbw (by decide),EB.wgt EO,fun kn zk ps H2 s2 nkn ekn Fk SU OV=>?_⟩
 rw[lX] at OV
 have s02:=s1.trans s2
 obtain⟨dn,hn⟩:=(nt.same s02).ob
 have lps:ps.length=X.length:=SU.len
 have lzk:=Fk.length
 refine⟨_,rfl,n,dn,_,rfl,hn,dX _ _ (by decide +kernel) (by decide +kernel),n,l,_,ds,rfl,nt.same s02,_,_,rfl,rfl,?_⟩
 have em:(m:Int) - 1=((m - 1:Nat):Int):=by omega
 refine⟨_,rfl,kn,zk,rfl,SqL.of ekn,fun S hS=>?_⟩
 rw[em,Jv]
 have s3:=aH hS (.lst (zk.take (m - 1)))
 have e3:upd H2 S (.lst (zk.take (m - 1))) S=some (.lst (zk.take (m - 1))):=aC
 generalize upd H2 S (.lst (zk.take (m - 1)))=H3 at s3 e3 ⊢
 refine⟨L1,S,_,_,rfl,rfl,(s2.trans s3) _ _ e1,e3,Nat.le_of_lt (bH (by rw[List.length_take];simp only[List.length_cons,List.length_nil];omega)),fun V1 hV1=>?_⟩
 have s4:=aH hV1 (.lst ([.ref aN]++zk.take (m - 1)))
 have e4:upd H3 V1 (.lst ([.ref aN]++zk.take (m - 1))) V1=some (.lst ([.ref aN]++zk.take (m - 1))):=aC
 generalize upd H3 V1 (.lst ([.ref aN]++zk.take (m - 1)))=H4 at s4 e4 ⊢
 exact q V1 _ ps H4 (s02.trans (s3.trans s4)) e4 (.cons (fN _) (Fqs.take _ (Fk.same (s3.trans s4)))) SU OV
theorem Wg (s g x:Nat):- dl s g x*Mq.val (1,1)=un g x - un s x:=by
 rw[Mq.Et]
 unfold dl un
 by_cases a:s=x<;>by_cases b:g=x
 ·rw[if_pos a,if_pos b,if_pos b.symm,if_pos a.symm];grind
 ·rw[if_pos a,if_neg b,if_neg (fun z=>b z.symm),if_pos a.symm];grind
 ·rw[if_neg a,if_pos b,if_pos b.symm,if_neg (fun z=>a z.symm)];grind
 ·rw[if_neg a,if_neg b,if_neg (fun z=>b z.symm),if_neg (fun z=>a z.symm)];grind
theorem Va (g s x:Nat):∃a:Int,a.natAbs≤1∧un g x - un s x=(a:Rat) / ((1:Int):Rat):=by
 have one:((1:Int):Rat)=1:=rfl
 unfold un
 by_cases a:x=g<;>by_cases b:x=s
 ·exact⟨0,by decide,by rw[if_pos a,if_pos b,one,show ((0:Int):Rat)=0 by rfl];grind⟩
 ·exact⟨1,by decide,by rw[if_pos a,if_neg b,one];grind⟩
 ·exact⟨-1,by decide,by rw[if_neg a,if_pos b,one,show ((-1:Int):Rat)=-1 by rfl];grind⟩
 ·exact⟨0,by decide,by rw[if_neg a,if_neg b,one,show ((0:Int):Rat)=0 by rfl];grind⟩
abbrev Ij:Stmt:=top 72
theorem Mg:aS ["net","start","goal","matrix","right"] ["net","start","goal"] (aD Ij):=⟨rfl,rfl,rfl,by decide +kernel,rfl,by decide +kernel,by decide +kernel⟩
theorem Th {dV:Value} (F:cB K "pushed_heights" "pushed_heights" Ij dV f fd)
  {CN:Addr} (T:RT K mg CR CK) (ml:mg "len"=none) {aN aO:Addr} (fN:∀H,Fq K H aN (0,1)) (mNO:mg "NOUGHT"=some (.ref aN)) (fO:∀H,Fq K H aO (1,1)) (mON:mg "ONE"=some (.ref aO))
  {gI:Addr} {gdI:FuncData} (GI:aP P w K mg base CX0 1 gI gdI ["self","start","goal","size"] (wW CK)) (bI:aR K gdI ["self","start","goal","size"] []) (MK:∀k,Mk K (CK k) gI)
  (G1:aP P w K mg base CX0 7 g1 gd1 ["net"] (By CN K)) (b1:aR K gd1 ["net"] []) (k1:PySem.W.keepIn K (.ref g1)=true) (m1:mg "equations"=some (.ref g1))
  (G2:aP P w K mg base CX0 5 g2 gd2 ["right","row"] (sY K CK)) (b2:aR K gd2 ["right","row"] []) (k2:PySem.W.keepIn K (.ref g2)=true) (m2:mg "enter_push"=some (.ref g2))
  (G3:aP P w K mg base CX0 6 g3 gd3 ["net","matrix","right"] (Sh CN K)) (b3:aR K gd3 ["net","matrix","right"] []) (k3:PySem.W.keepIn K (.ref g3)=true) (m3:mg "heights_by"=some (.ref g3)) :
  aP P w K mg base CX 8 f fd ["net","start","goal"] (Sm CN K):=by
 refine F.ok Mg (fun vs H Q E h=>?_) (fun cdv A outer s H vs Q E hr h=>?_)
 ·obtain⟨n,l,m,b,kb,L,ds,s,g,rfl,NB,hs,hg,q⟩:=h
  rfl
 obtain⟨n,l,m,b,kb,L,ds,s,g,rfl,NB,hs,hg,q⟩:=h
 have r2:=hr.mono (show 2≤7 by omega)
 have r5:=hr.mono (show 5≤7 by omega)
 have r6:=hr.mono (show 6≤7 by omega)
 have r7:=hr
 refine⟨_,(aB (aT (i:=3) Mg.nd rfl (Or.inl rfl) (aX bA (aI G1 r7 rfl m1 k1 b1 .nil aL (aA (pv 0) aE)) aF (fun _ _=>rfl)))
  (aB (aT (i:=4) Mg.nd rfl (Or.inl rfl) (aV xO (cS (aA (dA (v:=.ref aN) rfl mNO rfl) aE)) (aV dC (cK bO rfl ml PySem.boot_len (aA (pv 3) aE)) aF)))
  (aB (bQ (aI G2 r5 rfl m2 k2 b2 .nil aL (aA (pv 4) (aA (lK (MK .pu) GI r2 rfl (T.mK .pu) bI .nil aL (aA (pv 1) (aA (pv 2) (aA (dA (v:=.ref aO) rfl mON rfl) aE)))) aE))))
  (aG (aY (aI G3 r6 rfl m3 k3 b3 .nil aL (aA (pv 0) (aA (pv 3) (aA (fQ iA (pv 4) (fU aF) iQ) aE))))))))),?_⟩
 have EB:=NB.eb
 have mo:=EB.o.m1
 have w26:=EB.w26
 refine⟨_,rfl,n,l,m,kb,ds,rfl,NB.nt,NB.ok,mo,NB.m20,NB.h40,NB.cu,fun tt p r us ys X Y H1 s1 et np nr ep er FM FY nx EO=>?_⟩
 have lX:X.length=wd m ds:=EO.x.h
 have lus:=FM.l
 refine⟨tt,_,0,_,rfl,rfl,SqT.of et,rfl,?_⟩
 obtain⟨W,hW⟩:∃W,W=wd m ds:=⟨_,rfl⟩
 rw[← hW] at w26
 have lusW:us.length=W:=by rw[lus,lX,hW]
 refine⟨by show 1≤sizeLine;decide,fun l1 hl1=>?_⟩
 have s2:=aH hl1 (.lst [.ref aN])
 have e2:upd H1 l1 (.lst [.ref aN]) l1=some (.lst [.ref aN]):=aC
 generalize upd H1 l1 (.lst [.ref aN])=H2 at s2 e2 ⊢
 have eW:(us.length:Int)+1=((W+1:Nat):Int):=by omega
 refine⟨_,rfl,p,us,rfl,.inl (SqL.of (s2 _ _ ep)),_,_,rfl,rfl,l1,_,[.ref aN],rfl,rfl,e2,by omega,by omega,?_,fun Rr hR=>?_⟩
 ·rw[eW,Int.toNat_natCast,sizeLine_eq];simp only[List.length_cons,List.length_nil];omega
 rw[eW,Int.toNat_natCast,nT]
 have nR1:H1 Rr=none:=s2.free hR
 have s3:=aH hR (.lst (List.replicate (W+1) (.ref aN)))
 have e3:upd H2 Rr (.lst (List.replicate (W+1) (.ref aN))) Rr=some (.lst (List.replicate (W+1) (.ref aN))):=aC
 generalize upd H2 Rr (.lst (List.replicate (W+1) (.ref aN)))=H3 at s3 e3 ⊢
 refine⟨_,rfl,_,rfl,_,rfl,fun x dx hx hdx nxd=>?_⟩
 refine⟨x,dx,.pu,_,_,_,rfl,aC,rfl,?_⟩
 have s4:bC H3 (upd (upd (upd H3 dx (.own x)) x (.ins (CK .pu) dx [])) x (.ins (CK .pu) dx (jB (.int (s:Int)) (.int (g:Int)) (.ref aO)))):=(Eh (C:=CK .pu) hx hdx).change hx
 have rw4:Rw CK (upd (upd (upd H3 dx (.own x)) x (.ins (CK .pu) dx [])) x (.ins (CK .pu) dx (jB (.int (s:Int)) (.int (g:Int)) (.ref aO)))) x .pu (.int (s:Int)) (.int (g:Int)) (.ref aO):=⟨dx,aC⟩
 generalize upd (upd (upd H3 dx (.own x)) x (.ins (CK .pu) dx [])) x (.ins (CK .pu) dx (jB (.int (s:Int)) (.int (g:Int)) (.ref aO)))=H4 at s4 rw4 ⊢
 have ptW:cQ ((W+1:Nat):Int) (s:Int) (g:Int):=by
  unfold wd at hW
  exact⟨by omega,by omega,by omega,by omega⟩
 have ptm:cQ (m:Int) (s:Int) (g:Int):=⟨by omega,by omega,by omega,by omega⟩
 refine⟨Rr,x,aO,_,List.replicate (W+1) (0,1),(.pu,(s:Int),(g:Int),(1,1)),W+1,1,1,rfl,s4 _ _ e3,oC (fN _) (W+1),xJ (W+1),rw4,fO _,ptW,gR,gN,by omega,fun ys' H5 sx5 eR5 F5=>?_⟩
 obtain⟨lb5,v5⟩:=Sc (d:=(.pu,(s:Int),(g:Int),(1,1))) (h:=0) (m:=m) (xJ (W+1)) ptm (by unfold wd at hW;omega) rfl gR gN
 have s15:bC H1 H5:=SX.same (s2.trans (s3.trans s4)) sx5 (fun c hc=>by rw[List.mem_singleton.mp hc];exact nR1)
 generalize pR (List.replicate (W+1) (0,1)) (.pu,(s:Int),(g:Int),(1,1))=rs at F5 lb5 v5
 have v6:∀k,Mq.val (rs.getD k (0,1))=un g k - un s k:=fun k=>by
  rw[v5,pQ,Mq.mG,← Wg s g k]
  show 0 + - dl ((s:Int)).toNat ((g:Int)).toNat k*Mq.val (1,1)=_
  rw[Int.toNat_natCast,Int.toNat_natCast];grind
 have lrs:=lb5.w
 refine⟨_,rfl,_,rfl,_,rfl,1,rfl,Rr,_,rfl,SqL.of eR5,fun S hS=>?_⟩
 rw[Fi]
 have s6:=aH hS (.lst (ys'.drop 1))
 have e6:upd H5 S (.lst (ys'.drop 1)) S=some (.lst (ys'.drop 1)):=aC
 generalize upd H5 S (.lst (ys'.drop 1))=H6 at s6 e6 ⊢
 have s16:=s15.trans s6
 have s06:=s1.trans s16
 have gd:∀k,(rs.drop 1).getD k (0,1)=rs.getD (k+1) (0,1):=fun k=>by rw[List.getD_eq_getElem?_getD,List.getElem?_drop,Nat.add_comm,← List.getD_eq_getElem?_getD]
 refine⟨n,l,p,S,p,H,m,b,_,L,ds,us,_,X,Y,rs.drop 1,rfl,NB.nt.same s06,SqL.of (s16 _ _ ep),(xK FM (fun x hx=>(nx x hx).1)).same s16,EO,EB,SqL.of e6,Fqs.drop1 (F5.same s6),by rw[List.length_drop,lrs,lX,← hW];omega,fun pq hpq=>?_,fun t zs ps H7 s7 e7 F7 SU OV=>?_⟩
 ·obtain⟨k,hk⟩:=List.getElem?_of_mem hpq
  rw[List.getElem?_drop] at hk
  have lo:=(lb5.l pq (List.mem_of_getElem? hk)).1
  have ev:=v6 (1+k)
  rw[List.getD_eq_getElem?_getD,hk] at ev
  obtain⟨a0,ha0,ea⟩:=Va g s (1+k)
  obtain⟨d1,t1⟩:=Mq.zZ lo (show (1:Int)≤1 by decide) (ev.trans ea)
  have:=Int.le_of_dvd (by decide) d1
  have:=lo.pos
  exact⟨lo,by omega,by omega⟩
 ·have lps:ps.length=X.length:=SU.len
  have lm:m - 1≤ps.length:=by rw[lps,lX];unfold wd;omega
  refine q t zs (lvS m ps) (uP ps) H7 (s06.trans s7) e7 F7 (Dm mo lm) (Dt SU.low) (Nx OV) (EqB.sol EO SU fun i hi=>?_) (fun k hk=>xD lm hk)
  show Mq.val ((rs.drop 1).getD i (0,1))=_
  rw[gd,v6]
abbrev Gk:Stmt:=top 71
theorem Sa:aS ["net","a","b","heights"] ["net","a","b"] (aD Gk):=⟨rfl,rfl,rfl,by decide +kernel,rfl,by decide +kernel,by decide +kernel⟩
theorem Vc {dV:Value} (F:cB K "between" "between" Gk dV f fd)
  {CN:Addr} (NTx:NT K mg CN)
  {gMa:Addr} {gdMa:FuncData} (GMa:aP P w K mg base CX0 1 gMa gdMa ["self"] (oV CN K)) (bMa:aR K gdMa ["self"] []) (mMa:gD K CN "many" gMa)
  (G1:aP P w K mg base CX0 3 g1 gd1 ["some","many"] (Pm K)) (b1:aR K gd1 ["some","many"] []) (k1:PySem.W.keepIn K (.ref g1)=true) (m1:mg "refuse_points"=some (.ref g1))
  (G2:aP P w K mg base CX0 7 g2 gd2 ["net"] (Kb CN K)) (b2:aR K gd2 ["net"] []) (k2:PySem.W.keepIn K (.ref g2)=true) (m2:mg "refuse_unanswered"=some (.ref g2))
  (G3:aP P w K mg base CX0 8 g3 gd3 ["net","start","goal"] (Sm CN K)) (b3:aR K gd3 ["net","start","goal"] []) (k3:PySem.W.keepIn K (.ref g3)=true) (m3:mg "pushed_heights"=some (.ref g3))
  (G4:aP P w K mg base CX0 3 g4 gd4 ["one","other"] (mP K Mq.minus)) (b4:aR K gd4 ["one","other"] []) (k4:PySem.W.keepIn K (.ref g4)=true) (m4:mg "minus"=some (.ref g4)) :
  aP P w K mg base CX 9 f fd ["net","a","b"] (Nb CN K):=by
 refine F.ok Sa (fun vs H Q E h=>?_) (fun cdv A outer s H vs Q E hr h=>?_)
 ·obtain⟨n,l,m,b,kb,L,ds,x,y,rfl,NB,hx,hy,q⟩:=h
  rfl
 obtain⟨n,l,m,b,kb,L,ds,x,y,rfl,NB,hx,hy,q⟩:=h
 have r1:=hr.mono (show 1≤8 by omega)
 have r3:=hr.mono (show 3≤8 by omega)
 have r7:=hr.mono (show 7≤8 by omega)
 refine⟨_,(aB (bQ (aI G1 r3 rfl m1 k1 b1 .nil aL (aA (cS (aA (pv 1) (aA (pv 2) aE))) (aA (fF (pv 0) NTx.cl mMa GMa r1 bMa .nil aL) aE))))
  (aB (bQ (aI G2 r7 rfl m2 k2 b2 .nil aL (aA (pv 0) aE)))
  (aB (aT (i:=3) Sa.nd rfl (Or.inl rfl) (aI G3 hr rfl m3 k3 b3 .nil aL (aA (pv 0) (aA (pv 2) (aA (pv 1) aE)))))
  (aG (aY (aI G4 r3 rfl m4 k4 b4 .nil aL (aA (aX bN (pv 3) (pv 1) (fun _ _=>rfl)) (aA (aX bN (pv 3) (pv 2) (fun _ _=>rfl)) aE)))))))),?_⟩
 have EB:=NB.eb
 have mo:=EB.o.m1
 have m20:=NB.m20
 have hbw:=EB.hbw
 refine⟨_,rfl,_,rfl,by show 2≤sizeLine;decide,fun L1 hL1=>?_⟩
 have s1:=aH hL1 (.lst [.int (x:Int),.int (y:Int)])
 have e1:upd H L1 (.lst [.int (x:Int),.int (y:Int)]) L1=some (.lst [.int (x:Int),.int (y:Int)]):=aC
 generalize upd H L1 (.lst [.int (x:Int),.int (y:Int)])=H1 at s1 e1 ⊢
 obtain⟨dn,hn⟩:=(NB.nt.same s1).ob
 refine⟨_,rfl,n,dn,_,rfl,hn,dX _ _ (by decide +kernel) (by decide +kernel),n,l,_,ds,rfl,NB.nt.same s1,?_⟩
 refine⟨L1,(x:Int),(y:Int),_,rfl,SqL.of e1,by omega,by omega,by omega,by omega,fun H2 s2=>?_⟩
 have s02:=s1.trans s2
 refine⟨_,rfl,n,l,m,ds,rfl,NB.nt.same s02,EB.o.pt,mo,m20,NB.h40,oT Ff EB.o.pt m20 EB.o.fr _ (Nat.le_refl _),Dr EB.o,fun H3 s3=>?_⟩
 have s03:=s02.trans s3
 refine⟨_,rfl,_,rfl,_,rfl,n,l,m,b,kb,L,ds,y,x,rfl,NB.same s03,hy,hx,fun t zs hp v H4 s4 e4 F4 lh low OV SB hv=>?_⟩
 have ax:=jD (ps:=hp) (j:=x) (by omega)
 have ay:=jD (ps:=hp) (j:=y) (by omega)
 obtain⟨w1,ew1,fw1⟩:=F4.at ax
 obtain⟨w2,ew2,fw2⟩:=F4.at ay
 have mx:=List.mem_of_getElem? ax
 have my:=List.mem_of_getElem? ay
 obtain⟨bm,b1,b2⟩:=L2.Ovr.minus OV low mx my
 have l1:=low _ mx
 have l2:=low _ my
 refine⟨_,rfl,_,rfl,t,zs,_,_,rfl,rfl,SqL.of e4,bZ ew1,_,rfl,_,rfl,t,zs,_,_,rfl,rfl,SqL.of e4,bZ ew2,?_⟩
 exact⟨w1,w2,_,_,_,_,rfl,fw1,fw2,l1.pos,l2.pos,b1,b2,by omega,fun r H5 s5 e5=>q r _ v H5 (s03.trans (s4.trans s5)) (Fq.of e5) (Mq.jE l1.pos l2.pos) bm SB (by rw[Mq.lU l1.pos l2.pos,hv x hx,hv y hy])⟩
end
end K66
set_option maxHeartbeats 1000000
namespace L2
open PySem PySem.Spec PyProof.Rows Shp
abbrev Hn:=Option (Nat × Nat) × RD
def rot (m t k:Nat):Nat:=(k+t) % m
abbrev tgs (E:List Hn):List (Nat × Nat):=E.filterMap (·.1)
section
variable {m t J:Nat} {E:List Hn}
theorem Mr (m1:1≤m) (k:Nat):rot m t k < m:=Nat.mod_lt _ (by omega)
theorem lC (tm:t < m) {j k:Nat} (hj:j < m) (hk:k < m) (h:rot m t j=rot m t k):j=k:=by
 unfold rot at h
 have a:(j+t) % m=if j+t < m then j+t else j+t - m:=by
  split
  ·exact Nat.mod_eq_of_lt (by assumption)
  ·rw[Nat.mod_eq_sub_mod (by omega),Nat.mod_eq_of_lt (by omega)]
 have b:(k+t) % m=if k+t < m then k+t else k+t - m:=by
  split
  ·exact Nat.mod_eq_of_lt (by assumption)
  ·rw[Nat.mod_eq_sub_mod (by omega),Nat.mod_eq_of_lt (by omega)]
 rw[a,b] at h
 split at h<;>split at h<;>omega
theorem yK (tm:t < m) {p:Nat} (hp:p < m):∃k,k < m∧rot m t k=p:=by
 by_cases c:t≤p
 ·exact⟨p - t,by omega,by unfold rot;rw[show p - t+t=p by omega,Nat.mod_eq_of_lt hp]⟩
 ·exact⟨p+m - t,by omega,by unfold rot;rw[show p+m - t+t=p+m by omega,Nat.add_mod_right,Nat.mod_eq_of_lt hp]⟩
inductive qT (T:List (Nat × Nat)) (k:Nat):Nat→Prop where
 |self:qT T k k
 |up {p q:Nat} (h:(p,q)∈T) (u:qT T k q):qT T k p
theorem qT.ge {T:List (Nat × Nat)} {k p:Nat} (d:∀p q,(p,q)∈T→q < p) (h:qT T k p):k≤p:=by
 induction h with
 |self=>exact Nat.le_refl _
 |up h _ ih=>have:=d _ _ h;omega
theorem Pd {T:List (Nat × Nat)} (nd:(T.map (·.1)).Nodup) {p q q':Nat} (h:(p,q)∈T) (h':(p,q')∈T):q=q':=by
 induction T with
 |nil=>cases h
 |cons x T ih=>
  rw[List.map_cons,List.nodup_cons] at nd
  rcases List.mem_cons.mp h with z | z<;>rcases List.mem_cons.mp h' with z' | z'
  ·rw[← z] at z';exact(Prod.ext_iff.mp z').2.symm
  ·exact absurd (List.mem_map.mpr ⟨_,z',by rw[← z]⟩) nd.1
  ·exact absurd (List.mem_map.mpr ⟨_,z,by rw[← z']⟩) nd.1
  ·exact ih nd.2 z z'
theorem qT.iff {T:List (Nat × Nat)} {k p q:Nat} (nd:(T.map (·.1)).Nodup) (h:(p,q)∈T) (ne:p≠k):qT T k p↔qT T k q:=by
 refine⟨fun u=>?_,fun u=>.up h u⟩
 cases u with
 |self=>exact absurd rfl ne
 |up h' u=>rw[Pd nd h h'];exact u
theorem Jl:∀{E:List Hn},((tgs E).map (·.1)).Nodup→∀{i i':Nat} {e e':Hn} {k j j':Nat},E[i]?=some e→E[i']?=some e'→e.1=some (k,j)→e'.1=some (k,j')→i=i'
 | [],_,i,_,_,_,_,_,_,h,_,_,_=>by simp at h
 |x :: E,nd,i,i',e,e',k,j,j',h,h',t,t'=>by
  have mem:∀{a:Nat} {y:Hn} {b:Nat},E[a]?=some y→y.1=some (k,b)→k∈(tgs E).map (·.1):=fun hy ty=>List.mem_map.mpr ⟨_,List.mem_filterMap.mpr ⟨_,List.mem_of_getElem? hy,ty⟩,rfl⟩
  have nd':((tgs E).map (·.1)).Nodup:=by
   unfold tgs at nd
   rw[List.filterMap_cons] at nd
   split at nd
   ·exact nd
   ·rw[List.map_cons] at nd
    exact(List.nodup_cons.mp nd).2
  have no:∀{b:Nat},x.1=some (k,b)→k∉(tgs E).map (·.1):=fun tx=>by
   unfold tgs at nd
   rw[List.filterMap_cons_some tx,List.map_cons] at nd
   exact(List.nodup_cons.mp nd).1
  match i,i',h,h' with
  |0,0,_,_=>rfl
  |0,a+1,h,h'=>
   have:x=e:=by simpa using h
   subst this
   exact absurd (mem (by simpa using h') t') (no t)
  |a+1,0,h,h'=>
   have:x=e':=by simpa using h'
   subst this
   exact absurd (mem (by simpa using h) t) (no t')
  |a+1,a' + 1,h,h'=>
   have:=Jl nd' (i:=a) (i':=a') (by simpa using h) (by simpa using h') t t'
   omega
abbrev rwH (E:List Hn):List RD:=E.map (·.2)
end
abbrev Pr2:=RD × Mq.Q2
abbrev prE (E:List Ent):List Pr2:=E.map (·.2)
section
variable {m u:Nat} {hs:List Mq.Q2} {par:Nat→Nat} {E:List Ent}
abbrev M0 (u:Nat):Nat:=(2 ^ u+2 ^ u)*2 ^ u
theorem Lc {L:Int} {M x y:Nat}:∀{ds:List RD} (k:Nat),(∀d∈ds,∀k,Mq.Fr L M (cM d k x y))→Mq.Fr L (ds.length*M) (eqM k ds x y)
 | [],_,_=>Mq.Fr.zero.mono (Nat.zero_le _)
 |d :: ds,k,q=>by
  rw[List.length_cons,Nat.succ_mul,Nat.add_comm]
  exact(q d (by simp) k).add (Lc _ fun x hx=>q x (List.mem_cons_of_mem _ hx))
theorem Lw {L:Int} {M:Nat} {y:Rat} {c:Prop} [Decidable c] (g:Mq.Fr L M y):Mq.Fr L M (if c then y else 0):=by
 split
 ·exact g
 ·exact Mq.Fr.zero.mono (Nat.zero_le _)
end
section
variable {m t J:Nat} {E:List Hn}
def LH (E:List Hn):Int:=Mq.prB (E.map fun e=>if e.2.1=.pc then e.2.2.2.2.1 else 1)
end
abbrev sk3 (d:RD):Kd × Int × Int:=(d.1,d.2.1,d.2.2.1)
theorem Cn.sk {ds es:List RD} (h:ds.map sk3=es.map sk3) {p q:Nat} (c:Cn ds p q):Cn es p q:=by
 refine Cn.ind (R:=fun p q=>Cn es p q) (fun p=>.refl p) (fun _ _=>.symm) (fun _ _ _=>.trans) (fun x hx hk=>?_) c
 have:sk3 x∈es.map sk3:=by rw[← h];exact List.mem_map.mpr ⟨x,hx,rfl⟩
 obtain⟨y,hy,e⟩:=List.mem_map.mp this
 have e1:y.1=x.1:=congrArg (·.1) e
 have e2:y.2.1=x.2.1:=congrArg (·.2.1) e
 have e3:y.2.2.1=x.2.2.1:=congrArg (·.2.2) e
 have:=Cn.row hy (by rw[e1];exact hk)
 rw[e2,e3] at this
 exact this
theorem Jr (k:Kd) {ds es:List RD} (h:ds.map sk3=es.map sk3):(bY k ds).map sk3=(bY k es).map sk3:=by
 have:∀l:List RD,(bY k l).map sk3=(l.map sk3).filter fun x=>decide (x.1=k):=fun l=>by
  unfold bY
  rw[List.filter_map];rfl
 rw[this,this,h]
theorem Ut {ds es:List RD} (h:ds.map sk3=es.map sk3):bU ds=bU es:=by
 have:=congrArg List.length (Jr .ho h)
 rw[List.length_map,List.length_map] at this
 exact this
theorem Frs.sk {ds es:List RD} (h:ds.map sk3=es.map sk3) (f:Frs ds):Frs es:=by
 intro A B d e hd cn
 have hl:ds.length=es.length:=by have:=congrArg List.length h;rwa [List.length_map,List.length_map] at this
 have hn:A.length < ds.length:=by rw[hl,e,List.length_append,List.length_cons];omega
 have eA:(ds.take A.length).map sk3=A.map sk3:=by rw[List.map_take,h,← List.map_take,e,List.take_left]
 have ed:sk3 ds[A.length]=sk3 d:=by
  have a1:(ds.map sk3)[A.length]?=some (sk3 ds[A.length]):=by rw[List.getElem?_map,List.getElem?_eq_getElem hn];rfl
  have a2:(es.map sk3)[A.length]?=some (sk3 d):=by rw[List.getElem?_map,e,List.getElem?_append_right (Nat.le_refl _),Nat.sub_self];rfl
  rw[h,a2] at a1
  exact(Option.some.inj a1).symm
 have e1:(ds[A.length]).1=d.1:=congrArg (·.1) ed
 have e2:(ds[A.length]).2.1=d.2.1:=congrArg (·.2.1) ed
 have e3:(ds[A.length]).2.2.1=d.2.2.1:=congrArg (·.2.2) ed
 refine f (ds.take A.length) (ds.drop (A.length+1)) ds[A.length] (by rw[List.getElem_cons_drop,List.take_append_drop]) (by rw[e1];exact hd) ?_
 rw[e2,e3]
 exact Cn.sk (Jr .ho eA.symm) cn
theorem Nof.sk {m:Nat} {ds es:List RD} (h:ds.map sk3=es.map sk3) (o:Nof m ds) (pos:∀d∈es,d.1=.pc→0 < Mq.val d.2.2.2):Nof m es:=by
 refine⟨o.m1,fun d hd=>?_,pos,fun p hp=>Cn.sk h (o.cn p hp),Frs.sk h o.fr⟩
 have:sk3 d∈ds.map sk3:=by rw[h];exact List.mem_map.mpr ⟨d,hd,rfl⟩
 obtain⟨y,hy,e⟩:=List.mem_map.mp this
 have e2:y.2.1=d.2.1:=congrArg (·.2.1) e
 have e3:y.2.2.1=d.2.2.1:=congrArg (·.2.2) e
 have:=o.pt y hy
 rwa [e2,e3] at this
theorem To {ds:List RD} {i:Nat} {d d':RD} (h:ds[i]?=some d) (e:sk3 d'=sk3 d):ds.map sk3=(ds.set i d').map sk3:=by
 refine List.ext_getElem? fun j=>?_
 rw[List.getElem?_map,List.getElem?_map,List.getElem?_set]
 by_cases c:i=j
 ·subst c
  rw[if_pos rfl,h,if_pos (List.getElem?_eq_some_iff.mp h).1]
  show some (sk3 d)=some (sk3 d')
  rw[e]
 ·rw[if_neg c]
def qz (d:RD):RD:=if d.1=.ho then (d.1,d.2.1,d.2.2.1,(0,1)) else d
def qR (ds:List RD):List RD:=(ds.filter fun d=>decide (d.1≠.pu)).map qz
def qF (ds:List RD) (a b:Nat):List RD:=(.pu,(b:Int),(a:Int),(1,1)) :: qR ds
theorem Ef (d:RD):sk3 (qz d)=sk3 d:=by
 unfold qz
 split<;>rfl
theorem rD (d:RD) (ds:List RD):qR (d :: ds)=if d.1=.pu then qR ds else qz d :: qR ds:=by
 unfold qR
 by_cases c:d.1=.pu
 ·rw[if_pos c,List.filter_cons_of_neg (by simp[c])]
 ·rw[if_neg c,List.filter_cons_of_pos (by simpa using c),List.map_cons]
theorem Hb (d:RD):(qz d).1=d.1:=congrArg (·.1) (Ef d)
theorem vK (x y:Nat):∀(ds:List RD) (h:Nat),eqM h (qR ds) x y=eqM h ds x y
 | [],_=>rfl
 |d :: ds,h=>by
  rw[rD]
  have ih:=vK x y ds
  by_cases c:d.1=.pu
  ·rw[if_pos c,ih]
   show _=cM d h x y+eqM (h+cA d.1) ds x y
   have h0:cA d.1=0:=by rw[c];rfl
   unfold cM
   rw[h0,c]
   show _=0+eqM (h+0) ds x y
   rw[Nat.add_zero];grind
  ·rw[if_neg c]
   show cM (qz d) h x y+eqM (h+cA (qz d).1) (qR ds) x y=cM d h x y+eqM (h+cA d.1) ds x y
   rw[ih,Hb]
   congr 1
   unfold qz
   by_cases e:d.1=.ho
   ·rw[if_pos e];unfold cM;rw[e]
   ·rw[if_neg e]
theorem wQ (x:Nat):∀(ds:List RD) (h:Nat),eqR h (qR ds) x=0
 | [],_=>rfl
 |d :: ds,h=>by
  rw[rD]
  have ih:=wQ x ds
  by_cases c:d.1=.pu
  ·rw[if_pos c,ih]
  ·rw[if_neg c]
   show cR (qz d) h x+eqR (h+cA (qz d).1) (qR ds) x=0
   rw[ih]
   unfold qz
   by_cases e:d.1=.ho
   ·rw[if_pos e]
    unfold cR
    rw[e]
    show (if h=x then Mq.val (0,1) else 0)+0=0
    rw[Mq.mG]
    split<;>grind
   ·rw[if_neg e]
    have:d.1=.pc:=by cases hk:d.1<;>first | rfl | exact absurd hk c | exact absurd hk e
    unfold cR
    rw[this]
    show (0:Rat)+0=0
    grind
theorem vA:∀ds:List RD,(bY .ho (qR ds)).map sk3=(bY .ho ds).map sk3
 | []=>rfl
 |d :: ds=>by
  have ih:=vA ds
  rw[rD]
  unfold bY at ih ⊢
  by_cases c:d.1=.pu
  ·rw[if_pos c,List.filter_cons_of_neg (a:=d) (by simp[c])];exact ih
  ·rw[if_neg c]
   by_cases e:d.1=.ho
   ·rw[List.filter_cons_of_pos (by simp[Hb,e]),List.filter_cons_of_pos (by simp[e]),List.map_cons,List.map_cons,Ef,ih]
   ·rw[List.filter_cons_of_neg (by simp[Hb,e]),List.filter_cons_of_neg (by simp[e])];exact ih
theorem Mj (ds:List RD) (a b:Nat):(bY .ho (qF ds a b)).map sk3=(bY .ho ds).map sk3:=by
 unfold qF bY
 rw[List.filter_cons_of_neg (by simp)]
 exact vA ds
theorem Up (ds:List RD) (a b:Nat):bU (qF ds a b)=bU ds:=by
 have:=congrArg List.length (Mj ds a b)
 rw[List.length_map,List.length_map] at this
 exact this
theorem Qw {ds:List RD}:Frs ds↔∀(A B:List RD) (d:RD),bY .ho ds=A++d :: B→¬Cn A d.2.1.toNat d.2.2.1.toNat:=by
 constructor
 ·intro f A B d e
  unfold bY at e
  obtain⟨l1,l2,rfl,e1,e2⟩:=List.filter_eq_append_iff.mp e
  obtain⟨l3,l4,rfl,no,hd,e4⟩:=List.filter_eq_cons_iff.mp e2
  have:=f (l1++l3) l4 d (by rw[List.append_assoc]) (of_decide_eq_true hd)
  have es:bY .ho (l1++l3)=A:=by
   unfold bY
   rw[List.filter_append,e1,List.filter_eq_nil_iff.mpr (fun x hx=>no x hx),List.append_nil]
  rwa [es] at this
 ·intro f A B d e hd cn
  refine f (bY .ho A) (bY .ho B) d ?_ cn
  rw[e]
  unfold bY
  rw[List.filter_append,List.filter_cons_of_pos (p:=fun d:RD=>decide (d.1=.ho)) (a:=d) (decide_eq_true hd)]
theorem Frs.sel {ds es:List RD} (h:(bY .ho ds).map sk3=(bY .ho es).map sk3) (f:Frs ds):Frs es:=by
 rw[Qw] at f ⊢
 intro A B d e
 have hl:(bY .ho ds).length=(bY .ho es).length:=by have:=congrArg List.length h;rwa [List.length_map,List.length_map] at this
 have hn:A.length < (bY .ho ds).length:=by rw[hl,e,List.length_append,List.length_cons];omega
 generalize bY .ho ds=hs at h hl hn f
 generalize bY .ho es=gs at h hl e
 have eA:(hs.take A.length).map sk3=A.map sk3:=by rw[List.map_take,h,← List.map_take,e,List.take_left]
 have ed:sk3 hs[A.length]=sk3 d:=by
  have a1:(hs.map sk3)[A.length]?=some (sk3 hs[A.length]):=by rw[List.getElem?_map,List.getElem?_eq_getElem hn];rfl
  have a2:(gs.map sk3)[A.length]?=some (sk3 d):=by rw[List.getElem?_map,e,List.getElem?_append_right (Nat.le_refl _),Nat.sub_self];rfl
  rw[h,a2] at a1
  exact(Option.some.inj a1).symm
 have e2:(hs[A.length]).2.1=d.2.1:=congrArg (·.2.1) ed
 have e3:(hs[A.length]).2.2.1=d.2.2.1:=congrArg (·.2.2) ed
 intro cn
 refine f (hs.take A.length) (hs.drop (A.length+1)) hs[A.length] (by rw[List.getElem_cons_drop,List.take_append_drop]) ?_
 rw[e2,e3]
 exact Cn.sk eA.symm cn
theorem tS {ds:List RD} {d:RD} (h:d∈qR ds):∃e∈ds,e.1≠.pu∧d=qz e:=by
 unfold qR at h
 obtain⟨e,he,rfl⟩:=List.mem_map.mp h
 obtain⟨m,k⟩:=List.mem_filter.mp he
 exact⟨e,m,of_decide_eq_true k,rfl⟩
section
variable {m:Nat} {ds:List RD} {a b:Nat}
theorem Nof.quiet (o:Nof m ds) (ha:a < m) (hb:b < m):Nof m (qF ds a b):=by
 refine⟨o.m1,fun d hd=>?_,fun d hd hk=>?_,fun p hp=>?_,Frs.sel (Mj ds a b).symm o.fr⟩
 ·rcases List.mem_cons.mp hd with z | z
  ·rw[z];exact⟨by show (0:Int)≤(b:Int);omega,by show (b:Int) < m;omega,by show (0:Int)≤(a:Int);omega,by show (a:Int) < m;omega⟩
  ·obtain⟨e,he,_,rfl⟩:=tS z
   have s:=Ef e
   have e2:(qz e).2.1=e.2.1:=congrArg (·.2.1) s
   have e3:(qz e).2.2.1=e.2.2.1:=congrArg (·.2.2) s
   rw[e2,e3]
   exact o.pt e he
 ·rcases List.mem_cons.mp hd with z | z
  ·rw[z] at hk;cases hk
  ·obtain⟨e,he,_,rfl⟩:=tS z
   rw[Hb] at hk
   unfold qz
   rw[if_neg (by rw[hk];exact fun z=>by cases z)]
   exact o.pos e he hk
 ·refine Cn.ind (R:=fun p q=>Cn (qF ds a b) p q) (fun p=>.refl p) (fun _ _=>.symm) (fun _ _ _=>.trans) (fun x hx hk=>?_) (o.cn p hp)
  have mem:qz x∈qF ds a b:=List.mem_cons_of_mem _ (List.mem_map.mpr ⟨x,List.mem_filter.mpr ⟨hx,decide_eq_true hk⟩,rfl⟩)
  have s:=Ef x
  have e2:(qz x).2.1=x.2.1:=congrArg (·.2.1) s
  have e3:(qz x).2.2.1=x.2.2.1:=congrArg (·.2.2) s
  have:=Cn.row mem (by rw[Hb];exact hk)
  rwa [e2,e3] at this
theorem Tp (x y:Nat):eqM m (qF ds a b) x y=eqM m ds x y:=by
 show cM (.pu,(b:Int),(a:Int),(1,1)) m x y+eqM (m+cA .pu) (qR ds) x y=_
 rw[vK]
 show 0+eqM (m+0) ds x y=_
 rw[Nat.add_zero];grind
theorem Ks (x:Nat):eqR m (qF ds a b) x=un a x - un b x:=by
 show cR (.pu,(b:Int),(a:Int),(1,1)) m x+eqR (m+cA .pu) (qR ds) x=_
 rw[wQ]
 show - dl ((b:Int)).toNat ((a:Int)).toNat x*Mq.val (1,1)+0=_
 rw[Int.toNat_natCast,Int.toNat_natCast,Mq.Et]
 unfold dl un
 by_cases c:b=x<;>by_cases d:a=x
 ·rw[if_pos c,if_pos d,if_pos d.symm,if_pos c.symm];grind
 ·rw[if_pos c,if_neg d,if_neg (fun z=>d z.symm),if_pos c.symm];grind
 ·rw[if_neg c,if_pos d,if_pos d.symm,if_neg (fun z=>c z.symm)];grind
 ·rw[if_neg c,if_neg d,if_neg (fun z=>d z.symm),if_neg (fun z=>c z.symm)];grind
theorem Fy:wd m (qF ds a b)=wd m ds:=by unfold wd;rw[Up]
theorem Sv.quiet {v:Nat→Rat} (h:Sv m (qF ds a b) (eqR m (qF ds a b)) v):kA m ds a b v:=by
 refine⟨h.z,fun i hi=>?_⟩
 have:=h.e i (by rw[Fy];exact hi)
 rw[Fy,Ks] at this
 rw[← this]
 exact Mq.aK fun j _=>by rw[Tp]
theorem kA.turn {v:Nat→Rat} (h:kA m ds a b v):kA m ds b a (fun x=>- v x):=by
 refine⟨by rw[h.z];grind,fun i hi=>?_⟩
 have e:∀j,j < wd m ds→eqM m ds (i+1) (j+1) * - v (j+1)=- (eqM m ds (i+1) (j+1)*v (j+1)):=fun j _=>by grind
 rw[Mq.aK e,Mq.iM,h.e i hi];grind
theorem kA.held {v:Nat→Rat} (o:Nof m ds) (h:kA m ds a b v) (ha:a < m) (hb:b < m) (c:Cn (bY .ho ds) a b):v a=v b:=by
 have hol:=h.holds o ha hb
 exact Cn.ind (R:=fun a b=>v a=v b) (fun _=>rfl) (fun _ _ e=>e.symm) (fun _ _ _ x y=>x.trans y) (fun x hx _=>by
  obtain⟨xm,xk⟩:=List.mem_filter.mp hx
  exact hol x xm (of_decide_eq_true xk)) c
theorem kA.above {v:Nat→Rat} (o:Nof m ds) (h:kA m ds a b v) (ha:a < m) (hb:b < m) (nc:¬Cn (bY .ho ds) a b):0 < v a - v b:=by
 have nn:=h.nn o ha hb
 by_cases z:0=v a - v b
 rotate_left
 ·exact Rat.lt_of_le_of_ne nn z
 ·exfalso
  have en:=h.eg o ha hb
  rw[← z] at en
  have hol:=h.holds o ha hb
  have pf:=(Gh (u:=v) ds m o.pos hol).2 en
  open Classical in
  let F:Nat→Rat:=fun p=>if Cn (bY .ho ds) a p then 1 else 0
  have s1:=yU (u:=v) (m:=m) F ds m o.pt pf (fun x hx hk=>by
   show (if Cn (bY .ho ds) a x.2.1.toNat then (1:Rat) else 0)=if Cn (bY .ho ds) a x.2.2.1.toNat then 1 else 0
   have r:Cn (bY .ho ds) x.2.1.toNat x.2.2.1.toNat:=.row (List.mem_filter.mpr ⟨hx,decide_eq_true hk⟩) (by rw[hk];exact fun z=>by cases z)
   by_cases c:Cn (bY .ho ds) a x.2.1.toNat
   ·rw[if_pos c,if_pos (c.trans r)]
   ·rw[if_neg c,if_neg (fun z=>c (z.trans r.symm))])
  have e:∀p,p < m→F p*nt v m ds p=F p*un a p + - (F p*un b p):=fun p hp=>by rw[h.all o ha hb p hp];grind
  rw[Mq.aK e,Mq.cZ,Mq.iM,Bg ha,Bg hb] at s1
  have Fa:F a=1:=if_pos (.refl _)
  have Fb:F b=0:=if_neg nc
  rw[Fa,Fb] at s1
  grind
end
structure StB (K:PySem.W.Frag) (H:Hp) (b:Addr) (ys:List V) (ss:List Mq.Q2) (n:Nat):Prop where
 s:SqL K H b ys
 f:Fqs K H ys ss
 l:ss.length=n
 b:∀s∈ss,Mq.Low s∧Mq.Bd 3900 s
theorem StB.same {K:PySem.W.Frag} {H H':Hp} {b:Addr} {ys:List V} {ss:List Mq.Q2} {n:Nat} (e:bC H H') (h:StB K H b ys ss n):StB K H' b ys ss n:=⟨e.seq h.s,h.f.same e,h.l,h.b⟩
def Dh (K:PySem.W.Frag) (CK:Kd→Addr):Sp:=fun vs H Q _=>∃(x a:Addr) (d:RD) (z:V) (xs:List V) (hp:List Mq.Q2) (n:Nat),vs=[.ref x,.ref a]∧Rw CK H x d.1 (.int d.2.1) (.int d.2.2.1) z∧StB K H a xs hp n∧cQ (n:Int) d.2.1 d.2.2.1∧mV H Q (flF hp d)
def Gd (CA:Addr) (K:PySem.W.Frag):Sp:=fun vs H Q _=>∃(a:Addr) (lv fl:List Mq.Q2) (i j:Nat),vs=[.ref a,.int (i:Int),.int (j:Int)]∧Sn CA K H a lv fl∧i < lv.length∧j < lv.length∧lv.length≤20∧(∀p∈lv,Mq.Low p∧Mq.Bd 3900 p)∧mV H Q (Mq.minus (lv.getD i (0,1)) (lv.getD j (0,1)))
theorem Vp {p:Mq.Q2} (l:Mq.Low p) {z:Int} (hz:z.natAbs≤1) (h:Mq.val p=(z:Rat)):Q01 p:=by
 have h1:Mq.val p=Mq.val (z,1):=by
  rw[h]
  show (z:Rat)=(z:Rat) / ((1:Int):Rat)
  rw[show ((1:Int):Rat)=1 by rfl];grind
 have e:p=(z,1):=Mq.lH l ⟨Int.le_refl 1,by unfold Mq.gc;simp⟩ h1
 subst e
 exact⟨l,rfl,hz⟩
theorem Nj {n:Nat} {ps:List Mq.Q2} (h:Ovr n ps) (low:Mq.iL ps) (hn:n≤3900):∀p∈ps,Mq.Low p∧Mq.Bd 3900 p:=fun p hp=>⟨low p hp,(Ovr.minus h low hp hp).2.1.mono hn⟩
theorem Lh {n:Nat}:Mq.Bd (n+1) (0,1):=⟨Nat.two_pow_pos _,Nat.one_lt_two_pow (by omega)⟩
end L2
set_option maxHeartbeats 4000000
namespace K66
open PySem L2 Shp
section
variable {P:Program} {w:World} {K:PySem.W.Frag} {mg:Str→Option Value} {base:Heap} {f g1 g2 g3 g4 g5 g6 g7 g8:Addr} {fd gd1 gd2 gd3 gd4 gd5 gd6 gd7 gd8:FuncData} {CX:CXT}
variable {CR:Addr} {CK:Kd→Addr} {fW fJ fT fS:Kd→Addr} {fdW fdJ fdT fdS:Kd→FuncData}
def tQ (K:PySem.W.Frag) (CK:Kd→Addr) (k:Kd):Sp:=fun vs H Q _=>∃(x z a h:Addr) (s g:V) (p u v:Mq.Q2) (n m:Nat),vs=[.ref x,.ref a,.ref h]∧Rw CK H x k s g (.ref z)∧Fq K H z p∧Fq K H a u∧Fq K H h v∧1≤p.2∧1≤u.2∧Mq.Bd n p∧Mq.Bd m u∧n+m+1≤9000∧(k=.pc→0 < p.1)∧
 ∀r H',bC H H'→Fq K H' r (Ho k u v p)→Q (.ref r) H'
abbrev gO:Stmt:=cV (top 36) 3
theorem zD:aS ["self","fall","held"] ["self","fall","held"] (aD gO):=⟨rfl,rfl,rfl,by decide +kernel,rfl,by decide +kernel,by decide +kernel⟩
theorem yG {dV:Value} (F:cB K "stream" "Piece.stream" gO dV f fd) (T:RT K mg CR CK)
  (G1:aP P w K mg base CX0 3 g1 gd1 ["one","other"] (Cb K)) (b1:aR K gd1 ["one","other"] []) (k1:PySem.W.keepIn K (.ref g1)=true) (m1:mg "over"=some (.ref g1)):aP P w K mg base CX 4 f fd ["self","fall","held"] (tQ K CK .pc):=by
 refine F.ok zD (fun vs H Q E h=>?_) (fun cdv A outer s H vs Q E hr h=>?_)
 ·obtain⟨x,z,a,h,s,g,p,u,v,n,m,rfl,_⟩:=h
  rfl
 obtain⟨x,z,a,h,s,g,p,u,v,n,m,rfl,⟨dx,hx⟩,fz,fa,fh,hp,hu,bp,bu,hn,h0,q⟩:=h
 refine⟨_,(aG (aY (aI G1 hr rfl m1 k1 b1 .nil aL (aA (pv 1) (aA (bV (pv 0) rfl) aE))))),?_⟩
 exact⟨_,rfl,_,rfl,x,CK .pc,dx,_,_,rfl,hx,T.cl _,T.nZ _,fV _ _ _,a,z,u,p,m,n,rfl,fa,fz,hu,hp,h0 rfl,bu,bp,by omega,fun r H1 s1 e1=>q r H1 s1 (Fq.of e1)⟩
abbrev gK:Stmt:=cV (top 37) 3
theorem Ak:aS ["self","fall","held"] ["self","fall","held"] (aD gK):=⟨rfl,rfl,rfl,by decide +kernel,rfl,by decide +kernel,by decide +kernel⟩
theorem xZ {dV : Value} (F : cB K "stream" "Push.stream" gK dV f fd) (T : RT K mg CR CK)
     : aP P w K mg base CX 4 f fd ["self", "fall", "held"] (tQ K CK .pu) := by
  refine F.ok Ak (fun vs H Q E h => ?_) (fun cdv A outer s H vs Q E hr h => ?_)
  · obtain ⟨x, z, a, h, s, g, p, u, v, n, m, rfl, _⟩ := h
    rfl
  obtain ⟨x, z, a, h, s, g, p, u, v, n, m, rfl, ⟨dx, hx⟩, fz, fa, fh, hp, hu, bp, bu, hn, h0, q⟩ := h
  refine ⟨_, (aG (aY (bV (pv 0) rfl))), ?_⟩
  exact ⟨_, rfl, x, CK .pu, dx, _, _, rfl, hx, T.cl _, T.nZ _, fV _ _ _, q z H (bC.refl H) fz⟩
abbrev gP:Stmt:=cV (top 38) 3
theorem Ao:aS ["self","fall","held"] ["self","fall","held"] (aD gP):=⟨rfl,rfl,rfl,by decide +kernel,rfl,by decide +kernel,by decide +kernel⟩
theorem xW {dV : Value} (F : cB K "stream" "Hold.stream" gP dV f fd) (T : RT K mg CR CK)
     : aP P w K mg base CX 4 f fd ["self", "fall", "held"] (tQ K CK .ho) := by
  refine F.ok Ao (fun vs H Q E h => ?_) (fun cdv A outer s H vs Q E hr h => ?_)
  · obtain ⟨x, z, a, h, s, g, p, u, v, n, m, rfl, _⟩ := h
    rfl
  obtain ⟨x, z, a, h, s, g, p, u, v, n, m, rfl, ⟨dx, hx⟩, fz, fa, fh, hp, hu, bp, bu, hn, h0, q⟩ := h
  refine ⟨_, (aG (aY (pv 2))), ?_⟩
  exact ⟨_, rfl, q h H (bC.refl H) fh⟩
abbrev vJ:Stmt:=top 40
theorem Tg:aS ["row","heights"] ["row","heights"] (aD vJ):=⟨rfl,rfl,rfl,by decide +kernel,rfl,by decide +kernel,by decide +kernel⟩
theorem Rj {dV:Value} (F:cB K "fall_of" "fall_of" vJ dV f fd)
  (T:RT K mg CR CK)
  (G1:aP P w K mg base CX0 3 g1 gd1 ["one","other"] (mP K Mq.minus)) (b1:aR K gd1 ["one","other"] []) (k1:PySem.W.keepIn K (.ref g1)=true) (m1:mg "minus"=some (.ref g1)) :
  aP P w K mg base CX 4 f fd ["row","heights"] (Dh K CK):=by
 refine F.ok Tg (fun vs H Q E h=>?_) (fun cdv A outer s H vs Q E hr h=>?_)
 ·obtain⟨x,a,⟨k,i,j,p⟩,z,xs,hp,n,rfl,rw,st,pt,q⟩:=h
  rfl
 obtain⟨x,a,⟨k,i,j,p⟩,z,xs,hp,n,rfl,rw,st,pt,q⟩:=h
 refine⟨_,(aG (aY (aI G1 hr rfl m1 k1 b1 .nil aL (aA (aX bN (pv 1) (bV (pv 0) rfl) (fun _ _=>rfl)) (aA (aX bN (pv 1) (bV (pv 0) rfl) (fun _ _=>rfl)) aE))))),?_⟩
 obtain⟨dx,hx⟩:=id rw
 obtain⟨i0,i1,j0,j1⟩:cQ (n:Int) i j:=pt
 have hl:=st.l
 have ai:=jD (ps:=hp) (j:=i.toNat) (by omega)
 have aj:=jD (ps:=hp) (j:=j.toNat) (by omega)
 obtain⟨u,eu,fu⟩:=st.f.at ai
 obtain⟨v,ev,fv⟩:=st.f.at aj
 have ti:atI xs i=some (.ref u):=by
  have:=bZ eu
  rwa [show ((i.toNat:Nat):Int)=i by omega] at this
 have tj:atI xs j=some (.ref v):=by
  have:=bZ ev
  rwa [show ((j.toNat:Nat):Int)=j by omega] at this
 refine⟨_,rfl,_,rfl,x,CK _,_,_,_,rfl,hx,T.cl _,T.nS _,dB _ _ _,a,xs,_,_,rfl,rfl,st.s,ti,?_⟩
 refine⟨_,rfl,_,rfl,x,CK _,_,_,_,rfl,hx,T.cl _,T.nG _,dQ _ _ _,a,xs,_,_,rfl,rfl,st.s,tj,?_⟩
 have bi:=st.b _ (List.mem_of_getElem? ai)
 have bj:=st.b _ (List.mem_of_getElem? aj)
 exact⟨u,v,_,_,3900,3900,rfl,fu,fv,bi.1.pos,bj.1.pos,bi.2,bj.2,by omega,q⟩
def Ga (K:PySem.W.Frag) (CK:Kd→Addr):Sp:=fun vs H Q _=>∃(a b h:Addr) (xs ls ys:List V) (ds:List RD) (lv hs:List Mq.Q2) (m:Nat),vs=[.ref a,.ref b,.ref h]∧H a=some (.lst xs)∧gF CK K H xs ds∧StB K H b ls lv m∧SqL K H h ys∧Fqs K H ys hs∧(∀p∈hs,Mq.Low p)∧(∀d∈ds,uG (m:Int) d)∧bU ds≤hs.length∧ds.length≤40∧∀l zs H',bC H H'→H l=none→H' l=some (.lst zs)→Fqs K H' zs (uE lv hs 0 ds)→Q (.ref l) H'
abbrev pH:Stmt:=top 69
theorem lQ:aS ["rows","levels","held","flows","taken","row","fall"] ["rows","levels","held"] (aD pH):=⟨rfl,rfl,rfl,by decide +kernel,rfl,by decide +kernel,by decide +kernel⟩
theorem Mo {dV:Value} (F:cB K "flows_of" "flows_of" pH dV f fd)
  (T:RT K mg CR CK) {aN:Addr} (fN:∀H,Fq K H aN (0,1)) (mNO:mg "NOUGHT"=some (.ref aN))
  (GW:∀k,aP P w K mg base CX0 1 (fW k) (fdW k) ["self"] (kY k)) (bW:∀k,aR K (fdW k) ["self"] []) (mW:∀k,gD K (CK k) "word" (fW k))
  (GS:∀k,aP P w K mg base CX0 4 (fS k) (fdS k) ["self","fall","held"] (tQ K CK k)) (bS:∀k,aR K (fdS k) ["self","fall","held"] []) (mS:∀k,gD K (CK k) "stream" (fS k))
  (G1:aP P w K mg base CX0 4 g1 gd1 ["row","heights"] (Dh K CK)) (b1:aR K gd1 ["row","heights"] []) (k1:PySem.W.keepIn K (.ref g1)=true) (m1:mg "fall_of"=some (.ref g1)) :
  aP P w K mg base CX 5 f fd ["rows","levels","held"] (Ga K CK):=by
 refine F.ok lQ (fun vs H Q E h=>?_) (fun cdv A outer s H vs Q E hr h=>?_)
 ·obtain⟨a,b,h,xs,ls,ys,ds,lv,hs,m,rfl,ea,Rb,SA,hS,hF,hlo,hK,hh,h40,q⟩:=h
  rfl
 obtain⟨a,b,h,xs,ls,ys,ds,lv,hs,m,rfl,ea,Rb,SA,hS,hF,hlo,hK,hh,h40,q⟩:=h
 have r1:=hr.mono (show 1≤4 by omega)
 refine⟨_,(aB (aT (i:=3) lQ.nd rfl (Or.inl rfl) (cS aE))
  (aB (aT (i:=4) lQ.nd rfl (Or.inl rfl) aF)
  (aB (dW PassesOwn.never rfl (cY (pv 0)) (bF (i:=5) lQ.nd rfl (Or.inl rfl))
   (aB (aT (i:=6) lQ.nd rfl (Or.inl rfl) (aI G1 hr rfl m1 k1 b1 .nil aL (aA (pv 5) (aA (pv 1) aE))))
  (aG (cD (bG eQ (gA (pv 5) T.cl mW GW r1 bW .nil aL) cI (bL _)) (aB (bQ (mM PySem.F.plainAttrs_list PySem.F.slot_list_append PySem.F.type_list_append eX (pv 3) (aA (zI (pv 5) T.cl mS GS hr bS .nil aL (aA (pv 6) (aA (aX bN (pv 2) (pv 4) (fun _ _=>rfl)) aE))) aE)))
  (aG (Cs (i:=4) lQ.nd rfl (Or.inl rfl) aF Cr))) (aG (bQ (mM PySem.F.plainAttrs_list PySem.F.slot_list_append PySem.F.type_list_append eX (pv 3) (aA (zI (pv 5) T.cl mS GS hr bS .nil aL (aA (pv 6) (aA (dA (v:=.ref aN) rfl mNO rfl) aE))) aE))))))))
  (aG (aY (pv 3)))))),?_⟩
 have lxs:=Rb.length
 have lys:=hF.length
 refine⟨by show 0≤sizeLine;decide,fun l hl=>?_⟩
 have s1:=aH hl (.lst [])
 have e1:upd H l (.lst []) l=some (.lst []):=aC
 generalize upd H l (.lst [])=H1 at s1 e1 ⊢
 refine⟨_,rfl,a,rfl,⟨_,SqL.of (s1 _ _ ea)⟩,?_⟩
 refine fH (xs:=xs) (fun i σ H'=>bC H H'∧∃(zs:List V) (ti:Int) (z5 z6:Option V),σ=[some (.ref a),some (.ref b),some (.ref h),some (.ref l),some (.int ti),z5,z6]∧ti=((bU (ds.take i):Nat):Int)∧H' l=some (.lst zs)∧Fqs K H' zs (uE lv hs 0 (ds.take i))) ⟨s1,[],0,none,none,rfl,rfl,e1,.nil⟩ (fun i σ H' _ h=>h.1.seq (SqL.of ea)) ?_ ?_
 ·rintro i x σ H2 hx ⟨s2,zs,ti,z5,z6,rfl,hti,e2,F2⟩
  have hi:i < ds.length:=by have:=(List.getElem?_eq_some_iff.mp hx).1;omega
  obtain⟨⟨k0,u,v,p⟩,hd⟩:∃d,ds[i]?=some d:=⟨_,List.getElem?_eq_getElem hi⟩
  obtain⟨y,z,ey,rw0,fz0⟩:=Rb.at hd
  have ex:x=.ref y:=by rw[ey] at hx;exact(Option.some.inj hx).symm
  subst ex
  have rd:=hK _ (List.mem_of_getElem? hd)
  have pt:cQ (m:Int) u v:=⟨rd.1,rd.2.1,rd.2.2.1,rd.2.2.2.1⟩
  have lp:Mq.Low p:=rd.2.2.2.2.1
  have p0:k0=.pc→0 < p.1:=rd.2.2.2.2.2.1
  have bp:Mq.Bd 1000 p:=rd.2.2.2.2.2.2
  have et:ds.take (i+1)=ds.take i++[(k0,u,v,p)]:=by rw[List.take_add_one,hd];rfl
  have hcnt:bU (ds.take i)+cA k0+bU (ds.drop (i+1))=bU ds:=by
   have h1:ds=ds.take (i+1)++ds.drop (i+1):=(List.take_append_drop _ _).symm
   have h2:bU ds=bU (ds.take (i+1))+bU (ds.drop (i+1)):=by
    unfold bU bY
    rw[← List.length_append,← List.filter_append,List.take_append_drop]
   rw[h2,et,gX]
  have rw2:=rw0.same s2
  obtain⟨dr,hy⟩:=id rw2
  refine⟨_,rfl,_,rfl,y,b,(k0,u,v,p),.ref z,ls,lv,m,rfl,rw2,SA.same s2,pt,fun fa H3 s3 e3=>?_⟩
  have flow:Mq.Low (flF lv (k0,u,v,p))∧Mq.Bd 7801 (flF lv (k0,u,v,p)):=by
   have hb:=SA.b
   have hn:=SA.l
   have g1:lv.getD u.toNat (0,1)∈lv:=List.mem_of_getElem? (Mq.Nk (by have:=pt.1;have:=pt.2.1;omega))
   have g2:lv.getD v.toNat (0,1)∈lv:=List.mem_of_getElem? (Mq.Nk (by have:=pt.2.2.1;have:=pt.2.2.2;omega))
   exact⟨Mq.jE (hb _ g1).1.pos (hb _ g2).1.pos,(Mq.zW (hb _ g1).2 (hb _ g2).2 (hb _ g1).1.pos (hb _ g2).1.pos).mono (by omega)⟩
  have fa3:Fq K H3 fa (flF lv (k0,u,v,p)):=Fq.of e3
  have s23:=s2.trans s3
  have rw3:=rw0.same s23
  obtain⟨dr3,hy3⟩:=id rw3
  have fz3:=s23.fq fz0
  have e23:=s3 _ _ e2
  have lzs:=F2.length
  rw[zG,List.length_take] at lzs
  rw[et,uY,Nat.zero_add]
  refine⟨_,rfl,k0,y,dr3,_,rfl,hy3,(eE _ _ _ (by decide +kernel) (by decide +kernel) (by decide +kernel)),_,rfl,rfl,_,rfl,?_⟩
  by_cases hk:k0=.ho
  ·refine L2.ifT (by show decide (V.str k0.wd=V.str Kd.ho.wd)=true;rw[dR];exact decide_eq_true hk) ?_
   have hc:cA k0=1:=by unfold cA;rw[if_pos hk]
   obtain⟨w1,ew,fw⟩:=hF.at (Mq.Nk (show bU (ds.take i) < hs.length by omega))
   refine⟨_,rfl,.inl ⟨rfl,_,SqL.of e23⟩,_,rfl,k0,y,dr3,_,rfl,hy3,(eE _ _ _ (by decide +kernel) (by decide +kernel) (by decide +kernel)),?_⟩
   refine⟨_,rfl,_,rfl,_,rfl,h,ys,_,_,rfl,rfl,s23.seq hS,by rw[hti];exact bZ ew,y,z,fa,w1,.int u,.int v,p,_,_,1000,7801,rfl,rw3,fz3,fa3,s23.fq fw,lp.pos,flow.1.pos,bp,flow.2,by omega,p0,fun r H4 s4 f4=>?_⟩
   have e4:=s4 _ _ e23
   refine⟨l,_,_,rfl,rfl,e4,bH (by omega),?_⟩
   refine⟨_,rfl,_,_,rfl,rfl,?_⟩
   refine⟨(s23.trans s4).change hl,_,ti+1,_,_,rfl,by rw[gX,hti,hc];omega,aC,?_⟩
   have fl:Ov lv hs (bU (ds.take i)) (k0,u,v,p)=Ho k0 (flF lv (k0,u,v,p)) (hs.getD (bU (ds.take i)) Mq.z0) p:=by
    show Ho k0 _ (if k0=.ho then _ else _) _=_
    rw[if_pos hk]
   rw[fl]
   exact((F2.same (s3.trans s4)).app (.cons f4 .nil)).upd e4
  ·refine L2.ifF (by show decide (V.str k0.wd=V.str Kd.ho.wd)=false;rw[dR];exact decide_eq_false hk) ?_
   have hc:cA k0=0:=by unfold cA;rw[if_neg hk]
   refine⟨_,rfl,.inl ⟨rfl,_,SqL.of e23⟩,_,rfl,k0,y,dr3,_,rfl,hy3,(eE _ _ _ (by decide +kernel) (by decide +kernel) (by decide +kernel)),_,rfl,y,z,fa,aN,.int u,.int v,p,_,(0,1),1000,7801,rfl,rw3,fz3,fa3,fN _,lp.pos,flow.1.pos,bp,flow.2,by omega,p0,fun r H4 s4 f4=>?_⟩
   have e4:=s4 _ _ e23
   refine⟨l,_,_,rfl,rfl,e4,bH (by omega),?_⟩
   refine⟨(s23.trans s4).change hl,_,ti,_,_,rfl,by rw[gX,hti,hc];rfl,aC,?_⟩
   have fl:Ov lv hs (bU (ds.take i)) (k0,u,v,p)=Ho k0 (flF lv (k0,u,v,p)) (0,1) p:=by
    show Ho k0 _ (if k0=.ho then _ else _) _=_
    rw[if_neg hk]
   rw[fl]
   exact((F2.same (s3.trans s4)).app (.cons f4 .nil)).upd e4
 rintro σ H2 ⟨s2,zs,ti,z5,z6,rfl,hti,e2,F2⟩
 rw[lxs,List.take_length] at F2
 exact⟨_,rfl,q l zs H2 s2 hl e2 F2⟩
abbrev pV:Stmt:=cV (top 68) 3
theorem Oh:aS ["self","a","b"] ["self","a","b"] (aD pV):=⟨rfl,rfl,rfl,by decide +kernel,rfl,by decide +kernel,by decide +kernel⟩
theorem Lp {dV:Value} {CA:Addr} (F:cB K "fall" "Answer.fall" pV dV f fd) (ABx:AB K mg CA)
  (ml:mg "len"=none)
  (G1:aP P w K mg base CX0 3 g1 gd1 ["some","many"] (Pm K)) (b1:aR K gd1 ["some","many"] []) (k1:PySem.W.keepIn K (.ref g1)=true) (m1:mg "refuse_points"=some (.ref g1))
  (G2:aP P w K mg base CX0 3 g2 gd2 ["one","other"] (mP K Mq.minus)) (b2:aR K gd2 ["one","other"] []) (k2:PySem.W.keepIn K (.ref g2)=true) (m2:mg "minus"=some (.ref g2)):aP P w K mg base CX 4 f fd ["self","a","b"] (Gd CA K):=by
 refine F.ok Oh (fun vs H Q E h=>?_) (fun cdv A outer s H vs Q E hr h=>?_)
 ·obtain⟨a,lv,fl,i,j,rfl,⟨⟨dx,li,le,fo,xs,ys,ha,hle,Fle,hfo,Ffo⟩⟩,hi,hj,h20,hb,q⟩:=h
  rfl
 obtain⟨a,lv,fl,i,j,rfl,⟨⟨dx,li,le,fo,xs,ys,ha,hle,Fle,hfo,Ffo⟩⟩,hi,hj,h20,hb,q⟩:=h
 refine⟨_,(aB (bQ (aI G1 hr rfl m1 k1 b1 .nil aL (aA (cS (aA (pv 1) (aA (pv 2) aE))) (aA (cK bO rfl ml PySem.boot_len (aA (bV (pv 0) rfl) aE)) aE))))
  (aG (aY (aI G2 hr rfl m2 k2 b2 .nil aL (aA (aX bN (bV (pv 0) rfl) (pv 1) (fun _ _=>rfl)) (aA (aX bN (bV (pv 0) rfl) (pv 2) (fun _ _=>rfl)) aE)))))),?_⟩
 have lxs:=Fle.length
 obtain⟨u,eu,fu⟩:=Fle.at (jD hi)
 obtain⟨v,ev,fv⟩:=Fle.at (jD hj)
 have b1:=hb _ (List.mem_of_getElem? (jD hi))
 have b2:=hb _ (List.mem_of_getElem? (jD hj))
 refine⟨_,rfl,_,rfl,by show 2≤sizeLine;decide,fun L hL=>?_⟩
 have sL:=aH hL (.lst [.int (i:Int),.int (j:Int)])
 have eL:upd H L (.lst [.int (i:Int),.int (j:Int)]) L=some (.lst [.int (i:Int),.int (j:Int)]):=aC
 generalize upd H L (.lst [.int (i:Int),.int (j:Int)])=H1 at sL eL ⊢
 refine⟨_,rfl,a,CA,_,_,_,rfl,sL _ _ ha,ABx.cl,ABx.nE,xV _ _ _,le,xs,rfl,.inl (sL.seq hle),L,(i:Int),(j:Int),_,rfl,SqL.of eL,by omega,by omega,by omega,by omega,fun H2 s2=>?_⟩
 have s02:=sL.trans s2
 refine⟨_,rfl,a,CA,_,_,_,rfl,s02 _ _ ha,ABx.cl,ABx.nE,xV _ _ _,_,rfl,le,xs,_,_,rfl,rfl,s02.seq hle,bZ eu,_,rfl,a,CA,_,_,_,rfl,s02 _ _ ha,ABx.cl,ABx.nE,xV _ _ _,_,rfl,le,xs,_,_,rfl,rfl,s02.seq hle,bZ ev,?_⟩
 exact⟨u,v,_,_,3900,3900,rfl,s02.fq fu,s02.fq fv,b1.1.pos,b2.1.pos,b1.2,b2.2,by omega,fun r H3 s3 e3=>q r H3 (s02.trans s3) e3⟩
def Af (CN CA:Addr) (K:PySem.W.Frag):Sp:=fun vs H Q _=>∃(x dx n l:Addr) (m b:Nat) (kb:Nat→Nat) (L:Int) (ds:List RD),vs=[.ref x,.ref n]∧H x=some (.ins CA dx [])∧Cw CN K H n l m b kb L ds∧bw b (wd m ds)≤3900∧(∀i,∃z:Int,z.natAbs≤1∧eqR m ds (i+1)=(z:Rat))∧(eO wHo (skl ds) ds.length).2=[]∧Ii m ds=[]∧
 ∀ps H',cL x H H'→(∀l o,H l=some o→l≠x→Tf l CA K H' x (lvS m ps) (uE (lvS m ps) (ps.drop (m - 1)) 0 ds))→ps.length=wd m ds→Mq.iL ps→Ovr (bw b (wd m ds)) ps→Sv m ds (eqR m ds) (uP ps)→Q .non H'
abbrev oS:Stmt:=cV (top 68) 0
theorem qZ:aS ["self","net","both","known","inner"] ["self","net"] (aD oS):=⟨rfl,rfl,rfl,by decide +kernel,rfl,by decide +kernel,by decide +kernel⟩
theorem Js {dV:Value} {CA:Addr} (F:cB K "__init__" "Answer.__init__" oS dV f fd) (ABx:AB K mg CA)
  {CN:Addr} (NTx:NT K mg CN) {aN:Addr} (fN:∀H,Fq K H aN (0,1)) (mNO:mg "NOUGHT"=some (.ref aN))
  {gRo:Addr} {gdRo:FuncData} (GRo:aP P w K mg base CX0 4 gRo gdRo ["self"] (tH CN K CK)) (bRo:aR K gdRo ["self"] []) (mRo:gD K CN "rows" gRo)
  {gMa:Addr} {gdMa:FuncData} (GMa:aP P w K mg base CX0 1 gMa gdMa ["self"] (oV CN K)) (bMa:aR K gdMa ["self"] []) (mMa:gD K CN "many" gMa)
  (G1:aP P w K mg base CX0 7 g1 gd1 ["net"] (Kb CN K)) (b1:aR K gd1 ["net"] []) (k1:PySem.W.keepIn K (.ref g1)=true) (m1:mg "refuse_unanswered"=some (.ref g1))
  (G2:aP P w K mg base CX0 7 g2 gd2 ["net"] (By CN K)) (b2:aR K gd2 ["net"] []) (k2:PySem.W.keepIn K (.ref g2)=true) (m2:mg "equations"=some (.ref g2))
  (G3:aP P w K mg base CX0 5 g3 gd3 ["matrix","right"] (pE K)) (b3:aR K gd3 ["matrix","right"] []) (k3:PySem.W.keepIn K (.ref g3)=true) (m3:mg "solved"=some (.ref g3))
  (G4:aP P w K mg base CX0 5 g4 gd4 ["rows","levels","held"] (Ga K CK)) (b4:aR K gd4 ["rows","levels","held"] []) (k4:PySem.W.keepIn K (.ref g4)=true) (m4:mg "flows_of"=some (.ref g4)):aP P w K mg base CX 8 f fd ["self","net"] (Af CN CA K):=by
 refine F.ok qZ (fun vs H Q E h=>?_) (fun cdv A outer s H vs Q E hr h=>?_)
 ·obtain⟨x,dx,n,l,m,b,kb,L,ds,rfl,hx,NB,hw39,h01,hR,hF,q⟩:=h
  rfl
 obtain⟨x,dx,n,l,m,b,kb,L,ds,rfl,hx,NB,hw39,h01,hR,hF,q⟩:=h
 have r1:=hr.mono (show 1≤7 by omega)
 have r4:=hr.mono (show 4≤7 by omega)
 have r5:=hr.mono (show 5≤7 by omega)
 have r7:=hr
 refine⟨_,(aB (bQ (aI G1 r7 rfl m1 k1 b1 .nil aL (aA (pv 1) aE)))
  (aB (aT (i:=2) qZ.nd rfl (Or.inl rfl) (aI G2 r7 rfl m2 k2 b2 .nil aL (aA (pv 1) aE)))
  (aB (aT (i:=3) qZ.nd rfl (Or.inl rfl) (aI G3 r5 rfl m3 k3 b3 .nil aL (aA (aX bA (pv 2) aF (fun _ _=>rfl)) (aA (aX bA (pv 2) aF (fun _ _=>rfl)) aE))))
  (aB (aT (i:=4) qZ.nd rfl (Or.inl rfl) (aV iI (fF (pv 1) NTx.cl mMa GMa r1 bMa .nil aL) aF))
  (aB (kI (pv 0) (aX bA (pv 2) aF (fun _ _=>rfl)) rfl)
  (aB (kI (pv 0) (aV pD (cS (aA (dA (v:=.ref aN) rfl mNO rfl) aE)) (fQ iA (pv 3) iQ (fU (pv 4)))) rfl)
  (aG (kI (pv 0) (aI G4 r5 rfl m4 k4 b4 .nil aL (aA (fF (pv 1) NTx.cl mRo GRo r4 bRo .nil aL) (aA (bV (pv 0) rfl) (aA (fQ iA (pv 3) (fU (pv 4)) iQ) aE)))) rfl)))))))),?_⟩
 have nt:=NB.nt
 have hK:=NB.ok
 have m20:=NB.m20
 have h40:=NB.h40
 have hbig:=NB.cu
 have EB:=NB.eb
 have mo:=EB.o.m1
 refine⟨_,rfl,n,l,m,ds,rfl,nt,EB.o.pt,mo,m20,h40,hR,hF,fun H1 s1=>?_⟩
 refine⟨_,rfl,n,l,m,kb,ds,rfl,nt.same s1,hK,mo,m20,h40,hbig,fun tt p r us ys X Y H2 s2 et np nr ep er FM FY nx EO=>?_⟩
 have s02:=s1.trans s2
 have lX:X.length=m - 1+bU ds:=EO.x.h
 have lY:Y.length=X.length:=by rw[EO.y.w,lX]
 have w26:=EB.w26
 have lw:wd m ds=m - 1+bU ds:=rfl
 have yq:∀p∈Y,Q01 p:=fun p hp=>by
  obtain⟨i,hi⟩:=List.getElem?_of_mem hp
  have ep:p=Y.getD i (0,1):=by rw[List.getD_eq_getElem?_getD,hi];rfl
  obtain⟨z,hz,ez⟩:=h01 i
  exact Vp (EO.y.l p hp).1 hz (by rw[ep,EO.vy,ez])
 refine⟨_,rfl,tt,_,0,_,rfl,rfl,SqT.of et,rfl,_,rfl,tt,_,1,_,rfl,rfl,SqT.of et,rfl,?_⟩
 refine⟨p,r,p,H1,us,ys,X,Y,b,b,rfl,SqL.of ep,xK FM (fun x hx=>(nx x hx).1),SqL.of er,FY,lY,fun p hp=>(EO.y.l p hp).1,fun p hp=>(yq p hp).bd EB.b1,EqB.pos EO,fun row hr=>⟨fun p hp=>((EB.cell EO row hr).1 p hp).1,(EB.cell EO row hr).2⟩,by omega,by rw[lX];exact EB.hb,Fo (EqB.pos EO) (fun p hp=>(EO.y.l p hp).1.pos) lY (fun row hr p hp=>((EB.cell EO row hr).1 p hp).2) (fun p hp=>(yq p hp).ov EB.L1 EB.LB) EB.L1,EB.b1,by rw[lX];exact Nat.le_trans EB.hbw (by decide),EB.wgt EO,fun kn zk ps H3 s3 nkn ekn Fk SU OV=>?_⟩
 rw[lX] at OV
 have lps:ps.length=wd m ds:=by rw[SU.len,lX]
 have lo:=SU.low
 have b39:=Nj (n:=bw b (wd m ds)) OV lo hw39
 have s03:=s02.trans s3
 obtain⟨dn,hn⟩:=(nt.same s03).ob
 refine⟨_,rfl,n,dn,_,rfl,hn,dX _ _ (by decide +kernel) (by decide +kernel),n,l,_,ds,rfl,nt.same s03,_,_,rfl,rfl,?_⟩
 have et3:=s3 _ _ et
 have hx3:=s03 _ _ hx
 have em:(m:Int) - 1=((m - 1:Nat):Int):=by omega
 show iO _ _ _ [some (.ref x),some (.ref n),some (.ref tt),some (.ref kn),some (.int ((m:Int) - 1))] H3
 rw[em]
 refine⟨_,rfl,tt,_,0,_,rfl,rfl,SqT.of et3,rfl,_,rfl,x,CA,dx,[],rfl,hx3,ABx.cl,ABx.nI,(by show 0 < 1000;decide),?_⟩
 have x4:cL x H (upd H3 x (.ins CA dx (dY "lines" (.ref p) []))):=fun b o h nb=>by rw[aW nb];exact s03 _ _ h
 have x34:cL x H3 (upd H3 x (.ins CA dx (dY "lines" (.ref p) []))):=fun b o h nb=>by rw[aW nb];exact h
 have hx4:upd H3 x (.ins CA dx (dY "lines" (.ref p) [])) x=some (.ins CA dx (dY "lines" (.ref p) [])):=aC
 have ek4:=cL.seqI hx3 x34 (SqL.of (K:=K) ekn)
 have Fk4:=cL.fqsI hx3 x34 Fk
 generalize upd H3 x (.ins CA dx (dY "lines" (.ref p) []))=H4 at x4 x34 hx4 ek4 Fk4 ⊢
 refine⟨by show 1≤sizeLine;decide,fun L1 hL1=>?_⟩
 have s5:=aH hL1 (.lst [.ref aN])
 have e5:upd H4 L1 (.lst [.ref aN]) L1=some (.lst [.ref aN]):=aC
 generalize upd H4 L1 (.lst [.ref aN])=H5 at s5 e5 ⊢
 refine⟨_,rfl,_,rfl,_,rfl,kn,zk,rfl,s5.seq ek4,fun S hS=>?_⟩
 rw[Jv]
 have s6:=aH hS (.lst (zk.take (m - 1)))
 have e6:upd H5 S (.lst (zk.take (m - 1))) S=some (.lst (zk.take (m - 1))):=aC
 generalize upd H5 S (.lst (zk.take (m - 1)))=H6 at s6 e6 ⊢
 have lzk:=Fk.length
 refine⟨L1,S,_,_,rfl,rfl,s6 _ _ e5,e6,Nat.le_of_lt (bH (by rw[List.length_take];simp only[List.length_cons,List.length_nil];omega)),fun V1 hV1=>?_⟩
 have s7:=aH hV1 (.lst ([.ref aN]++zk.take (m - 1)))
 have e7:upd H6 V1 (.lst ([.ref aN]++zk.take (m - 1))) V1=some (.lst ([.ref aN]++zk.take (m - 1))):=aC
 generalize upd H6 V1 (.lst ([.ref aN]++zk.take (m - 1)))=H7 at s7 e7 ⊢
 have s47:=s5.trans (s6.trans s7)
 have hx7:=s47 _ _ hx4
 refine⟨_,rfl,x,CA,dx,_,rfl,hx7,ABx.cl,ABx.nE,(by have:=eP ("lines":Str) (.ref p) [];simp only[List.length_nil] at this;omega),?_⟩
 have x78:cL x H7 (upd H7 x (.ins CA dx (dY "levels" (.ref V1) (dY "lines" (.ref p) [])))):=fun b o h nb=>by rw[aW nb];exact h
 have hx8:upd H7 x (.ins CA dx (dY "levels" (.ref V1) (dY "lines" (.ref p) []))) x=some (.ins CA dx (dY "levels" (.ref V1) (dY "lines" (.ref p) []))):=aC
 generalize upd H7 x (.ins CA dx (dY "levels" (.ref V1) (dY "lines" (.ref p) [])))=H8 at x78 hx8 ⊢
 have nn:=Ux hx nt
 have nt4:=cX.xI hx3 x34 nn (nt.same s03)
 have nt8:=cX.xI hx7 x78 nn (nt4.same s47)
 have ek8:=cL.seqI hx7 x78 (s47.seq ek4)
 have Fk8:=cL.fqsI hx7 x78 (Fk4.same s47)
 have ev8:=cL.seqI hx7 x78 (SqL.of (K:=K) e7)
 have Fv8:Fqs K H8 ([.ref aN]++zk.take (m - 1)) (lvS m ps):=.cons (fN _) (Fqs.take _ Fk8)
 obtain⟨dn8,hn8⟩:=nt8.ob
 refine⟨_,rfl,n,dn8,_,rfl,hn8,dX _ _ (by decide +kernel) (by decide +kernel),n,l,_,ds,rfl,nt8,by omega,fun ro xr H9 s9 nro ero Rb=>?_⟩
 have hx9:=s9 _ _ hx8
 have ek9:=s9.seq ek8
 refine⟨_,rfl,x,CA,dx,_,_,rfl,hx9,ABx.cl,ABx.nE,(by rw[bM,if_pos rfl]),_,rfl,_,rfl,_,rfl,kn,zk,rfl,ek9,fun S2 hS2=>?_⟩
 rw[vC]
 have s10:=aH hS2 (.lst (zk.drop (m - 1)))
 have e10:upd H9 S2 (.lst (zk.drop (m - 1))) S2=some (.lst (zk.drop (m - 1))):=aC
 generalize upd H9 S2 (.lst (zk.drop (m - 1)))=H10 at s10 e10 ⊢
 have s80:=s9.trans s10
 have lLv:(lvS m ps).length=m:=by
  unfold lvS
  rw[List.length_cons,List.length_take];omega
 refine⟨ro,V1,S2,xr,_,_,ds,lvS m ps,ps.drop (m - 1),m,rfl,s10 _ _ ero,Rb.same s10,⟨s80.seq ev8,Fv8.same s80,lLv,fun s hs=>?_⟩,SqL.of e10,Fqs.drop _ (Fk8.same s80),fun p hp=>lo p (List.mem_of_mem_drop hp),fun d hd=>?_,by rw[List.length_drop];omega,h40,fun fo zf H11 s11 nfo efo Ffo=>?_⟩
 ·rcases List.mem_cons.mp hs with z | z
  ·rw[z];exact⟨⟨by decide,by decide⟩,Lh (n:=3899)⟩
  ·exact b39 s (List.mem_of_mem_take z)
 ·obtain⟨i,hi⟩:=List.getElem?_of_mem hd
  exact(hK i d hi).1
 have s81:=s80.trans s11
 have hx11:=s81 _ _ hx8
 refine⟨_,rfl,x,CA,dx,_,rfl,hx11,ABx.cl,ABx.nO,(by have:=eP ("lines":Str) (.ref p) [];have:=eP ("levels":Str) (.ref V1) (dY "lines" (.ref p) []);simp only[List.length_nil] at *;omega),?_⟩
 have x12:cL x H11 (upd H11 x (.ins CA dx (kE p V1 fo))):=fun b o h nb=>by rw[aW nb];exact h
 have hx12:upd H11 x (.ins CA dx (kE p V1 fo)) x=some (.ins CA dx (kE p V1 fo)):=aC
 show Q .non (upd H11 x (.ins CA dx (kE p V1 fo)))
 generalize upd H11 x (.ins CA dx (kE p V1 fo))=H12 at x12 hx12 ⊢
 refine q ps H12 (fun b o h nb=>x12 _ _ (s81 _ _ (x78 _ _ (s47 _ _ (x4 _ _ h nb)) nb)) nb) (fun l0 o0 h0 n0=>⟨dx,p,V1,fo,_,zf,hx12,cL.seqI hx11 x12 (s81.seq ev8),cL.fqsI hx11 x12 (Fv8.same s81),cL.seqI hx11 x12 (SqL.of (K:=K) efo),cL.fqsI hx11 x12 Ffo,fun z=>?_,fun z=>?_⟩) lps lo OV (EqB.sol EO SU fun i _=>EO.vy i)
 ·rw[z,(s5.trans s6) _ _ (x4 _ _ h0 n0)] at hV1;cases hV1
 ·rw[z,s80 _ _ (x78 _ _ (s47 _ _ (x4 _ _ h0 n0)) n0)] at nfo;cases nfo
end
end K66
set_option maxHeartbeats 1000000
namespace L2
open PySem PySem.Spec PyProof.Rows Shp
abbrev Bq (p:Mq.Q2):Prop:=Mq.B 30 p.1∧p.2.natAbs≤16
structure Kj (m t:Nat) (e:Hn):Prop where
 pt:cQ (m:Int) e.2.2.1 e.2.2.2.1
 sl:Mq.Low e.2.2.2.2
 bd:Mq.Bd 30 e.2.2.2.2
 pc:e.2.1=.pc→0 < e.2.2.2.2.1∧Bq e.2.2.2.2
 ho:e.2.1=.ho→e.1≠none
 tg:∀k j,e.1=some (k,j)→e.2.1≠.pu∧1≤k∧k < m∧j < k∧((e.2.2.1=(rot m t k:Int)∧e.2.2.2.1=(rot m t j:Int))∨(e.2.2.1=(rot m t j:Int)∧e.2.2.2.1=(rot m t k:Int)))
structure Hnk (m t J:Nat) (E:List Hn):Prop where
 m1:1≤m
 tm:t < m
 en:∀e∈E,Kj m t e
 nd:((tgs E).map (·.1)).Nodup
 al:∀k,1≤k→k < J→∃j,(k,j)∈tgs E
 lt:∀p∈tgs E,p.1 < J
 ln:(tgs E).length+1=J
section
variable {m t J:Nat} {E:List Hn}
theorem Hnk.ins (h:Hnk m t J E) {e:Hn} (he:Kj m t e) (e0:e.1=none) (i:Nat):Hnk m t J (E.take i++e :: E.drop i):=by
 have et:tgs (E.take i++e :: E.drop i)=tgs E:=by
  unfold tgs
  rw[List.filterMap_append,List.filterMap_cons_none e0,← List.filterMap_append,List.take_append_drop]
 refine⟨h.m1,h.tm,fun x hx=>?_,by rw[et];exact h.nd,fun k a b=>by rw[et];exact h.al k a b,fun p hp=>h.lt p (by rw[et] at hp;exact hp),by rw[et];exact h.ln⟩
 rcases Do hx with z | z
 ·rw[z];exact he
 ·exact h.en x z
theorem Hnk.tree (h:Hnk m t J E) {e:Hn} {j:Nat} (he:Kj m t e) (e0:e.1=some (J,j)) (i:Nat):Hnk m t (J+1) (E.take i++e :: E.drop i):=by
 have et:(tgs (E.take i++e :: E.drop i)).Perm ((J,j) :: tgs E):=by
  unfold tgs
  rw[List.filterMap_append,List.filterMap_cons_some e0]
  refine List.perm_middle.trans ?_
  rw[← List.filterMap_append,List.take_append_drop]
 refine⟨h.m1,h.tm,fun x hx=>?_,?_,fun k a b=>?_,fun p hp=>?_,?_⟩
 ·rcases Do hx with z | z
  ·rw[z];exact he
  ·exact h.en x z
 ·rw[(et.map (·.1)).nodup_iff,List.map_cons,List.nodup_cons]
  refine⟨fun z=>?_,h.nd⟩
  obtain⟨p,hp,ep⟩:=List.mem_map.mp z
  have:=h.lt p hp
  omega
 ·by_cases c:k=J
  ·exact⟨j,et.mem_iff.mpr (by rw[c];simp)⟩
  ·obtain⟨j',hj'⟩:=h.al k a (by omega)
   exact⟨j',et.mem_iff.mpr (List.mem_cons_of_mem _ hj')⟩
 ·rcases List.mem_cons.mp (et.mem_iff.mp hp) with z | z
  ·rw[z];show J < J+1;omega
  ·have:=h.lt p z;omega
 ·rw[et.length_eq,List.length_cons,h.ln]
theorem Hnk.pt (h:Hnk m t J E):∀d∈rwH E,cQ (m:Int) d.2.1 d.2.2.1:=fun d hd=>by
 obtain⟨e,he,rfl⟩:=List.mem_map.mp hd
 exact(h.en e he).pt
theorem Hnk.cn0 (h:Hnk m t m E):∀n k,k≤n→k < m→Cn (rwH E) (rot m t 0) (rot m t k)
 |n,0,_,_=>.refl _
 |0,k+1,hk,_=>by omega
 |n+1,k+1,hk,hm=>by
  obtain⟨j,hj⟩:=h.al (k+1) (by omega) hm
  obtain⟨e,he,te⟩:=List.mem_filterMap.mp hj
  obtain⟨hp,_,_,jk,ends⟩:=(h.en e he).tg _ _ te
  have ih:=Hnk.cn0 h n j (by omega) (by omega)
  have r:Cn (rwH E) e.2.2.1.toNat e.2.2.2.1.toNat:=.row (List.mem_map.mpr ⟨e,he,rfl⟩) hp
  rcases ends with ⟨a,b⟩ | ⟨a,b⟩
  ·rw[a,b,Int.toNat_natCast,Int.toNat_natCast] at r
   exact ih.trans r.symm
  ·rw[a,b,Int.toNat_natCast,Int.toNat_natCast] at r
   exact ih.trans r
theorem Hnk.cn (h:Hnk m t m E) (p:Nat) (hp:p < m):Cn (rwH E) 0 p:=by
 obtain⟨k,hk,rfl⟩:=yK h.tm hp
 obtain⟨k0,hk0,e0⟩:=yK h.tm (show 0 < m by have:=h.m1;omega)
 have a:=h.cn0 k k (Nat.le_refl _) hk
 have b:=h.cn0 k0 k0 (Nat.le_refl _) hk0
 rw[e0] at b
 exact b.symm.trans a
theorem Hnk.frs (h:Hnk m t J E):Frs (rwH E):=by
 intro A B d e hd cn
 have at_:(rwH E)[A.length]?=some d:=by rw[e,List.getElem?_append_right (Nat.le_refl _),Nat.sub_self];rfl
 have atx:∀i x,i < A.length→A[i]?=some x→∃y:Hn,E[i]?=some y∧y.2=x:=fun i x hi hx=>by
  have:(rwH E)[i]?=some x:=by rw[e,List.getElem?_append_left hi];exact hx
  rw[List.getElem?_map] at this
  obtain⟨y,hy,ey⟩:=Option.map_eq_some_iff.mp this
  exact⟨y,hy,ey⟩
 rw[List.getElem?_map] at at_
 obtain⟨y,hy,rfl⟩:=Option.map_eq_some_iff.mp at_
 have oy:=h.en y (List.mem_of_getElem? hy)
 obtain⟨⟨k,j⟩,tk⟩:∃p,y.1=some p:=Option.ne_none_iff_exists'.mp (oy.ho hd)
 obtain⟨_,k1,km,jk,ends⟩:=oy.tg k j tk
 have dec:∀p q,(p,q)∈tgs E→q < p:=fun p q hpq=>by
  obtain⟨z,hz,tz⟩:=List.mem_filterMap.mp hpq
  exact((h.en z hz).tg _ _ tz).2.2.2.1
 have r:=Cn.ind (ds:=bY .ho A) (R:=fun p q=>p=q∨(p < m∧q < m∧∀a b,a < m→b < m→rot m t a=p→rot m t b=q→(qT (tgs E) k a↔qT (tgs E) k b))) (fun p=>.inl rfl) (fun p q f=>by
  rcases f with f | ⟨x,y,f⟩
  ·exact .inl f.symm
  ·exact .inr ⟨y,x,fun a b ha hb e1 e2=>(f b a hb ha e2 e1).symm⟩) (fun p q x f g=>by
  rcases f with f | ⟨f1,f2,f⟩
  ·rw[f];exact g
  ·rcases g with g | ⟨g1,g2,g⟩
   ·rw[← g];exact .inr ⟨f1,f2,f⟩
   ·refine .inr ⟨f1,g2,fun a b ha hb e1 e2=>?_⟩
    obtain⟨c,hc,ec⟩:=yK h.tm f2
    exact(f a c ha hc e1 ec).trans (g c b hc hb ec e2)) (fun x hx hk=>by
  obtain⟨xA,xk⟩:=List.mem_filter.mp hx
  obtain⟨i,hi⟩:=List.getElem?_of_mem xA
  have il:=(List.getElem?_eq_some_iff.mp hi).1
  obtain⟨z,hz,rfl⟩:=atx i x il hi
  have oz:=h.en z (List.mem_of_getElem? hz)
  obtain⟨⟨k',j'⟩,tk'⟩:∃p,z.1=some p:=Option.ne_none_iff_exists'.mp (oz.ho (of_decide_eq_true xk))
  obtain⟨_,a1,am,jk',ends'⟩:=oz.tg k' j' tk'
  have ne:k'≠k:=fun c=>by
   rw[c] at tk'
   have:=Jl h.nd hz hy tk' tk
   omega
  have mem:(k',j')∈tgs E:=List.mem_filterMap.mpr ⟨z,List.mem_of_getElem? hz,tk'⟩
  have iff:=qT.iff h.nd mem ne
  obtain⟨q0,q1,q2,q3⟩:=oz.pt
  refine .inr ⟨by omega,by omega,fun a b ha hb e1 e2=>?_⟩
  rcases ends' with ⟨x,y⟩ | ⟨x,y⟩
  ·rw[x,Int.toNat_natCast] at e1
   rw[y,Int.toNat_natCast] at e2
   rw[lC h.tm ha am e1,lC h.tm hb (by omega) e2]
   exact iff
  ·rw[x,Int.toNat_natCast] at e1
   rw[y,Int.toNat_natCast] at e2
   rw[lC h.tm ha (by omega) e1,lC h.tm hb am e2]
   exact iff.symm) cn
 have no:¬qT (tgs E) k j:=fun c=>by
  have:=c.ge dec
  omega
 rcases ends with ⟨a,b⟩ | ⟨a,b⟩
 ·rw[a,b,Int.toNat_natCast,Int.toNat_natCast] at r
  rcases r with r | ⟨_,_,r⟩
  ·have:=lC h.tm km (by omega) r
   omega
  ·exact no ((r k j km (by omega) rfl rfl).mp .self)
 ·rw[a,b,Int.toNat_natCast,Int.toNat_natCast] at r
  rcases r with r | ⟨_,_,r⟩
  ·have:=lC h.tm (by omega) km r
   omega
  ·exact no ((r j k (by omega) km rfl rfl).mpr .self)
theorem Hnk.hold_le (h:Hnk m t J E):bU (rwH E)+1≤J:=by
 have:∀{E:List Hn},(∀e∈E,e.2.1=.ho→e.1≠none)→bU (rwH E)≤(tgs E).length:=fun {E}=>by
  induction E with
  |nil=>intro _;exact Nat.le_refl _
  |cons e E ih=>
   intro h
   have ih:=ih fun x hx=>h x (List.mem_cons_of_mem _ hx)
   show bU (e.2 :: rwH E)≤_
   rw[fR]
   unfold tgs at ih ⊢
   rw[List.filterMap_cons]
   by_cases c:e.2.1=.ho
   ·obtain⟨k,tk⟩:∃k,e.1=some k:=Option.ne_none_iff_exists'.mp (h e (by simp) c)
    rw[tk]
    have:cA e.2.1=1:=if_pos c
    simp only[List.length_cons];omega
   ·have:cA e.2.1=0:=if_neg c
    split<;>(try simp only[List.length_cons])<;>omega
 have a:=this fun e he hk=>(h.en e he).ho hk
 have:=h.ln
 omega
theorem Hnk.nof (h:Hnk m t m E):Nof m (rwH E):=by
 refine⟨h.m1,h.pt,fun d hd hk=>?_,h.cn,h.frs⟩
 obtain⟨e,he,rfl⟩:=List.mem_map.mp hd
 have p0:=((h.en e he).pc hk).1
 have:=(h.en e he).sl.pos
 unfold Mq.val
 rw[Rat.div_def]
 exact Rat.mul_pos (by exact_mod_cast p0) (Rat.inv_pos.mpr (by exact_mod_cast (show 0 < e.2.2.2.2.2 by omega)))
theorem Hnk.L (h:Hnk m t J E):1≤LH E∧Mq.B (30*E.length+1) (LH E)∧∀d∈rwH E,d.1=.pc→0 < d.2.2.2.1∧d.2.2.2.1 ∣ LH E∧1≤d.2.2.2.2∧d.2.2.2.2.natAbs≤16:=by
 have al:∀a∈(E.map fun e=>if e.2.1=.pc then e.2.2.2.2.1 else 1),1≤a∧Mq.B 30 a:=fun a ha=>by
  obtain⟨e,he,rfl⟩:=List.mem_map.mp ha
  split
  ·rename_i c
   obtain⟨p0,b⟩:=(h.en e he).pc c
   exact⟨p0,b.1⟩
  ·exact⟨by decide,show (1:Nat) < 2 ^ 30 by decide⟩
 refine⟨Mq.Fz fun a ha=>(al a ha).1,?_,fun d hd hk=>?_⟩
 ·have:=Mq.Se (u:=30) fun a ha=>(al a ha).2
  rw[List.length_map] at this
  exact this
 ·obtain⟨e,he,rfl⟩:=List.mem_map.mp hd
  obtain⟨p0,b⟩:=(h.en e he).pc hk
  refine⟨p0,Mq.Dj (List.mem_map.mpr ⟨e,he,if_pos hk⟩),(h.en e he).sl.pos,b.2⟩
end
theorem Px {m bl:Nat} {L:Int} {ds:List RD} (o:Nof m ds) (L1:1≤L) (LB:Mq.B bl L) (dv:∀d∈ds,d.1=.pc→0 < d.2.2.2.1∧d.2.2.2.1 ∣ L∧1≤d.2.2.2.2∧d.2.2.2.2.natAbs≤16) (len:ds.length≤40) (w8:wd m ds≤8) (hbl:bl≤361):EqB m 371 L ds:=by
 refine⟨o,by omega,by omega,by omega,?_,L1,LB.mono (by omega),fun i j=>?_⟩
 ·show (371+5)*(wd m ds+1)+8≤4000
  omega
 have one:=Mq.Fr.one L1
 have c:∀d∈ds,∀k,Mq.Fr L 18 (cM d k (i+1) (j+1)):=fun d hd k=>by
  unfold cM
  cases hk:d.1 with
  |pu=>exact Mq.Fr.zero.mono (Nat.zero_le _)
  |ho=>
   dsimp only
   refine(Mq.Fr.add (Dy (Lw one) _ _ _) (N:=1) ?_).mono (by decide)
   rw[Rat.mul_comm]
   exact Dy (Lw one) _ _ _
  |pc=>
   obtain⟨p0,dvd,p1,le⟩:=dv d hd hk
   dsimp only
   rw[Rat.mul_assoc]
   have:1 / Mq.val d.2.2.2=((d.2.2.2.2:Int):Rat) / ((d.2.2.2.1:Int):Rat):=by
    have:=Mq.qJ p1
    have:=Mq.qJ (show 1≤d.2.2.2.1 by omega)
    unfold Mq.val;grind
   rw[this]
   exact(Dy (Dy (Mq.Fr.of L1 (by omega) dvd le) _ _ _) _ _ _).mono (by decide)
 refine Mq.Fr.get (m:=10) (n:=bl) (Lc m c) ?_ LB (by omega)
 calc ds.length*18≤40*18:=Nat.mul_le_mul_right _ len
  _ < 2 ^ 10:=by decide
end L2
set_option maxHeartbeats 4000000
namespace K66
open PySem L2 Shp
section
variable {P:Program} {w:World} {K:PySem.W.Frag} {mg:Str→Option Value} {base:Heap} {f g1 g2 g3 g4 g5 g6 g7 g8:Addr} {fd gd1 gd2 gd3 gd4 gd5 gd6 gd7 gd8:FuncData} {CX:CXT}
variable {CR:Addr} {CK:Kd→Addr} {fW fJ fT fS:Kd→Addr} {fdW fdJ fdT fdS:Kd→FuncData}
abbrev uL:Stmt:=top 75
theorem Kl:aS ["_law_script","_law_k","_law_found"] ["_law_script","_law_k"] (aD uL):=⟨rfl,rfl,rfl,by decide +kernel,rfl,by decide +kernel,by decide +kernel⟩
def Ce (K:PySem.W.Frag):Sp:=fun vs H Q _=>∃(a:Addr) (ns:List Int) (j:Int) (k:Nat),vs=[.ref a,.int j]∧j=(k:Int)∧SqL K H a (ns.map V.int)∧ns.length≤63∧∀i H',bC H H'→Q (.int i) H'
theorem Oq {dV:Value} (F:cB K "_law_draw" "_law_draw" uL dV f fd) :
  aP P w K mg base CX 1 f fd ["_law_script","_law_k"] (Ce K):=by
 refine F.ok Kl (fun vs H Q E h=>?_) (fun cdv A outer s H vs Q E hr h=>?_)
 ·obtain⟨a,ns,j,k,rfl,hj,hS,h63,q⟩:=h
  rfl
 obtain⟨a,ns,j,k,rfl,hj,hS,h63,q⟩:=h
 have hu:=hr.units
 refine⟨_,(aB (aT (i:=2) Kl.nd rfl (Or.inl rfl) (fQ iA (pv 0) (fU (pv 1)) (fU (aV dC (pv 1) aF))))
  (aB (cD (bG (Cd hu) (pv 2) (cS aE) (bL _)) (aG (aY aF)) bK)
  (aG (aY (aX bN (pv 2) aF (fun _ _=>rfl)))))),?_⟩
 refine⟨_,rfl,_,rfl,j,rfl,_,rfl,_,_,rfl,rfl,j+1,rfl,a,_,rfl,hS,fun l hl=>?_⟩
 have s1:=aH hl (.lst (kB (ns.map V.int) (some j) (some (j+1))))
 have e1:upd H l (.lst (kB (ns.map V.int) (some j) (some (j+1)))) l=some (.lst (kB (ns.map V.int) (some j) (some (j+1)))):=aC
 obtain⟨ms,em,lm⟩:=Ac ns (some j) (some (j+1))
 rw[em] at e1 s1 ⊢
 generalize upd H l (.lst (ms.map V.int))=H1 at e1 s1 ⊢
 refine⟨_,rfl,by show 0≤sizeLine;decide,fun e he=>?_⟩
 have s2:=aH he (.lst [])
 refine Kv (s2.seq (SqL.of e1)) (SqL.of aC) ⟨_,rfl,?_⟩
 rcases ms with _ | ⟨m,ms⟩
 ·exact gJ (q 0 _ (s1.trans s2))
 ·refine eV ⟨_,rfl,l,_,_,_,rfl,rfl,s2.seq (SqL.of e1),bZ (j:=0) rfl,q m _ (s1.trans s2)⟩
abbrev qW:Stmt:=top 76
theorem rW:aS ["_law_cell","_law_turn","_law_many","_law_left","_law_k","_law_by","_law_prime","_law_x"] ["_law_cell","_law_turn","_law_many"] (aD qW):=⟨rfl,rfl,rfl,by decide +kernel,rfl,by decide +kernel,by decide +kernel⟩
def yX:Sp:=fun vs H Q _=>∃c t m:Int,vs=[.int c,.int t,.int m]∧0≤t∧t≤9∧0 < m∧∀r H',0≤r→r < m→bC H H'→Q (.int r) H'
theorem Vy {a0 a1 a2 a3 a4 a5 a6 a7 a8 a9:Int} (hp:0 < a0∧0 < a1∧0 < a2∧0 < a3∧0 < a4∧0 < a5∧0 < a6∧0 < a7∧0 < a8∧0 < a9) (hm:a0 < 1000000∧a1 < 1000000∧a2 < 1000000∧a3 < 1000000∧a4 < 1000000∧a5 < 1000000∧a6 < 1000000∧a7 < 1000000∧a8 < 1000000∧a9 < 1000000) {t:Int} (h0:0≤t) (h9:t≤9) :
  ∃v,atI [V.int a0,.int a1,.int a2,.int a3,.int a4,.int a5,.int a6,.int a7,.int a8,.int a9] t=some (.int v)∧0 < v∧v < 1000000:=by
 have:t=0∨t=1∨t=2∨t=3∨t=4∨t=5∨t=6∨t=7∨t=8∨t=9:=by omega
 rcases this with rfl | rfl | rfl | rfl | rfl | rfl | rfl | rfl | rfl | rfl
 all_goals exact⟨_,rfl,by omega,by omega⟩
abbrev l48:List Int:=[48271,69621,16807,40692,39373,30269,27183,60013,51749,35969]
abbrev l99:List Int:=[999983,999979,999961,999959,999953,999931,999917,999907,999883,999863]
@[irreducible] def md1:Stmt:=(aM qW).getD 1 (.Pass ⟨0,0,0,0⟩)
@[irreducible] def md2:Stmt:=(aM qW).getD 2 (.Pass ⟨0,0,0,0⟩)
def md0:Stmt:=(aM qW).getD 0 (.Pass ⟨0,0,0,0⟩)
def md3:Stmt:=(aM qW).getD 3 (.Pass ⟨0,0,0,0⟩)
def md4:Stmt:=(aM qW).getD 4 (.Pass ⟨0,0,0,0⟩)
theorem Wx:aM qW=[md0,md1,md2,md3,md4]:=by unfold md1 md2;rfl
theorem Ua:∃(q q2 p2 p3 p:Pos) (l:List (Int × _ × Pos)),md1=.Assign [.Name "_law_by" q] (.Subscript (.List (l.map fun q=>Expr.Constant (.int q.1) q.2.1 q.2.2) p2) (.Name "_law_turn" q2) p3) p∧l.map (fun q=>V.int q.1)=l48.map V.int:=by
 unfold md1
 exact⟨_,_,_,_,_,[(48271,_,_),(69621,_,_),(16807,_,_),(40692,_,_),(39373,_,_),(30269,_,_),(27183,_,_),(60013,_,_),(51749,_,_),(35969,_,_)],rfl,rfl⟩
theorem Tt:∃(q q2 p2 p3 p:Pos) (l:List (Int × _ × Pos)),md2=.Assign [.Name "_law_prime" q] (.Subscript (.List (l.map fun q=>Expr.Constant (.int q.1) q.2.1 q.2.2) p2) (.Name "_law_turn" q2) p3) p∧l.map (fun q=>V.int q.1)=l99.map V.int:=by
 unfold md2
 exact⟨_,_,_,_,_,[(999983,_,_),(999979,_,_),(999961,_,_),(999959,_,_),(999953,_,_),(999931,_,_),(999917,_,_),(999907,_,_),(999883,_,_),(999863,_,_)],rfl,rfl⟩
theorem Ub {dV:Value} (F:cB K "_law_mix" "_law_mix" qW dV f fd)
  (mr:mg "range"=none) :
  aP P w K mg base CX 1 f fd ["_law_cell","_law_turn","_law_many"] yX:=by
 refine F.ok rW (fun vs H Q E h=>?_) (fun cdv A outer s H vs Q E hr h=>?_)
 ·obtain⟨c,t,m,rfl,h0,h9,hm,q⟩:=h
  rfl
 obtain⟨c,t,m,rfl,h0,h9,hm,q⟩:=h
 rw[Wx]
 obtain⟨q1,q2,q3,q4,q5,l1,e1,eo1⟩:=Ua
 obtain⟨r1,r2,r3,r4,r5,l2,e2,eo2⟩:=Tt
 rw[e1,e2]
 refine⟨_,(aB (cD (bG eQ (aV iV (pv 0) aF) aF (bL _)) (aB (aT (i:=3) rW.nd rfl (Or.inl rfl) (aV jK (pv 0) aF))
  (aB (dW PassesOwn.never rfl (iC rfl mr (aA (pv 1) aE)) (bF (i:=4) rW.nd rfl (Or.inl rfl))
   (aG (aT (i:=3) rW.nd rfl (Or.inl rfl) (aV jK (pv 3) (aV iU aF aF)))))
  (aG (aY (aV jT (pv 3) (pv 2)))))) bK)
  (aB (aT (i:=5) rW.nd rfl (Or.inl rfl) (aX bN (cS (wY _ l1)) (pv 1) (fun _ _=>rfl)))
  (aB (aT (i:=6) rW.nd rfl (Or.inl rfl) (aX bN (cS (wY _ l2)) (pv 1) (fun _ _=>rfl)))
  (aB (aT (i:=7) rW.nd rfl (Or.inl rfl) (aV iV (pv 0) aF))
  (aG (aY (aV jT (aV jK (aV jT (aV dC (aV dC (aV dG (aV kU aF (pv 7)) (pv 7)) (aV dG (pv 5) (pv 7))) (aV kU aF (aV dC (pv 1) aF))) (pv 6)) aF) (pv 2)))))))),?_⟩
 rw[eo1,eo2]
 have hf:∀u:Int,0≤u.fmod m∧u.fmod m < m:=fun u=>⟨Int.fmod_nonneg_of_pos u hm,Int.fmod_lt_of_pos u hm⟩
 have m0:m≠0:=by omega
 refine⟨_,rfl,_,_,rfl,rfl,(show (0:Int) < 2 by decide),rfl,_,rfl,oH (fun _=>?_) (fun _=>?_)⟩
 ·refine⟨_,rfl,_,_,rfl,rfl,⟨by decide,by decide⟩,?_⟩
  refine⟨_,rfl,t,rfl,by omega,by omega,?_⟩
  refine gM (n:=t.toNat) (fun i σ H'=>H'=H∧∃u z,σ=[some (.int c),some (.int t),some (.int m),some (.int u),z,none,none,none]) ⟨rfl,_,none,rfl⟩ ?_ ?_
  ·rintro i σ H' hi ⟨rfl,u,z,rfl⟩
   exact⟨_,rfl,_,_,rfl,rfl,⟨by decide,by decide,by decide⟩,_,_,rfl,rfl,⟨by decide,by decide⟩,rfl,_,_,rfl⟩
  ·rintro σ H' ⟨rfl,u,z,rfl⟩
   exact⟨_,rfl,_,rfl,_,_,rfl,rfl,m0,q _ _ (hf u).1 (hf u).2 (bC.refl _)⟩
 ·refine⟨by show 10≤sizeLine;decide,fun l1 hl1=>?_⟩
  obtain⟨by_,eb,b1,b2⟩:=Vy (a0:=48271) (a1:=69621) (a2:=16807) (a3:=40692) (a4:=39373) (a5:=30269) (a6:=27183) (a7:=60013) (a8:=51749) (a9:=35969) (by decide) (by decide) h0 h9
  have s1:=aH hl1 (.lst (l48.map V.int))
  have g1:upd H l1 (.lst (l48.map V.int)) l1=some (.lst (l48.map V.int)):=aC
  generalize upd H l1 (.lst (l48.map V.int))=H1 at s1 g1 ⊢
  refine⟨_,rfl,l1,_,_,_,rfl,rfl,SqL.of g1,eb,?_⟩
  refine⟨by show 10≤sizeLine;decide,fun l2 hl2=>?_⟩
  obtain⟨pr,ep,p1,p2⟩:=Vy (a0:=999983) (a1:=999979) (a2:=999961) (a3:=999959) (a4:=999953) (a5:=999931) (a6:=999917) (a7:=999907) (a8:=999883) (a9:=999863) (by decide) (by decide) h0 h9
  have s2:=aH hl2 (.lst (l99.map V.int))
  have g2:upd H1 l2 (.lst (l99.map V.int)) l2=some (.lst (l99.map V.int)):=aC
  generalize upd H1 l2 (.lst (l99.map V.int))=H2 at s2 g2 ⊢
  refine⟨_,rfl,l2,_,_,_,rfl,rfl,SqL.of g2,ep,?_⟩
  refine⟨_,rfl,_,_,rfl,rfl,(show (0:Int) < 2147483647 by decide),?_⟩
  have x1:=Int.emod_nonneg c (show (2147483647:Int)≠0 by decide)
  have x2:=Int.emod_lt_of_pos c (show (0:Int) < 2147483647 by decide)
  generalize c % 2147483647=x at x1 x2 ⊢
  refine⟨_,rfl,_,_,rfl,rfl,Or.inl ⟨by decide,by decide⟩,_,rfl,dF (n:=40) (m:=40) (mB (by omega) (by omega)) (mB (by omega) (by omega)) (by omega) (by omega) ?_⟩
  refine⟨_,rfl,_,rfl,dF (n:=40) (m:=40) (mB (by omega) (by omega)) (mB (by omega) (by omega)) (by omega) (by omega) ⟨_,_,rfl,rfl,?_⟩⟩
  refine⟨_,rfl,_,_,rfl,rfl,_,_,rfl,rfl,Or.inl ⟨by decide,by decide⟩,_,_,rfl,rfl,_,rfl,_,_,rfl,rfl,by omega,_,_,rfl,rfl,⟨by decide,by decide⟩,_,rfl,_,_,rfl,rfl,m0,?_⟩
  exact q _ _ (hf _).1 (hf _).2 (s1.trans s2)
abbrev uW:Stmt:=top 77
theorem xU:aS ["_law_cell","_law_k","_law_left","_law_j"] ["_law_cell","_law_k"] (aD uW):=⟨rfl,rfl,rfl,by decide +kernel,rfl,by decide +kernel,by decide +kernel⟩
def Ms:Sp:=fun vs H Q _=>∃c k:Int,vs=[.int c,.int k]∧0≤k∧k≤63∧∀r,Q (.int r) H
theorem Rc {dV:Value} (F:cB K "_law_part" "_law_part" uW dV f fd)
  (mr:mg "range"=none) :
  aP P w K mg base CX 1 f fd ["_law_cell","_law_k"] Ms:=by
 refine F.ok xU (fun vs H Q E h=>?_) (fun cdv A outer s H vs Q E hr h=>?_)
 ·obtain⟨c,k,rfl,h0,h9,q⟩:=h
  rfl
 obtain⟨c,k,rfl,h0,h9,q⟩:=h
 refine⟨_,(aB (cD (bG eQ (aV iV (pv 0) aF) aF (bL _)) (aG (aY (aV dC (aV iV (pv 0) (aV iU aF aF)) (aV dG (aV kU aF (pv 1)) (pv 1))))) bK)
  (aB (aT (i:=2) xU.nd rfl (Or.inl rfl) (aV jK (pv 0) aF))
  (aB (dW PassesOwn.never rfl (iC rfl mr (aA (aV kU aF (pv 1)) aE)) (bF (i:=3) xU.nd rfl (Or.inl rfl))
   (aG (aT (i:=2) xU.nd rfl (Or.inl rfl) (aV jK (pv 2) (aV iU aF aF)))))
  (aG (aY (aV dC (aV kU aF (pv 2)) aF)))))),?_⟩
 refine⟨_,rfl,_,_,rfl,rfl,(show (0:Int) < 2 by decide),rfl,_,rfl,oH (fun _=>?_) (fun _=>?_)⟩
 ·refine⟨_,rfl,_,_,rfl,rfl,⟨by decide,by decide,by decide⟩,_,_,rfl,rfl,(show (0:Int) < 10 ^ (15:Int).toNat by decide),?_⟩
  refine⟨_,rfl,_,_,rfl,rfl,Or.inl ⟨by decide,by decide⟩,_,rfl,dF (n:=40) (m:=40) (mB (by omega) (by omega)) (mB (by omega) (by omega)) (by omega) (by omega) ⟨_,_,rfl,rfl,q _⟩⟩
 ·refine⟨_,rfl,_,_,rfl,rfl,⟨by decide,by decide⟩,?_⟩
  refine⟨_,rfl,_,_,rfl,rfl,Or.inl ⟨by decide,by decide⟩,_,rfl,by omega,by omega,?_⟩
  refine gM (n:=(12*k).toNat) (fun i σ H'=>H'=H∧∃u z,σ=[some (.int c),some (.int k),some (.int u),z]) ⟨rfl,_,none,rfl⟩ ?_ ?_
  ·rintro i σ H' hi ⟨rfl,u,z,rfl⟩
   exact⟨_,rfl,_,_,rfl,rfl,⟨by decide,by decide,by decide⟩,_,_,rfl,rfl,⟨by decide,by decide⟩,rfl,_,_,rfl⟩
  ·rintro σ H' ⟨rfl,u,z,rfl⟩
   exact⟨_,rfl,_,_,rfl,rfl,Or.inl ⟨by decide,by decide⟩,_,_,rfl,rfl,q _⟩
abbrev Im:Stmt:=top 78
theorem Ek:aS ["_law_cell","_law_turn","_law_left","_law_k"] ["_law_cell","_law_turn"] (aD Im):=⟨rfl,rfl,rfl,by decide +kernel,rfl,by decide +kernel,by decide +kernel⟩
def Ru:Sp:=fun vs H Q _=>∃c t:Int,vs=[.int c,.int t]∧0≤t∧t≤9∧∀r:Int,-1000000000000≤r→r≤1000000000000→Q (.int r) H
theorem p12:(10:Int) ^ (12:Int).toNat=1000000000000:=by decide
theorem Tb {dV:Value} (F:cB K "_law_far" "_law_far" Im dV f fd)
  (mr:mg "range"=none) :
  aP P w K mg base CX 1 f fd ["_law_cell","_law_turn"] Ru:=by
 refine F.ok Ek (fun vs H Q E h=>?_) (fun cdv A outer s H vs Q E hr h=>?_)
 ·obtain⟨c,t,rfl,h0,h9,q⟩:=h
  rfl
 obtain⟨c,t,rfl,h0,h9,q⟩:=h
 refine⟨_,(aB (cD (bG eQ (aV iV (pv 0) aF) aF (bL _)) (aB (aT (i:=2) Ek.nd rfl (Or.inl rfl) (aV jK (pv 0) aF))
  (aB (dW PassesOwn.never rfl (iC rfl mr (aA aF aE)) (bF (i:=3) Ek.nd rfl (Or.inl rfl))
   (aG (aT (i:=2) Ek.nd rfl (Or.inl rfl) (aV jK (pv 2) (aV iU aF aF)))))
  (aG (aY (aV iI (aV iV (pv 2) (aV dC (aV kU aF (aV iU aF aF)) aF)) (aV iU aF aF)))))) bK)
  (aG (aY (aV iI (aV iV (aV dG (aV iV (pv 0) (aV iU aF aF)) (aV dC (aV kU aF (pv 1)) aF)) (aV dC (aV kU aF (aV iU aF aF)) aF)) (aV iU aF aF))))),?_⟩
 have fin:∀u:Int,Q (.int (u % (2*10 ^ (12:Int).toNat+1) - 10 ^ (12:Int).toNat)) H:=fun u=>by
  rw[p12]
  have x1:=Int.emod_nonneg u (show (2*1000000000000+1:Int)≠0 by decide)
  have x2:=Int.emod_lt_of_pos u (show (0:Int) < 2*1000000000000+1 by decide)
  exact q _ (by omega) (by omega)
 refine⟨_,rfl,_,_,rfl,rfl,(show (0:Int) < 2 by decide),rfl,_,rfl,oH (fun _=>?_) (fun _=>?_)⟩
 ·refine⟨_,rfl,_,_,rfl,rfl,⟨by decide,by decide⟩,?_⟩
  refine⟨_,rfl,by omega,by omega,?_⟩
  refine gM (n:=10) (fun i σ H'=>H'=H∧∃u z,σ=[some (.int c),some (.int t),some (.int u),z]) ⟨rfl,_,none,rfl⟩ ?_ ?_
  ·rintro i σ H' hi ⟨rfl,u,z,rfl⟩
   exact⟨_,rfl,_,_,rfl,rfl,⟨by decide,by decide,by decide⟩,_,_,rfl,rfl,⟨by decide,by decide⟩,rfl,_,_,rfl⟩
  ·rintro σ H' ⟨rfl,u,z,rfl⟩
   exact⟨_,rfl,_,_,rfl,rfl,⟨by decide,by decide,by decide⟩,_,_,rfl,rfl,Or.inl ⟨by decide,by decide⟩,_,_,rfl,rfl,_,_,rfl,rfl,(show (0:Int) < 2*10 ^ (12:Int).toNat+1 by decide),_,_,rfl,rfl,⟨by decide,by decide,by decide⟩,_,_,rfl,rfl,fin u⟩
 ·refine⟨_,rfl,_,_,rfl,rfl,⟨by decide,by decide,by decide⟩,_,_,rfl,rfl,(show (0:Int) < 10 ^ (12:Int).toNat by decide),?_⟩
  have x1:=Int.emod_nonneg c (show (10 ^ (12:Int).toNat:Int)≠0 by decide)
  have x2:=Int.emod_lt_of_pos c (show (0:Int) < 10 ^ (12:Int).toNat by decide)
  rw[p12] at x1 x2
  refine⟨_,rfl,_,_,rfl,rfl,Or.inl ⟨by decide,by decide⟩,_,_,rfl,rfl,dF (n:=40) (m:=40) (mB (by rw[p12];omega) (by rw[p12];omega)) (mB (by omega) (by omega)) (by omega) (by omega) ?_⟩
  exact⟨_,_,rfl,rfl,⟨by decide,by decide,by decide⟩,_,_,rfl,rfl,Or.inl ⟨by decide,by decide⟩,_,_,rfl,rfl,_,_,rfl,rfl,(show (0:Int) < 2*10 ^ (12:Int).toNat+1 by decide),_,_,rfl,rfl,⟨by decide,by decide,by decide⟩,_,_,rfl,rfl,fin _⟩
abbrev lG:Stmt:=top 79
theorem nU:aS ["_law_top","_law_bottom","_law_one","_law_other"] ["_law_top","_law_bottom"] (aD lG):=⟨rfl,rfl,rfl,by decide +kernel,rfl,by decide +kernel,by decide +kernel⟩
theorem Gq {dV:Value} (F:cB K "_law_lowest" "_law_lowest" lG dV f fd)
  (b:Bl mg) :
  aP P w K mg base CX 1 f fd ["_law_top","_law_bottom"] jM:=by
 refine F.ok nU (fun vs H Q E h=>?_) (fun cdv A outer s H vs Q E hr h=>?_)
 ·obtain⟨t,b',n,rfl,hb,hB,hn,q⟩:=h
  rfl
 obtain⟨t,b',n,rfl,hb,hB,hn,q⟩:=h
 refine⟨_,(aB (Mw (i:=2) (j:=3) rfl nU.nd rfl rfl (by decide) rfl rfl (aA (cK tF rfl b.abs PyProof.Rows.boot_abs (aA (pv 0) aE)) (aA (cK tF rfl b.abs PyProof.Rows.boot_abs (aA (pv 1) aE)) aE)) rfl)
  (aB (sV PassesOwn.never (bG mO (pv 3) aF (bL _)) (aG (Mw (i:=2) (j:=3) rfl nU.nd rfl rfl (by decide) rfl rfl (aA (pv 3) (aA (aV jT (pv 2) (pv 3)) aE)) rfl)))
  (aB (cD (bG uT (pv 1) aF (bL _)) (aG (aT (i:=2) nU.nd rfl (Or.inl rfl) (aV iI aF (pv 2)))) bK)
  (aG (aY (cW (aA (aV iN (pv 0) (pv 2)) (aA (aV iN (pv 1) (pv 2)) aE)))))))),?_⟩
 refine⟨_,rfl,_,rfl,_,rfl,_,rfl,_,_,rfl,?_⟩
 have g0:=Mq.Vq t b'
 have n0:0≤(if t < 0 then -t else t):=by split<;>omega
 have n1:0≤(if b' < 0 then -b' else b'):=by split<;>omega
 generalize (if t < 0 then -t else t)=x' at *
 generalize (if b' < 0 then -b' else b')=y' at *
 have hd:=Mq.oU (t:=t) hb
 have hdB:Mq.B n (Mq.dvr t b'):=hB.le (Mq.Cj hb)
 refine sS (fun σ H'=>H'=H∧∃u v,σ=[some (.int t),some (.int b'),some (.int u),some (.int v)]∧Mq.gc u v=Mq.gc t b'∧0≤u∧0≤v) (fun σ _=>match σ with | [_,_,_,some (.int v)]=>v.natAbs | _=>0) ⟨rfl,x',y',rfl,g0,n0,n1⟩ ?_ ?_
 ·rintro σ H' ⟨rfl,u,v,rfl,e,hu,hv0⟩
  refine⟨_,rfl,rfl,_,rfl,?_⟩
  refine oH (fun c=>?_) (fun c=>?_)
  ·have hv:v≠0:=by intro q;subst q;simp at c
   refine⟨_,rfl,_,rfl,_,rfl,_,_,rfl,rfl,hv,_,_,rfl,⟨rfl,v,Int.fmod u v,rfl,(Mq.Ei u v).trans e,hv0,Int.fmod_nonneg_of_pos u (by omega)⟩,Mq.vU hv⟩
  ·have hv:v=0:=by
    simp at c
    exact c
   subst hv
   have eu:u=Mq.gc t b':=by rw[← e,Mq.Fh,if_neg (by omega)]
   subst eu
   refine⟨_,rfl,_,_,rfl,rfl,_,rfl,oH (fun c=>?_) (fun c=>?_)⟩
   ·have hlt:b' < 0:=of_decide_eq_true c
    have e:Mq.dvr t b'=0 - Mq.gc t b':=by unfold Mq.dvr;rw[if_pos hlt];omega
    rw[e] at hd hdB
    have q':mV H' Q (t.fdiv (0 - Mq.gc t b'),b'.fdiv (0 - Mq.gc t b')):=by
     have z:=q
     unfold Mq.red at z
     rw[e] at z
     exact z
    refine⟨_,rfl,_,_,rfl,rfl,?_⟩
    refine⟨_,rfl,_,rfl,fC hd hdB hn ⟨_,rfl,_,rfl,fC hd hdB hn ⟨by show 2≤sizeLine;decide,fun p hp=>?_⟩⟩⟩
    exact q' p _ (aH hp _) aC
   ·have hlt:¬b' < 0:=fun z=>c (decide_eq_true z)
    have e:Mq.dvr t b'=Mq.gc t b':=by unfold Mq.dvr;rw[if_neg hlt]
    rw[e] at hd hdB
    have q':mV H' Q (t.fdiv (Mq.gc t b'),b'.fdiv (Mq.gc t b')):=by
     have z:=q
     unfold Mq.red at z
     rw[e] at z
     exact z
    refine⟨_,rfl,_,rfl,fC hd hdB hn ⟨_,rfl,_,rfl,fC hd hdB hn ⟨by show 2≤sizeLine;decide,fun p hp=>?_⟩⟩⟩
    exact q' p _ (aH hp _) aC
 ·rintro σ H Q Q' m ⟨v,h1,h2,k,h3,h4⟩
  exact⟨v,h1,h2,k,h3,m _ _ h4⟩
theorem mV.same {H H':Hp} {Q:VK} {p:Mq.Q2} (s:bC H H') (h:mV H Q p):mV H' Q p:=fun a H2 s2 e=>h a H2 (s.trans s2) e
abbrev wD:Stmt:=top 80
theorem Nn:aS ["_law_found","_law_due","_law_number"] ["_law_found","_law_due"] (aD wD):=⟨rfl,rfl,rfl,by decide +kernel,rfl,by decide +kernel,by decide +kernel⟩
def Dg (K:PySem.W.Frag):Sp:=fun vs H Q _=>∃(a b:Addr) (p:Mq.Q2),vs=[.ref a,.ref b]∧Fq K H a p∧Fq K H b p∧Q (.bl true) H
theorem Pu {dV:Value} (F:cB K "_law_told" "_law_told" wD dV f fd)
  (b:Bl mg) (ml:mg "len"=none) (mt:mg "tuple"=none) :
  aP P w K mg base CX 1 f fd ["_law_found","_law_due"] (Dg K):=by
 refine F.ok Nn (fun vs H Q E h=>?_) (fun cdv A outer s H vs Q E hr h=>?_)
 ·obtain⟨a,d,p,rfl,fa,fd',q⟩:=h
  rfl
 obtain⟨a,d,p,rfl,fa,fd',q⟩:=h
 have hu:=hr.units
 refine⟨_,(aB (cD (PW.pt (kL (fM (dD (hZ (i:=0) rfl (Or.inl rfl) b.isi mt rfl rfl PyProof.Rows.boot_tuple))) (jS (bG mO (cK bO rfl ml PySem.boot_len (aA (pv 0) aE)) aF (bL _))))) (aG (aY jW)) bK)
  (aB (dW PassesOwn.never rfl (Tm (pv 0)) (bF (i:=2) Nn.nd rfl (Or.inl rfl))
   (aG (cD (PW.pt (kL (fM (dD (hZ (i:=2) rfl (Or.inl rfl) b.isi b.int rfl rfl PyProof.Rows.boot_int))) (jS (dD (hZ (i:=2) rfl (Or.inl rfl) b.isi b.bool rfl rfl PyProof.Rows.boot_bool))))) (aG (aY jW)) bK)))
  (aG (aY (hV (Cd hu) (pv 0) (pv 1) (bL _)))))),?_⟩
 refine⟨_,_,true,rfl,.tup fa,rfl,_,rfl,eV ⟨_,rfl,a,_,rfl,.inr fa,rfl,_,rfl,eV ?_⟩⟩
 refine⟨_,rfl,a,rfl,⟨_,fa⟩,?_⟩
 refine Qg (xs:=[.int p.1,.int p.2]) (fun i σ H'=>H'=H∧∃z,σ=[some (.ref a),some (.ref d),z]) ⟨rfl,none,rfl⟩ (fun i σ H' _ h=>by rw[h.1];exact fa) ?_ ?_
 ·rintro i x σ H' hx ⟨rfl,z,rfl⟩
  have hint:∃j,x=.int j:=by
   match i,hx with
   |0,h=>exact⟨p.1,by simpa using h.symm⟩
   |1,h=>exact⟨p.2,by simpa using h.symm⟩
   |n+2,h=>simp at h
  obtain⟨j,rfl⟩:=hint
  refine⟨_,_,true,rfl,.of (.int j),rfl,_,rfl,eV ⟨_,_,false,rfl,.of (.int j),(by with_unfolding_all rfl),_,rfl,eV ⟨rfl,_,rfl⟩⟩⟩
 ·rintro σ H' ⟨rfl,z,rfl⟩
  refine⟨_,rfl,_,rfl,My fa fd' ?_⟩
  show Q (.bl (decide (p=p))) H'
  rw[decide_eq_true rfl]
  exact q
def Ju:Sp:=fun vs H Q _=>∃c:Int,vs=[.int c]∧∀p,Mq.Low p∧0 < p.1∧Bq p→mV H Q p
abbrev uJ:Stmt:=top 81
theorem Bx:aS ["_law_cell","_law_top"] ["_law_cell"] (aD uJ):=⟨rfl,rfl,rfl,by decide +kernel,rfl,by decide +kernel,by decide +kernel⟩
theorem Ra {dV:Value} (F:cB K "_law_size" "_law_size" uJ dV f fd)
  (G1:aP P w K mg base CX0 1 g1 gd1 ["_law_cell","_law_turn","_law_many"] yX) (b1:aR K gd1 ["_law_cell","_law_turn","_law_many"] []) (k1:PySem.W.keepIn K (.ref g1)=true) (m1:mg "_law_mix"=some (.ref g1))
  (G2:aP P w K mg base CX0 1 g2 gd2 ["_law_cell","_law_turn"] Ru) (b2:aR K gd2 ["_law_cell","_law_turn"] []) (k2:PySem.W.keepIn K (.ref g2)=true) (m2:mg "_law_far"=some (.ref g2))
  (G3:aP P w K mg base CX0 1 g3 gd3 ["_law_top","_law_bottom"] jM) (b3:aR K gd3 ["_law_top","_law_bottom"] []) (k3:PySem.W.keepIn K (.ref g3)=true) (m3:mg "_law_lowest"=some (.ref g3)) :
  aP P w K mg base CX 2 f fd ["_law_cell"] Ju:=by
 refine F.ok Bx (fun vs H Q E h=>?_) (fun cdv A outer s H vs Q E hr h=>?_)
 ·obtain⟨c,rfl,q⟩:=h
  rfl
 obtain⟨c,rfl,q⟩:=h
 refine⟨_,(aB (aT (i:=1) Bx.nd rfl (Or.inl rfl) (aV dC aF (aI G1 hr rfl m1 k1 b1 .nil aL (aA (pv 0) (aA aF (aA aF aE))))))
  (aB (cD (bG eQ (aI G1 hr rfl m1 k1 b1 .nil aL (aA (pv 0) (aA aF (aA aF aE)))) aF (bL _)) (aG (aT (i:=1) Bx.nd rfl (Or.inl rfl) (aV dC aF (aV iV (aI G2 hr rfl m2 k2 b2 .nil aL (aA (pv 0) (aA aF aE))) (aV dC (aV iU aF aF) aF))))) bK)
  (aG (aY (aI G3 hr rfl m3 k3 b3 .nil aL (aA (pv 1) (aA (aV dC aF (aI G1 hr rfl m1 k1 b1 .nil aL (aA (pv 0) (aA aF (aA aF aE))))) aE))))))),?_⟩
 refine⟨_,rfl,c,3,12,rfl,by decide,by decide,by decide,fun r H1 r1 r2 s1=>⟨_,_,rfl,rfl,?_⟩⟩
 refine⟨_,rfl,c,7,12,rfl,by decide,by decide,by decide,fun r' H2 _ _ s2=>?_⟩
 refine⟨rfl,_,rfl,oH (fun _=>?_) (fun _=>?_)⟩
 ·refine⟨_,rfl,c,1,rfl,by decide,by decide,fun u u1 u2=>?_⟩
  refine⟨10,9,rfl,rfl,⟨by decide,by decide,by decide⟩,_,_,rfl,rfl,_,_,rfl,rfl,(show (0:Int) < 10 ^ (9:Int).toNat+7 by decide),_,_,rfl,rfl,?_⟩
  have m0:=Int.emod_nonneg u (show (1000000007:Int)≠0 by decide)
  have m1:=Int.emod_lt_of_pos u (show (0:Int) < 1000000007 by decide)
  show iO _ _ _ [some (.int c),some (.int (1+u % 1000000007))] H2
  generalize u % 1000000007=v at m0 m1
  refine⟨_,rfl,_,rfl,c,4,6,rfl,by decide,by decide,by decide,fun b H3 b1 b2 s3=>⟨_,_,rfl,rfl,?_⟩⟩
  have b0:1+b≠0:=by omega
  have le:=Mq.kD (t:=1+v) b0
  have bT:Mq.B 30 (1+v):=mB (by omega) (by omega)
  have bB:Mq.B 30 (1+b):=mB (by omega) (by omega)
  exact⟨1+v,1+b,30,rfl,b0,bB,by omega,mV.same (s1.trans (s2.trans s3)) (q _ ⟨Mq.gU b0,Mq.Ev (by omega) (by omega),⟨bT.le le.1,by have:=le.2;omega⟩⟩)⟩
 ·refine⟨_,rfl,_,rfl,c,4,6,rfl,by decide,by decide,by decide,fun b H3 b1 b2 s3=>⟨_,_,rfl,rfl,?_⟩⟩
  have b0:1+b≠0:=by omega
  have le:=Mq.kD (t:=1+r) b0
  have bT:Mq.B 30 (1+r):=mB (by omega) (by omega)
  have bB:Mq.B 30 (1+b):=mB (by omega) (by omega)
  exact⟨1+r,1+b,30,rfl,b0,bB,by omega,mV.same (s1.trans (s2.trans s3)) (q _ ⟨Mq.gU b0,Mq.Ev (by omega) (by omega),⟨bT.le le.1,by have:=le.2;omega⟩⟩)⟩
def yM (CN:Addr) (K:PySem.W.Frag):Sp:=fun vs H Q _=>∃(m:Int) (r:Addr) (us:List V) (ds:List RD),vs=[.int m,.ref r]∧1≤m∧m≤20∧SqL K H r us∧Rts K H us ds∧(∀d∈ds,uG m d)∧ds.length≤40∧∀n l H',bC H H'→H l=none→cX CN K H' n l m ds→Q (.ref n) H'
abbrev pW:Stmt:=top 82
theorem xS:aS ["_law_many","_law_rows","_law_net_here","_law_row"] ["_law_many","_law_rows"] (aD pW):=⟨rfl,rfl,rfl,by decide +kernel,rfl,by decide +kernel,by decide +kernel⟩
theorem Mi {dV:Value} (F:cB K "_law_net" "_law_net" pW dV f fd)
  {CN:Addr} (NTx:NT K mg CN)
  {gAd:Addr} {gdAd:FuncData} (GAd:aP P w K mg base CX0 5 gAd gdAd ["self","row"] (Sj CN K CK)) (bAd:aR K gdAd ["self","row"] []) (mAd:gD K CN "add" gAd)
  {gNI:Addr} {gdNI:FuncData} (GNI:aP P w K mg base CX0 2 gNI gdNI ["self","many"] (Ex CN)) (bNI:aR K gdNI ["self","many"] []) (MN:Mk K CN gNI)
  (G1:aP P w K mg base CX0 3 g1 gd1 ["told"] (rX K CK)) (b1:aR K gd1 ["told"] []) (k1:PySem.W.keepIn K (.ref g1)=true) (m1:mg "row_of"=some (.ref g1)) :
  aP P w K mg base CX 6 f fd ["_law_many","_law_rows"] (yM CN K):=by
 refine F.ok xS (fun vs H Q E h=>?_) (fun cdv A outer s H vs Q E hr h=>?_)
 ·obtain⟨m,r,us,ds,rfl,hm1,hm20,hU,hR,hK,h40,q⟩:=h
  rfl
 obtain⟨m,r,us,ds,rfl,hm1,hm20,hU,hR,hK,h40,q⟩:=h
 have r3:=hr.mono (show 3≤5 by omega)
 refine⟨_,(aB (aT (i:=2) xS.nd rfl (Or.inl rfl) (lK MN GNI r3 rfl NTx.mN bNI .nil aL (aA (pv 0) aE)))
  (aB (dW PassesOwn.never rfl (cY (pv 1)) (bF (i:=3) xS.nd rfl (Or.inl rfl))
   (aG (bQ (wU (pv 2) NTx.cl mAd GAd hr bAd .nil aL (aA (aI G1 r3 rfl m1 k1 b1 .nil aL (aA (pv 3) aE)) aE)))))
  (aG (aY (pv 2))))),?_⟩
 have lus:=hR.length
 refine⟨_,rfl,fun n dx h1 h2 ne=>⟨n,dx,m,rfl,aC,hm1,hm20,fun l H2 nl keep hn hl=>⟨rfl,?_⟩⟩⟩
 have s2:bC H H2:=fun b o e=>keep b o (by rw[aW (aZ e h1),aW (aZ e h2)];exact e) (aZ e h1)
 have hl0:H l=none:=by
  cases o:H l with
  |none=>rfl
  |some o'=>
   have:(upd (upd H dx (.own n)) n (.ins CN dx [])) l=some o':=by rw[aW (aZ o h1),aW (aZ o h2)];exact o
   rw[this] at nl;cases nl
 refine⟨_,rfl,r,rfl,⟨_,s2.seq hU⟩,?_⟩
 refine fH (xs:=us) (fun i σ H'=>bC H H'∧cX CN K H' n l m (ds.take i)∧∃z,σ=[some (.int m),some (.ref r),some (.ref n),z]) ⟨s2,⟨⟨dx,hn⟩,[],hl,.nil⟩,none,rfl⟩ (fun i σ H' _ h=>h.1.seq hU) ?_ ?_
 ·rintro i x σ H3 hx ⟨s3,N3,z,rfl⟩
  have hi:i < ds.length:=by
   have:=(List.getElem?_eq_some_iff.mp hx).1
   omega
  obtain⟨⟨k,u,v,p⟩,hd⟩:∃d,ds[i]?=some d:=⟨_,List.getElem?_eq_getElem hi⟩
  obtain⟨t,z',et,hT,fz⟩:=hR.at hd
  have ex:x=.ref t:=by rw[et] at hx;exact(Option.some.inj hx).symm
  subst ex
  obtain⟨dn,hn3⟩:=N3.ob
  have lt:(ds.take i).length≤ds.length:=by rw[List.length_take];omega
  refine⟨_,rfl,n,dn,_,rfl,hn3,dX _ _ (by decide +kernel) (by decide +kernel),_,rfl,t,_,_,_,_,rfl,s3.seqT hT,k,rfl,fun y H4 s4 ny rw=>?_⟩
  refine⟨n,l,y,z',m,ds.take i,k,u,v,p,rfl,N3.same s4,rw,(s3.trans s4).fq fz,hK _ (List.mem_of_getElem? hd),by rw[List.length_take];omega,fun H5 x5 N5=>?_⟩
  refine⟨fun b o e=>x5 _ _ ((s3.trans s4) _ _ e) (aZ e hl0),?_,_,rfl⟩
  rw[List.take_add_one,hd]
  exact N5
 ·rintro σ H3 ⟨s3,N3,z,rfl⟩
  rw[lus,List.take_length] at N3
  exact⟨_,rfl,q n l H3 s3 hl0 N3⟩
theorem Dv {α β:Type} (f:α→β) (l:List α) (i:Nat) (e:α):(l.take i++e :: l.drop i).map f=(l.map f).take i++f e :: (l.map f).drop i:=by
 rw[List.map_append,List.map_cons,List.map_take,List.map_drop]
theorem Rts.take {K:PySem.W.Frag} {H:Hp}:∀{xs:List V} {ds:List RD} (n:Nat),Rts K H xs ds→Rts K H (xs.take n) (ds.take n)
 |_,_,0,_=>.nil
 |_,_,_+1,.nil=>.nil
 |_,_,n+1,.cons h f q=>.cons h f (Rts.take n q)
theorem Rts.drop {K:PySem.W.Frag} {H:Hp}:∀{xs:List V} {ds:List RD} (n:Nat),Rts K H xs ds→Rts K H (xs.drop n) (ds.drop n)
 |_,_,0,h=>h
 |_,_,_+1,.nil=>.nil
 |_,_,n+1,.cons _ _ q=>Rts.drop n q
theorem Eg {α:Type} (l:List α) (i:Nat) (e:α):(l.take i++e :: l.drop i).length=l.length+1:=by
 rw[List.length_append,List.length_cons,List.length_take,List.length_drop];omega
theorem Ey (k:Kd):decide (V.str k.wd=V.str "piece")=decide (k=.pc):=dR k .pc
theorem Ll (k:Kd):decide (V.str k.wd=V.str "push")=decide (k=.pu):=dR k .pu
theorem vX (k:Kd):decide (V.str k.wd=V.str "hold")=decide (k=.ho):=dR k .ho
def Rp (K:PySem.W.Frag):Sp:=fun vs H Q _=>∃(r e:Addr) (c:Int) (k:Kd) (us:List V) (ds:List RD) (i j:Int),vs=[.ref r,.int c,.str k.wd,.ref e]∧H r=some (.lst us)∧Rts K H us ds∧ds.length≤60∧SqT K H e [.int i,.int j]∧
 ∀y t (d:RD) H' H'',y≤us.length→bC H H'→d.1=k→((d.2.1=i∧d.2.2.1=j)∨(d.2.1=j∧d.2.2.1=i))→Mq.Low d.2.2.2→Mq.Bd 30 d.2.2.2→(k=.pc→0 < d.2.2.2.1∧Bq d.2.2.2)→H''=upd H' r (.lst (us.take y++.ref t :: us.drop y))→Rts K H'' (us.take y++.ref t :: us.drop y) (ds.take y++d :: ds.drop y)→Q .non H''
abbrev Gj:Stmt:=top 83
theorem Gc:aS ["_law_rows","_law_cell","_law_word","_law_ends","_law_size_here"] ["_law_rows","_law_cell","_law_word","_law_ends"] (aD Gj):=⟨rfl,rfl,rfl,by decide +kernel,rfl,by decide +kernel,by decide +kernel⟩
theorem Vr {dV:Value} (F:cB K "_law_put" "_law_put" Gj dV f fd)
  (ml:mg "len"=none)
  (G1:aP P w K mg base CX0 1 g1 gd1 ["_law_cell","_law_turn","_law_many"] yX) (b1:aR K gd1 ["_law_cell","_law_turn","_law_many"] []) (k1:PySem.W.keepIn K (.ref g1)=true) (m1:mg "_law_mix"=some (.ref g1))
  (G2:aP P w K mg base CX0 1 g2 gd2 ["_law_top","_law_bottom"] jM) (b2:aR K gd2 ["_law_top","_law_bottom"] []) (k2:PySem.W.keepIn K (.ref g2)=true) (m2:mg "_law_lowest"=some (.ref g2))
  (G3:aP P w K mg base CX0 2 g3 gd3 ["_law_cell"] Ju) (b3:aR K gd3 ["_law_cell"] []) (k3:PySem.W.keepIn K (.ref g3)=true) (m3:mg "_law_size"=some (.ref g3)) :
  aP P w K mg base CX 3 f fd ["_law_rows","_law_cell","_law_word","_law_ends"] (Rp K):=by
 refine F.ok Gc (fun vs H Q E h=>?_) (fun cdv A outer s H vs Q E hr h=>?_)
 ·obtain⟨r,e,c,k,us,ds,i,j,rfl,er,hR,h60,he,q⟩:=h
  rfl
 obtain⟨r,e,c,k,us,ds,i,j,rfl,er,hR,h60,he,q⟩:=h
 have r1:=hr.mono (show 1≤2 by omega)
 refine⟨_,(aB (aT (i:=4) Gc.nd rfl (Or.inl rfl) (aI G3 hr rfl m3 k3 b3 .nil aL (aA (pv 1) aE)))
  (aB (cD (bG mO (pv 2) cI (bL _)) (aG (aT (i:=4) Gc.nd rfl (Or.inl rfl) (aI G2 r1 rfl m2 k2 b2 .nil aL (aA (aV iI (aI G1 r1 rfl m1 k1 b1 .nil aL (aA (pv 1) (aA aF (aA aF aE)))) aF) (aA (aV dC aF (aI G1 r1 rfl m1 k1 b1 .nil aL (aA (pv 1) (aA aF (aA aF aE))))) aE))))) bK)
  (aB (cD (bG eQ (aI G1 r1 rfl m1 k1 b1 .nil aL (aA (pv 1) (aA aF (aA aF aE)))) aF (bL _)) (aG (aT (i:=3) Gc.nd rfl (Or.inl rfl) (cW (aA (aX bA (pv 3) aF (fun _ _=>rfl)) (aA (aX bA (pv 3) aF (fun _ _=>rfl)) aE))))) bK)
  (aG (bQ (mM PySem.F.plainAttrs_list PySem.F.slot_list_insert PySem.F.type_list_insert Hy (pv 0) (aA (aI G1 r1 rfl m1 k1 b1 .nil aL (aA (pv 1) (aA aF (aA (aV dC (cK bO rfl ml PySem.boot_len (aA (pv 0) aE)) aF) aE)))) (aA (cW (aA (pv 2) (aA (aX bA (pv 3) aF (fun _ _=>rfl)) (aA (aX bA (pv 3) aF (fun _ _=>rfl)) (aA (pv 4) aE))))) aE)))))))),?_⟩
 have lu:=hR.length
 try dsimp only
 refine Wd (fun σ' H'=>bC H H'∧∃(z:Addr) (p:Mq.Q2),σ'=[some (.ref r),some (.int c),some (.str k.wd),some (.ref e),some (.ref z)]∧Fq K H' z p∧Mq.Low p∧Mq.Bd 30 p∧(k=.pc→0 < p.1∧Bq p)) (fun X hX=>?_) ?_
 ·refine⟨_,rfl,c,rfl,fun p hp z H1 s1 e1=>?_⟩
  by_cases hk:k=.pc
  ·refine⟨_,rfl,rfl,_,rfl,L2.ifF (by show (!decide (V.str k.wd=V.str "piece"))=false;rw[Ey,decide_eq_true hk];rfl) ?_⟩
   exact hX _ _ ⟨s1,z,p,rfl,Fq.of e1,hp.1,⟨hp.2.2.1,by have:=hp.2.2.2;show p.2.natAbs < 2 ^ 30;omega⟩,fun _=>⟨hp.2.1,hp.2.2⟩⟩
  ·refine⟨_,rfl,rfl,_,rfl,L2.ifT (by show (!decide (V.str k.wd=V.str "piece"))=true;rw[Ey,decide_eq_false hk];rfl) ?_⟩
   refine⟨_,rfl,c,5,121,rfl,by decide,by decide,by decide,fun a H2 a1 a2 s2=>⟨_,_,rfl,rfl,?_⟩⟩
   refine⟨_,rfl,c,6,12,rfl,by decide,by decide,by decide,fun b H3 b1 b2 s3=>⟨_,_,rfl,rfl,?_⟩⟩
   have b0:1+b≠0:=by omega
   have le:=Mq.kD (t:=a - 60) b0
   have bT:Mq.B 30 (a - 60):=mB (by omega) (by omega)
   have bB:Mq.B 30 (1+b):=mB (by omega) (by omega)
   exact⟨a - 60,1+b,30,rfl,b0,bB,by omega,fun z2 H4 s4 e4=>hX _ _ ⟨s1.trans (s2.trans (s3.trans s4)),z2,_,rfl,Fq.of e4,Mq.gU b0,⟨bT.le le.1,bB.le le.2⟩,fun h=>absurd h hk⟩⟩
 rintro σ1 H1 ⟨s1,z,p,rfl,fz,lp,bp,hpc⟩
 try dsimp only
 refine Kz (fun σ' H'=>bC H1 H'∧∃(e':Addr) (i' j':Int),σ'=[some (.ref r),some (.int c),some (.str k.wd),some (.ref e'),some (.ref z)]∧SqT K H' e' [.int i',.int j']∧((i'=i∧j'=j)∨(i'=j∧j'=i))) (fun X hX=>?_) ?_
 ·refine⟨_,rfl,c,2,2,rfl,by decide,by decide,by decide,fun a H2 a1 a2 s2=>⟨rfl,_,rfl,oH (fun _=>?_) (fun _=>?_)⟩⟩
  ·refine⟨_,rfl,e,_,_,_,rfl,rfl,(s1.trans s2).seqT he,rfl,_,rfl,e,_,_,_,rfl,rfl,(s1.trans s2).seqT he,rfl,by show 2≤sizeLine;decide,fun e2 he2=>?_⟩
   have s3:=aH he2 (.tup [.int j,.int i])
   exact hX _ _ ⟨s2.trans s3,e2,j,i,rfl,SqT.of aC,.inr ⟨rfl,rfl⟩⟩
  ·exact hX _ _ ⟨s2,e,i,j,rfl,(s1.trans s2).seqT he,.inl ⟨rfl,rfl⟩⟩
 rintro σ2 H2 ⟨s2,e',i',j',rfl,he',hij⟩
 have s02:=s1.trans s2
 have er2:=s02 _ _ er
 refine⟨_,rfl,.inl ⟨rfl,_,SqL.of er2⟩,_,rfl,_,rfl,r,us,rfl,.inl (SqL.of er2),_,_,rfl,rfl,c,8,(us.length:Int)+1,rfl,by decide,by decide,by omega,fun y' H3 y0 y1 s3=>?_⟩
 obtain⟨y,rfl⟩:∃y:Nat,y'=(y:Int):=⟨y'.toNat,by omega⟩
 have he3:=s3.seqT he'
 refine⟨_,rfl,_,rfl,e',_,_,_,rfl,rfl,he3,rfl,_,rfl,e',_,_,_,rfl,rfl,he3,rfl,_,rfl,by show 4≤sizeLine;decide,fun t4 ht4=>?_⟩
 have s4:=aH ht4 (.tup [.str k.wd,.int i',.int j',.ref z])
 have e4:upd H3 t4 (.tup [.str k.wd,.int i',.int j',.ref z]) t4=some (.tup [.str k.wd,.int i',.int j',.ref z]):=aC
 generalize upd H3 t4 (.tup [.str k.wd,.int i',.int j',.ref z])=H4 at s4 e4 ⊢
 have s04:=s02.trans (s3.trans s4)
 have er4:=s04 _ _ er
 refine⟨r,us,y,_,.ref t4,rfl,rfl,rfl,by omega,er4,bH (by omega),?_⟩
 refine q y t4 (k,i',j',p) H4 _ (by omega) s04 rfl hij lp bp hpc rfl ?_
 exact Rts.upd er4 ((Rts.take y (hR.same s04)).app (.cons (SqT.of e4) ((s2.trans (s3.trans s4)).fq fz) (Rts.drop y (hR.same s04))))
def kws (ks:List Kd):List V:=ks.map fun k=>V.str k.wd
theorem Vk {ks:List Kd} {r:Int} (h0:0≤r) (h:r < (ks.length:Int)):∃k,k∈ks∧atI (kws ks) r=some (.str (Kd.wd k)):=by
 obtain⟨n,rfl⟩:∃n:Nat,r=(n:Int):=⟨r.toNat,by omega⟩
 have hn:n < ks.length:=by omega
 refine⟨ks[n],List.getElem_mem hn,bZ ?_⟩
 unfold kws
 rw[List.getElem?_map,List.getElem?_eq_getElem hn];rfl
theorem zO {m t k:Nat} (m1:1≤m):Int.fmod ((k:Int)+(t:Int)) (m:Int)=((rot m t k:Nat):Int):=by
 rw[Int.fmod_eq_emod_of_nonneg _ (by omega)]
 show ((k:Int)+(t:Int)) % (m:Int)=(((k+t) % m:Nat):Int)
 rw[Int.natCast_emod,Int.natCast_add]
theorem Zb (xs:List V) (j:Nat):(kB xs (some 8) (some (8+(j:Int)))).length≤j:=by
 unfold kB
 have h1:HT.sIx xs.length xs.length (some (8+(j:Int)))=min (8+j) xs.length:=by
  simp only[HT.sIx]
  split<;>omega
 have h2:HT.sIx xs.length 0 (some 8)=min 8 xs.length:=by simp[HT.sIx]
 rw[h1,h2,List.length_take,List.length_drop]
 omega
theorem Rm {m t k j:Nat} {d:RD} (m1:1≤m) (k1:1≤k) (km:k < m) (jk:j < k) (npu:d.1≠.pu) (lp:Mq.Low d.2.2.2) (bp:Mq.Bd 30 d.2.2.2) (hpc:d.1=.pc→0 < d.2.2.2.1∧Bq d.2.2.2) (hij:(d.2.1=((rot m t k:Nat):Int)∧d.2.2.1=((rot m t j:Nat):Int))∨(d.2.1=((rot m t j:Nat):Int)∧d.2.2.1=((rot m t k:Nat):Int))):Kj m t (some (k,j),d):=by
 have a:=Mr (t:=t) m1 k
 have b:=Mr (t:=t) m1 j
 refine⟨?_,lp,bp,hpc,(fun _ z=>by cases z),fun k' j' e=>?_⟩
 ·rcases hij with ⟨x,y⟩ | ⟨x,y⟩<;>(show cQ (m:Int) d.2.1 d.2.2.1;rw[x,y];exact⟨by omega,by omega,by omega,by omega⟩)
 ·have e:=Option.some.inj e
  injection e with e1 e2
  subst e1 e2
  exact⟨npu,k1,km,jk,hij⟩
theorem Qt {m t:Nat} {d:RD} (pt:cQ (m:Int) d.2.1 d.2.2.1) (nho:d.1≠.ho) (lp:Mq.Low d.2.2.2) (bp:Mq.Bd 30 d.2.2.2) (hpc:d.1=.pc→0 < d.2.2.2.1∧Bq d.2.2.2):Kj m t (none,d):=⟨pt,lp,bp,hpc,fun h=>absurd h nho,fun k j e=>by cases e⟩
def Ml (K:PySem.W.Frag):Sp:=fun vs H Q _=>∃(a w:Addr) (ns:List Int) (m ms:Nat) (ks:List Kd),vs=[.ref a,.int (m:Int),.int (ms:Int),.ref w]∧SqL K H a (ns.map V.int)∧ns.length≤63∧1≤m∧m≤20∧ms≤20∧SqL K H w (kws ks)∧1≤ks.length∧(∀k∈ks,k≠.pu)∧
 ∀r us t E H',bC H H'→H r=none→H' r=some (.lst us)→Rts K H' us (rwH E)→Hnk m t m E→E.length≤m - 1+ms→Q (.ref r) H'
abbrev vE:Stmt:=top 84
theorem kK:aS ["_law_script","_law_many","_law_most","_law_words","_law_rows","_law_turn","_law_k","_law_cell","_law_ends"] ["_law_script","_law_many","_law_most","_law_words"] (aD vE):=⟨rfl,rfl,rfl,by decide +kernel,rfl,by decide +kernel,by decide +kernel⟩
theorem Qp {dV:Value} (F:cB K "_law_hanging" "_law_hanging" vE dV f fd)
  (mr:mg "range"=none) (ml:mg "len"=none)
  (G1:aP P w K mg base CX0 1 g1 gd1 ["_law_script","_law_k"] (Ce K)) (b1:aR K gd1 ["_law_script","_law_k"] []) (k1:PySem.W.keepIn K (.ref g1)=true) (m1:mg "_law_draw"=some (.ref g1))
  (G2:aP P w K mg base CX0 1 g2 gd2 ["_law_cell","_law_turn","_law_many"] yX) (b2:aR K gd2 ["_law_cell","_law_turn","_law_many"] []) (k2:PySem.W.keepIn K (.ref g2)=true) (m2:mg "_law_mix"=some (.ref g2))
  (G3:aP P w K mg base CX0 3 g3 gd3 ["_law_rows","_law_cell","_law_word","_law_ends"] (Rp K)) (b3:aR K gd3 ["_law_rows","_law_cell","_law_word","_law_ends"] []) (k3:PySem.W.keepIn K (.ref g3)=true) (m3:mg "_law_put"=some (.ref g3)) :
  aP P w K mg base CX 4 f fd ["_law_script","_law_many","_law_most","_law_words"] (Ml K):=by
 refine F.ok kK (fun vs H Q E h=>?_) (fun cdv A outer s H vs Q E hr h=>?_)
 ·obtain⟨a,w,ns,m,ms,ks,rfl,hS,h63,hm1,hm20,hms,hW,hks1,hks,q⟩:=h
  rfl
 obtain⟨a,w,ns,m,ms,ks,rfl,hS,h63,hm1,hm20,hms,hW,hks1,hks,q⟩:=h
 have r1:=hr.mono (show 1≤3 by omega)
 refine⟨_,(aB (aT (i:=4) kK.nd rfl (Or.inl rfl) (cS aE))
  (aB (aT (i:=5) kK.nd rfl (Or.inl rfl) (aI G2 r1 rfl m2 k2 b2 .nil aL (aA (aI G1 r1 rfl m1 k1 b1 .nil aL (aA (pv 0) (aA aF aE))) (aA aF (aA (pv 1) aE)))))
  (aB (dW PassesOwn.never rfl (vG rfl mr (aA aF (aA (pv 1) aE))) (bF (i:=6) kK.nd rfl (Or.inl rfl))
   (aB (aT (i:=7) kK.nd rfl (Or.inl rfl) (aI G1 r1 rfl m1 k1 b1 .nil aL (aA (pv 0) (aA (aV dC aF (pv 6)) aE))))
  (aB (aT (i:=8) kK.nd rfl (Or.inl rfl) (cW (aA (aV jT (aV dC (pv 6) (pv 5)) (pv 1)) (aA (aV jT (aV dC (aI G2 r1 rfl m2 k2 b2 .nil aL (aA (pv 7) (aA aF (aA (pv 6) aE)))) (pv 5)) (pv 1)) aE))))
  (aG (bQ (aI G3 hr rfl m3 k3 b3 .nil aL (aA (pv 4) (aA (pv 7) (aA (aX bN (pv 3) (aI G2 r1 rfl m2 k2 b2 .nil aL (aA (pv 7) (aA aF (aA (cK bO rfl ml PySem.boot_len (aA (pv 3) aE)) aE)))) (fun _ _=>rfl)) (aA (pv 8) aE))))))))))
  (aB (dW PassesOwn.never rfl (cY (fQ iA (pv 0) (fU aF) (fU (aV dC aF (pv 2))))) (bF (i:=7) kK.nd rfl (Or.inl rfl))
   (aB (aT (i:=8) kK.nd rfl (Or.inl rfl) (cW (aA (aI G2 r1 rfl m2 k2 b2 .nil aL (aA (pv 7) (aA aF (aA (pv 1) aE)))) (aA (aI G2 r1 rfl m2 k2 b2 .nil aL (aA (pv 7) (aA aF (aA (pv 1) aE)))) aE))))
  (aG (bQ (aI G3 hr rfl m3 k3 b3 .nil aL (aA (pv 4) (aA (pv 7) (aA (aX bN (cS (aA cI (aA cI (aA cI aE)))) (aI G2 r1 rfl m2 k2 b2 .nil aL (aA (pv 7) (aA aF (aA aF aE)))) (fun _ _=>rfl)) (aA (pv 8) aE)))))))))
  (aG (aY (pv 4))))))),?_⟩
 refine⟨by show 0≤sizeLine;decide,fun r hr0=>?_⟩
 have s1:=aH hr0 (.lst [])
 have e1:upd H r (.lst []) r=some (.lst []):=aC
 generalize upd H r (.lst [])=H1 at s1 e1 ⊢
 refine⟨_,rfl,a,ns,2,2,rfl,rfl,s1.seq hS,h63,fun c0 H2 s2=>?_⟩
 refine⟨_,rfl,c0,1,(m:Int),rfl,by decide,by decide,by omega,fun t' H3 t0 tm s3=>?_⟩
 obtain⟨t,rfl⟩:∃t:Nat,t'=(t:Int):=⟨t'.toNat,by omega⟩
 have s03:=s1.trans (s2.trans s3)
 have e3:=(s2.trans s3) _ _ e1
 try dsimp only
 refine Kz (fun σ' H'=>bC H H'∧∃(us:List V) (E:List Hn) (z6 z7 z8:Option V),σ'=[some (.ref a),some (.int (m:Int)),some (.int (ms:Int)),some (.ref w),some (.ref r),some (.int (t:Int)),z6,z7,z8]∧H' r=some (.lst us)∧Rts K H' us (rwH E)∧Hnk m t m E∧E.length=m - 1) (fun X hX=>?_) ?_
 ·refine⟨_,rfl,1,(m:Int),rfl,by omega,?_⟩
  refine gM (lo:=1) (n:=((m:Int) - 1).toNat) (fun i σ H'=>bC H H'∧∃(us:List V) (E:List Hn) (z6 z7 z8:Option V),σ=[some (.ref a),some (.int (m:Int)),some (.int (ms:Int)),some (.ref w),some (.ref r),some (.int (t:Int)),z6,z7,z8]∧H' r=some (.lst us)∧Rts K H' us (rwH E)∧Hnk m t (i+1) E∧E.length=i) ⟨s03,[],[],none,none,none,rfl,e3,.nil,⟨hm1,by omega,(fun e he=>by cases he),List.nodup_nil,(fun k a b=>by omega),(fun p hp=>by cases hp),rfl⟩,rfl⟩ ?_ ?_
  ·rintro i σ H4 hi ⟨s4,us,E,z6,z7,z8,rfl,er,hR,hg,le⟩
   obtain⟨k,hk⟩:∃k:Nat,k=i+1:=⟨_,rfl⟩
   have ek:(1:Int)+(i:Int)=(k:Int):=by omega
   rw[ek]
   have lE:(rwH E).length=E.length:=List.length_map ..
   refine⟨_,rfl,_,rfl,_,_,rfl,rfl,a,ns,_,2+k,rfl,by omega,s4.seq hS,h63,fun c H5 s5=>?_⟩
   have s45:=s4.trans s5
   refine⟨_,rfl,_,rfl,_,_,rfl,rfl,_,rfl,_,_,rfl,rfl,(show (m:Int)≠0 by omega),_,rfl,_,rfl,c,1,(k:Int),rfl,by decide,by decide,by omega,fun j' H6 j0 j1 s6=>?_⟩
   obtain⟨j,rfl⟩:∃j:Nat,j'=(j:Int):=⟨j'.toNat,by omega⟩
   refine⟨_,rfl,_,_,rfl,rfl,_,rfl,_,_,rfl,rfl,(show (m:Int)≠0 by omega),by show 2≤sizeLine;decide,fun e he=>?_⟩
   have s7:=aH he (.tup [.int (Int.fmod ((k:Int)+(t:Int)) (m:Int)),.int (Int.fmod ((j:Int)+(t:Int)) (m:Int))])
   have e7:upd H6 e (.tup [.int (Int.fmod ((k:Int)+(t:Int)) (m:Int)),.int (Int.fmod ((j:Int)+(t:Int)) (m:Int))]) e=some (.tup [.int (Int.fmod ((k:Int)+(t:Int)) (m:Int)),.int (Int.fmod ((j:Int)+(t:Int)) (m:Int))]):=aC
   generalize upd H6 e (.tup [.int (Int.fmod ((k:Int)+(t:Int)) (m:Int)),.int (Int.fmod ((j:Int)+(t:Int)) (m:Int))])=H7 at s7 e7 ⊢
   rw[zO hm1,zO hm1] at e7
   have s47:=s5.trans (s6.trans s7)
   have s07:=s4.trans s47
   have er7:=s47 _ _ er
   refine⟨_,rfl,_,rfl,_,rfl,_,rfl,_,rfl,w,_,rfl,.inl (s07.seq hW),c,0,_,rfl,by decide,by decide,by unfold kws;rw[List.length_map];omega,fun x H8 x0 x1 s8=>?_⟩
   have x1:x < (ks.length:Int):=by unfold kws at x1;rwa [List.length_map] at x1
   obtain⟨kd,hkd,ekd⟩:=Vk x0 x1
   refine⟨w,_,_,_,rfl,rfl,(s07.trans s8).seq hW,ekd,_,rfl,?_⟩
   have s48:=s47.trans s8
   refine⟨r,e,c,kd,us,rwH E,_,_,rfl,s48 _ _ er,hR.same s48,by omega,SqT.of (s8 _ _ e7),fun y t9 d H9 H10 hy s9 dk hij lp bp hpc e10 R10=>?_⟩
   subst e10
   have ho:=Rm (m:=m) (t:=t) (k:=k) (j:=j) (d:=d) hm1 (by omega) (by omega) (by omega) (by rw[dk];exact hks kd hkd) lp bp (by rw[dk];exact hpc) hij
   have hg':=Hnk.tree hg ho (j:=j) (by rw[hk]) y
   have ee:rwH (E.take y++(some (k,j),d) :: E.drop y)=(rwH E).take y++d :: (rwH E).drop y:=Dv ..
   rw[← ee] at R10
   exact⟨((s4.trans s48).trans s9).change hr0,us.take y++.ref t9 :: us.drop y,E.take y++(some (k,j),d) :: E.drop y,some (.int (k:Int)),some (.int c),some (.ref e),rfl,aC,R10,hg',by rw[Eg,le]⟩
  ·rintro σ H4 ⟨s4,us,E,z6,z7,z8,rfl,er,hR,hg,le⟩
   rw[show ((m:Int) - 1).toNat+1=m by omega] at hg
   exact hX _ _ ⟨s4,us,E,z6,z7,z8,rfl,er,hR,hg,by omega⟩
 rintro σ2 H2 ⟨s2,us0,E0',z6,z7,z8,rfl,er0,hR0,hg0,le0⟩
 refine⟨_,rfl,8,rfl,_,rfl,_,_,rfl,rfl,8+(ms:Int),rfl,a,_,rfl,s2.seq hS,fun C hC=>?_⟩
 have cl:=Zb (ns.map V.int) ms
 obtain⟨cs,em,_⟩:=Ac ns (some 8) (some (8+(ms:Int)))
 rw[em] at cl ⊢
 rw[List.length_map] at cl
 have nCr:C≠r:=Ne.symm (aZ er0 hC)
 have s3:=aH hC (.lst (cs.map V.int))
 have eC:upd H2 C (.lst (cs.map V.int)) C=some (.lst (cs.map V.int)):=aC
 generalize upd H2 C (.lst (cs.map V.int))=H3 at s3 eC ⊢
 refine⟨C,rfl,⟨_,SqL.of eC⟩,?_⟩
 refine fH (xs:=cs.map V.int) (fun n σ H'=>bC H H'∧H' C=some (.lst (cs.map V.int))∧∃(us:List V) (E:List Hn) (z7 z8:Option V),σ=[some (.ref a),some (.int (m:Int)),some (.int (ms:Int)),some (.ref w),some (.ref r),some (.int (t:Int)),z6,z7,z8]∧H' r=some (.lst us)∧Rts K H' us (rwH E)∧Hnk m t m E∧E.length=m - 1+n) ⟨s2.trans s3,eC,us0,E0',z7,z8,rfl,s3 _ _ er0,hR0.same s3,hg0,le0⟩ (fun n σ H' _ h=>SqL.of h.2.1) ?_ ?_
 ·rintro n x σ H4 hx ⟨s4,eC4,us,E,z7,z8,rfl,er,hR,hg,le⟩
  have hn:n < cs.length:=by
   have:=(List.getElem?_eq_some_iff.mp hx).1
   rwa [List.length_map] at this
  obtain⟨c,rfl⟩:∃c,x=.int c:=by
   rw[List.getElem?_map] at hx
   cases hm:cs[n]? with
   |none=>rw[hm] at hx;cases hx
   |some c=>rw[hm] at hx;cases hx;exact⟨c,rfl⟩
  have lE:(rwH E).length=E.length:=List.length_map ..
  refine⟨_,rfl,_,rfl,c,1,(m:Int),rfl,by decide,by decide,by omega,fun i H5 i0 i1 s5=>?_⟩
  refine⟨_,rfl,_,rfl,c,9,(m:Int),rfl,by decide,by decide,by omega,fun j H6 j0 j1 s6=>?_⟩
  refine⟨by show 2≤sizeLine;decide,fun e he=>?_⟩
  have s7:=aH he (.tup [.int i,.int j])
  have e7:upd H6 e (.tup [.int i,.int j]) e=some (.tup [.int i,.int j]):=aC
  generalize upd H6 e (.tup [.int i,.int j])=H7 at s7 e7 ⊢
  have s47:=s5.trans (s6.trans s7)
  refine⟨_,rfl,_,rfl,by show 3≤sizeLine;decide,fun W2 hW2=>?_⟩
  have s8:=aH hW2 (.lst [.str "piece",.str "push",.str "piece"])
  have e8:upd H7 W2 (.lst [.str "piece",.str "push",.str "piece"]) W2=some (.lst [.str "piece",.str "push",.str "piece"]):=aC
  generalize upd H7 W2 (.lst [.str "piece",.str "push",.str "piece"])=H8 at s8 e8 ⊢
  refine⟨_,rfl,c,0,3,rfl,by decide,by decide,by decide,fun x H9 x0 x1 s9=>?_⟩
  obtain⟨kd,hkd,ekd⟩:∃k:Kd,k≠.ho∧atI [V.str "piece",.str "push",.str "piece"] x=some (.str (Kd.wd k)):=by
   have:x=0∨x=1∨x=2:=by omega
   rcases this with rfl | rfl | rfl
   ·exact⟨.pc,(fun z=>by cases z),rfl⟩
   ·exact⟨.pu,(fun z=>by cases z),rfl⟩
   ·exact⟨.pc,(fun z=>by cases z),rfl⟩
  refine⟨W2,_,_,_,rfl,rfl,SqL.of (s9 _ _ e8),ekd,_,rfl,?_⟩
  have s49:=s47.trans (s8.trans s9)
  refine⟨r,e,c,kd,us,rwH E,_,_,rfl,s49 _ _ er,hR.same s49,by omega,SqT.of ((s8.trans s9) _ _ e7),fun y t9 d HA HB hy sA dk hij lp bp hpc eB RB=>?_⟩
  subst eB
  have pt:cQ (m:Int) d.2.1 d.2.2.1:=by
   rcases hij with ⟨x,y⟩ | ⟨x,y⟩<;>(rw[x,y];exact⟨by omega,by omega,by omega,by omega⟩)
  have ho:=Qt (m:=m) (t:=t) (d:=d) pt (by rw[dk];exact hkd) lp bp (by rw[dk];exact hpc)
  have hg':=Hnk.ins hg ho rfl y
  have ee:rwH (E.take y++(none,d) :: E.drop y)=(rwH E).take y++d :: (rwH E).drop y:=Dv ..
  rw[← ee] at RB
  exact⟨((s4.trans s49).trans sA).change hr0,by rw[aW nCr];exact(s49.trans sA) _ _ eC4,us.take y++.ref t9 :: us.drop y,E.take y++(none,d) :: E.drop y,some (.int c),some (.ref e),rfl,aC,RB,hg',by rw[Eg,le];omega⟩
 ·rintro σ H4 ⟨s4,_,us,E,z7,z8,rfl,er,hR,hg,le⟩
  rw[List.length_map] at le
  exact⟨_,rfl,q r us t E H4 s4 hr0 er hR hg (by omega)⟩
def Km (K:PySem.W.Frag):Sp:=fun vs H Q _=>∃(r:Addr) (us:List V) (m x y:Nat) (ds:List RD),vs=[.ref r,.int (m:Int),.int (x:Int),.int (y:Int)]∧SqL K H r us∧Rts K H us ds∧(∀d∈ds,cQ (m:Int) d.2.1 d.2.2.1)∧m≤20∧x < m∧y < m∧∀H',bC H H'→Q (.bl (decide (mk m (bY .ho ds) x=mk m (bY .ho ds) y))) H'
theorem qV:(["_law_mark","_law_old","_law_new"]:List Str).Nodup:=by decide +kernel
abbrev wM:Stmt:=top 86
theorem jN:aS ["_law_rows","_law_many","_law_a","_law_b","_law_marks","_law_word","_law_start","_law_goal","_law_size_here","_law_old","_law_new"] ["_law_rows","_law_many","_law_a","_law_b"] (aD wM):=⟨rfl,rfl,rfl,by decide +kernel,rfl,by decide +kernel,by decide +kernel⟩
theorem Om {dV:Value} (F:cB K "_law_held" "_law_held" wM dV f fd)
  (mli:mg "list"=none) (mr:mg "range"=none) :
  aP P w K mg base CX 1 f fd ["_law_rows","_law_many","_law_a","_law_b"] (Km K):=by
 refine F.ok jN (fun vs H Q E h=>?_) (fun cdv A outer s H vs Q E hr h=>?_)
 ·obtain⟨r,us,m,x,y,ds,rfl,hS,hR,pt,hm20,hx,hy,q⟩:=h
  rfl
 obtain⟨r,us,m,x,y,ds,rfl,hS,hR,pt,hm20,hx,hy,q⟩:=h
 refine⟨_,(aB (aT (i:=4) jN.nd rfl (Or.inl rfl) (oM rfl rfl mli rfl mr (aA (pv 1) aE)))
  (aB (dW PassesOwn.never rfl (cY (pv 0)) (kX rfl (cJ (bF (i:=5) jN.nd rfl (Or.inl rfl)) (cJ (bF (i:=6) jN.nd rfl (Or.inl rfl)) (cJ (bF (i:=7) jN.nd rfl (Or.inl rfl)) (cJ (bF (i:=8) jN.nd rfl (Or.inl rfl)) iR)))))
   (aG (cD (bG eQ (pv 5) cI (bL _)) (aB (aT (i:=9) jN.nd rfl (Or.inr rfl) (aX bN (pv 4) (pv 7) (fun _ _=>rfl)))
  (aB (aT (i:=10) jN.nd rfl (Or.inr rfl) (aX bN (pv 4) (pv 6) (fun _ _=>rfl)))
  (aG (yH (i:=4) (nl:=1) (fr:=[9,10]) (Nc:=["_law_mark","_law_old","_law_new"]) (cl:=[("_law_old",s.heap.objs.size+1),("_law_new",s.heap.objs.size+2)]) jN.nd rfl rfl rfl ⟨rfl,rfl,by decide +kernel,by decide +kernel,(dZ rfl (dZ rfl (nC))),gQ rfl,rfl,fun i n h=>match i,h with | 0,h=>by cases h;exact⟨9,rfl,rfl,rfl,rfl,.inl rfl⟩ | 1,h=>by cases h;exact⟨10,rfl,rfl,rfl,rfl,.inl rfl⟩ | k+2,h=>by rw[show 1+(k+2)=k+3 by omega] at h;cases h⟩
    (cY (pv 4)) (fun C s3 H3 fp pins=>(bF (i:=0) qV rfl (Or.inl rfl))) (fun C s3 H3 fp pins=>gB)
    (fun C s3 H3 fp pins=>(oO (bG eQ (pv 0) (pv 1) (bL _)) (pv 2) (pv 0))) rfl)))) bK)))
  (aG (aY (hV eQ (aX bN (pv 4) (pv 2) (fun _ _=>rfl)) (aX bN (pv 4) (pv 3) (fun _ _=>rfl)) (bL _)))))),?_⟩
 have lus:=hR.length
 refine⟨_,rfl,m,rfl,by omega,fun D hD=>?_⟩
 have sD:=aH hD (.lst ((List.range m).map fun (i:Nat)=>V.int (i:Int)))
 have eD:upd H D (.lst ((List.range m).map fun (i:Nat)=>V.int (i:Int))) D=some (.lst ((mks m (bY .ho (ds.take 0))).map V.int)):=by
  rw[aC];show some (HO.lst _)=some (HO.lst ((zV m).map V.int));unfold zV;rw[List.map_map];rfl
 generalize upd H D (.lst ((List.range m).map fun (i:Nat)=>V.int (i:Int)))=H1 at sD eD ⊢
 refine⟨_,rfl,r,rfl,⟨_,sD.seq hS⟩,?_⟩
 refine fH (xs:=us) (fun i σ H'=>bC H H'∧∃(c:Addr) (z4 z5 z6 z7 z8 z9:Option V),σ=[some (.ref r),some (.int (m:Int)),some (.int (x:Int)),some (.int (y:Int)),some (.ref c),z4,z5,z6,z7,z8,z9]∧H c=none∧H' c=some (.lst ((mks m (bY .ho (ds.take i))).map V.int))) ⟨sD,D,none,none,none,none,none,none,rfl,hD,eD⟩ (fun i σ H' _ h=>h.1.seq hS) ?_ ?_
 ·rintro i w σ H2 hw ⟨s2,c,z4,z5,z6,z7,z8,z9,rfl,nc,ec⟩
  have hi:i < ds.length:=by have:=(List.getElem?_eq_some_iff.mp hw).1;omega
  obtain⟨⟨kd,u,v,p⟩,hd⟩:∃d,ds[i]?=some d:=⟨_,List.getElem?_eq_getElem hi⟩
  obtain⟨t,z,et,ht,fz⟩:=hR.at hd
  have ew:w=.ref t:=by rw[et] at hw;exact(Option.some.inj hw).symm
  subst ew
  obtain⟨i0,i1,j0,j1⟩:cQ (m:Int) u v:=pt _ (List.mem_of_getElem? hd)
  refine⟨t,_,rfl,s2.seqT ht,rfl,_,_,rfl,_,_,rfl,_,_,rfl,_,_,rfl,rfl,?_⟩
  have eT:bY .ho (ds.take (i+1))=bY .ho (ds.take i)++(if kd=.ho then [(kd,u,v,p)] else []):=by
   rw[List.take_add_one,hd]
   unfold bY
   rw[List.filter_append]
   congr 1
   show List.filter _ [(kd,u,v,p)]=_
   by_cases h:kd=.ho
   ·rw[if_pos h,List.filter_cons_of_pos (by exact decide_eq_true h)];rfl
   ·rw[if_neg h,List.filter_cons_of_neg (by simpa using h)];rfl
  rw[eT]
  have lm:=jV m (bY .ho (ds.take i))
  by_cases hk:kd=.ho
  rotate_left
  ·rw[if_neg hk,List.append_nil]
   refine⟨_,rfl,rfl,_,rfl,L2.ifF (by show decide (V.str kd.wd=V.str "hold")=false;rw[vX];exact decide_eq_false hk) ?_⟩
   exact⟨s2,c,_,_,_,_,z8,z9,rfl,nc,ec⟩
  ·rw[if_pos hk,kQ]
   generalize mks m (bY .ho (ds.take i))=ms at ec lm ⊢
   have sk:gW ms (kd,u,v,p)=jn ms u.toNat v.toNat:=by
    unfold gW
    rw[if_neg (by show ¬kd=.pu;rw[hk];exact fun z=>by cases z)]
   rw[sk]
   refine⟨_,rfl,rfl,_,rfl,L2.ifT (by show decide (V.str kd.wd=V.str "hold")=true;rw[vX];exact decide_eq_true hk) ?_⟩
   have gi:∀{j:Int},0≤j→j < (m:Int)→atI (ms.map V.int) j=some (.int (ms.getD j.toNat 0)):=fun {j} h0 h1=>by
    have hj:j.toNat < ms.length:=by omega
    have:=bZ (xs:=ms.map V.int) (j:=j.toNat) (v:=.int (ms.getD j.toNat 0)) (by rw[List.getElem?_map,List.getElem?_eq_getElem hj,List.getD_eq_getElem?_getD,List.getElem?_eq_getElem hj];rfl)
    rwa [show ((j.toNat:Nat):Int)=j by omega] at this
   refine⟨_,rfl,_,rfl,c,_,_,_,rfl,rfl,SqL.of ec,gi j0 j1,?_⟩
   refine⟨_,rfl,_,rfl,c,_,_,_,rfl,rfl,SqL.of ec,gi i0 i1,?_⟩
   refine⟨_,rfl,c,rfl,⟨_,SqL.of ec⟩,fun D2 hD2=>?_⟩
   have sD2:=aH hD2 (.lst [])
   have lj:(jn ms u.toNat v.toNat).length=ms.length:=by unfold jn;rw[List.length_map]
   refine fZ (xs:=ms.map V.int) (fun i zs H'=>bC H2 H'∧H' D2=some (.lst zs)∧zs=((jn ms u.toNat v.toNat).take i).map V.int) ⟨sD2,aC,rfl⟩ (fun i zs H' h=>h.2.1) (fun i zs H' _ h=>h.1.seq (SqL.of ec)) ?_ ?_
   ·rintro i' zs x H3 hx' ⟨s3,e3,rfl⟩ C hC
    rw[List.getElem?_map] at hx'
    obtain⟨cc,hc,rfl⟩:=Option.map_eq_some_iff.mp hx'
    have hi':i' < ms.length:=(List.getElem?_eq_some_iff.mp hc).1
    have ej:(jn ms u.toNat v.toNat)[i']?=some (if cc=ms.getD v.toNat 0 then ms.getD u.toNat 0 else cc):=by unfold jn;rw[List.getElem?_map,hc];rfl
    refine⟨gH.1,gH.2,gJ ?_⟩
    refine⟨_,rfl,_,rfl,rfl,_,rfl,?_⟩
    by_cases h:cc=ms.getD v.toNat 0
    ·rw[if_pos h] at ej
     refine L2.ifT (decide_eq_true (by rw[h])) ⟨_,rfl,e3,bH (by rw[List.length_map,List.length_take];omega),hC _ _ ⟨s3.change hD2,aC,?_⟩⟩
     rw[List.take_add_one,ej,List.map_append];rfl
    ·rw[if_neg h] at ej
     refine L2.ifF (decide_eq_false (fun z=>h (by injection z))) ⟨_,rfl,e3,bH (by rw[List.length_map,List.length_take];omega),hC _ _ ⟨s3.change hD2,aC,?_⟩⟩
     rw[List.take_add_one,ej,List.map_append];rfl
   ·rintro zs H3 ⟨s3,e3,rfl⟩
    rw[List.length_map,← lj,List.take_length] at e3
    exact⟨s2.trans s3,D2,_,_,_,_,_,_,rfl,s2.free hD2,e3⟩
 ·rintro σ H2 ⟨s2,c,z4,z5,z6,z7,z8,z9,rfl,nc,ec⟩
  rw[show us.length=ds.length by omega,List.take_length] at ec
  have lm:=jV m (bY .ho ds)
  have gi:∀{j:Nat},j < m→atI ((mks m (bY .ho ds)).map V.int) (j:Int)=some (.int (mk m (bY .ho ds) j)):=fun {j} h1=>by
   have hj:j < (mks m (bY .ho ds)).length:=by omega
   exact bZ (xs:=(mks m (bY .ho ds)).map V.int) (j:=j) (v:=.int (mk m (bY .ho ds) j)) (by unfold mk;rw[List.getElem?_map,List.getElem?_eq_getElem hj,List.getD_eq_getElem?_getD,List.getElem?_eq_getElem hj];rfl)
  refine⟨_,rfl,_,rfl,c,_,_,_,rfl,rfl,SqL.of ec,gi hx,?_⟩
  refine⟨_,rfl,_,rfl,c,_,_,_,rfl,rfl,SqL.of ec,gi hy,rfl,?_⟩
  have:=q H2 s2
  have e:decide (V.int (mk m (bY .ho ds) x)=V.int (mk m (bY .ho ds) y))=decide (mk m (bY .ho ds) x=mk m (bY .ho ds) y):=by
   by_cases h:mk m (bY .ho ds) x=mk m (bY .ho ds) y
   ·rw[decide_eq_true h,h,decide_eq_true rfl]
   ·rw[decide_eq_false h,decide_eq_false (fun z=>h (by injection z))]
  show Q (.bl (decide (V.int (mk m (bY .ho ds) x)=V.int (mk m (bY .ho ds) y)))) H2
  rw[e]
  exact this
theorem Yt:Mq.Low (1,1):=⟨by decide,by decide⟩
theorem Mb:Mq.Low (0,1):=⟨by decide,by decide⟩
theorem Xv {n:Nat}:Mq.Bd (n+1) (1,1):=⟨Nat.one_lt_two_pow (by omega),Nat.one_lt_two_pow (by omega)⟩
theorem Qq (ds:List RD) (d:RD):qR (ds++[d])=qR ds++(if d.1=.pu then [] else [qz d]):=by
 unfold qR
 rw[List.filter_append,List.map_append]
 congr 1
 by_cases h:d.1=.pu
 ·rw[if_pos h,List.filter_cons_of_neg (by simp[h])];rfl
 ·rw[if_neg h,List.filter_cons_of_pos (by simpa using h)];rfl
theorem Ca (ds:List RD):(qR ds).length≤ds.length:=by
 unfold qR
 rw[List.length_map]
 exact List.length_filter_le _ _
theorem Sf {m a b:Nat} {ds:List RD} (ha:a < m) (hb:b < m) (h:∀d∈ds,uG (m:Int) d):∀d∈qF ds a b,uG (m:Int) d:=fun d hd=>by
 rcases List.mem_cons.mp hd with z | z
 ·rw[z]
  exact⟨by show (0:Int)≤(b:Int);omega,by show (b:Int) < m;omega,by show (0:Int)≤(a:Int);omega,by show (a:Int) < m;omega,Yt,(fun _=>show (0:Int) < 1 by decide),Xv (n:=999)⟩
 ·obtain⟨e,he,_,rfl⟩:=tS z
  have o:=h e he
  unfold qz
  by_cases c:e.1=.ho
  ·rw[if_pos c]
   exact⟨o.1,o.2.1,o.2.2.1,o.2.2.2.1,Mb,(fun z=>by rw[c] at z;cases z),Lh (n:=999)⟩
  ·rw[if_neg c];exact o
def Dl (CN:Addr) (K:PySem.W.Frag):Sp:=fun vs H Q _=>∃(r:Addr) (us:List V) (m x y:Nat) (ds:List RD),vs=[.ref r,.int (m:Int),.int (x:Int),.int (y:Int)]∧SqL K H r us∧Rts K H us ds∧(∀d∈ds,uG (m:Int) d)∧m≤20∧x < m∧y < m∧ds.length≤60∧(qF ds x y).length≤40∧∀n l H',bC H H'→cX CN K H' n l (m:Int) (qF ds x y)→Q (.ref n) H'
abbrev pO:Stmt:=top 85
theorem jL:aS ["_law_rows","_law_many","_law_a","_law_b","_law_found","_law_word","_law_start","_law_goal","_law_size_here"] ["_law_rows","_law_many","_law_a","_law_b"] (aD pO):=⟨rfl,rfl,rfl,by decide +kernel,rfl,by decide +kernel,by decide +kernel⟩
theorem Ld {dV:Value} (F:cB K "_law_quiet" "_law_quiet" pO dV f fd)
  {CN:Addr}
  (G1:aP P w K mg base CX0 6 g1 gd1 ["_law_many","_law_rows"] (yM CN K)) (b1:aR K gd1 ["_law_many","_law_rows"] []) (k1:PySem.W.keepIn K (.ref g1)=true) (m1:mg "_law_net"=some (.ref g1)) :
  aP P w K mg base CX 7 f fd ["_law_rows","_law_many","_law_a","_law_b"] (Dl CN K):=by
 refine F.ok jL (fun vs H Q E h=>?_) (fun cdv A outer s H vs Q E hr h=>?_)
 ·obtain⟨r,us,m,x,y,ds,rfl,hS,hR,hK,hm20,hx,hy,h60,h40,q⟩:=h
  rfl
 obtain⟨r,us,m,x,y,ds,rfl,hS,hR,hK,hm20,hx,hy,h60,h40,q⟩:=h
 refine⟨_,(aB (aT (i:=4) jL.nd rfl (Or.inl rfl) (cS (aA (cW (aA cI (aA (pv 3) (aA (pv 2) (aA (cW (aA aF (aA aF aE))) aE))))) aE)))
  (aB (dW PassesOwn.never rfl (cY (pv 0)) (kX rfl (cJ (bF (i:=5) jL.nd rfl (Or.inl rfl)) (cJ (bF (i:=6) jL.nd rfl (Or.inl rfl)) (cJ (bF (i:=7) jL.nd rfl (Or.inl rfl)) (cJ (bF (i:=8) jL.nd rfl (Or.inl rfl)) iR)))))
   (aB (cD (bG eQ (pv 5) cI (bL _)) (aG (aT (i:=8) jL.nd rfl (Or.inl rfl) (cW (aA aF (aA aF aE))))) bK)
  (aG (cD (bG mO (pv 5) cI (bL _)) (aG (bQ (mM PySem.F.plainAttrs_list PySem.F.slot_list_append PySem.F.type_list_append eX (pv 4) (aA (cW (aA (pv 5) (aA (pv 6) (aA (pv 7) (aA (pv 8) aE))))) aE)))) bK))))
  (aG (aY (aI G1 hr rfl m1 k1 b1 .nil aL (aA (pv 1) (aA (pv 4) aE))))))),?_⟩
 have lus:=hR.length
 refine⟨_,rfl,_,rfl,by show 2≤sizeLine;decide,fun z1 hz1=>?_⟩
 have s1:=aH hz1 (.tup [.int 1,.int 1])
 have e1:upd H z1 (.tup [.int 1,.int 1]) z1=some (.tup [.int 1,.int 1]):=aC
 generalize upd H z1 (.tup [.int 1,.int 1])=H1 at s1 e1 ⊢
 refine⟨by show 4≤sizeLine;decide,fun t1 ht1=>?_⟩
 have s2:=aH ht1 (.tup [.str "push",.int (y:Int),.int (x:Int),.ref z1])
 have e2:upd H1 t1 (.tup [.str "push",.int (y:Int),.int (x:Int),.ref z1]) t1=some (.tup [.str "push",.int (y:Int),.int (x:Int),.ref z1]):=aC
 generalize upd H1 t1 (.tup [.str "push",.int (y:Int),.int (x:Int),.ref z1])=H2 at s2 e2 ⊢
 refine⟨by show 1≤sizeLine;decide,fun f hf=>?_⟩
 have s3:=aH hf (.lst [.ref t1])
 have e3:upd H2 f (.lst [.ref t1]) f=some (.lst [.ref t1]):=aC
 generalize upd H2 f (.lst [.ref t1])=H3 at s3 e3 ⊢
 have s03:=s1.trans (s2.trans s3)
 have nf:H f=none:=(s1.trans s2).free hf
 have R0:Rts K H3 [.ref t1] ((.pu,(y:Int),(x:Int),(1,1)) :: qR (ds.take 0)):=.cons (k:=.pu) (SqT.of (s3 _ _ e2)) (Fq.of ((s2.trans s3) _ _ e1)) .nil
 refine⟨_,rfl,r,rfl,⟨_,s03.seq hS⟩,?_⟩
 refine fH (xs:=us) (fun i σ H'=>bC H H'∧∃(ts:List V) (z4 z5 z6 z7:Option V),σ=[some (.ref r),some (.int (m:Int)),some (.int (x:Int)),some (.int (y:Int)),some (.ref f),z4,z5,z6,z7]∧H' f=some (.lst ts)∧Rts K H' ts ((.pu,(y:Int),(x:Int),(1,1)) :: qR (ds.take i))) ⟨s03,_,none,none,none,none,rfl,e3,R0⟩ (fun i σ H' _ h=>h.1.seq hS) ?_ ?_
 ·rintro i w σ H2 hw ⟨s2,ts,z4,z5,z6,z7,rfl,ef,RT⟩
  have hi:i < ds.length:=by have:=(List.getElem?_eq_some_iff.mp hw).1;omega
  obtain⟨⟨kd,u,v,p⟩,hd⟩:∃d,ds[i]?=some d:=⟨_,List.getElem?_eq_getElem hi⟩
  obtain⟨t,z,et,ht,fz⟩:=hR.at hd
  have ew:w=.ref t:=by rw[et] at hw;exact(Option.some.inj hw).symm
  subst ew
  have lts:=RT.length
  rw[List.length_cons] at lts
  have lq:=Ca (ds.take i)
  rw[List.length_take] at lq
  refine⟨t,_,rfl,s2.seqT ht,rfl,_,_,rfl,_,_,rfl,_,_,rfl,_,_,rfl,rfl,?_⟩
  have eT:qR (ds.take (i+1))=qR (ds.take i)++(if kd=.pu then [] else [qz (kd,u,v,p)]):=by
   rw[List.take_add_one,hd]
   exact Qq _ _
  rw[eT]
  by_cases hk:kd=.ho
  ·have eq:(if kd=.pu then [] else [qz (kd,u,v,p)])=[(kd,u,v,((0,1):Mq.Q2))]:=by
    rw[if_neg (by rw[hk];exact fun z=>by cases z)]
    unfold qz
    rw[if_pos hk]
   rw[eq]
   refine⟨_,rfl,rfl,_,rfl,L2.ifT (by show decide (V.str kd.wd=V.str "hold")=true;rw[vX];exact decide_eq_true hk) ?_⟩
   refine⟨by show 2≤sizeLine;decide,fun zz hzz=>?_⟩
   have s3:=aH hzz (.tup [.int 0,.int 1])
   have e3:upd H2 zz (.tup [.int 0,.int 1]) zz=some (.tup [.int 0,.int 1]):=aC
   generalize upd H2 zz (.tup [.int 0,.int 1])=H3 at s3 e3 ⊢
   have ef3:=s3 _ _ ef
   have s23:=s2.trans s3
   have RT3:=RT.same s3
   have fz3:Fq K H3 zz (0,1):=Fq.of e3
   refine⟨_,rfl,rfl,_,rfl,L2.ifT (by show (!decide (V.str kd.wd=V.str "push"))=true;rw[Ll,hk];rfl) ?_⟩
   refine⟨_,rfl,.inl ⟨rfl,_,SqL.of ef3⟩,_,rfl,_,rfl,_,rfl,_,rfl,by show 4≤sizeLine;decide,fun t4 ht4=>?_⟩
   have s4:=aH ht4 (.tup [.str kd.wd,.int u,.int v,.ref zz])
   have e4:upd H3 t4 (.tup [.str kd.wd,.int u,.int v,.ref zz]) t4=some (.tup [.str kd.wd,.int u,.int v,.ref zz]):=aC
   generalize upd H3 t4 (.tup [.str kd.wd,.int u,.int v,.ref zz])=H4 at s4 e4 ⊢
   have ef4:=s4 _ _ ef3
   refine⟨f,_,_,rfl,rfl,ef4,bH (by omega),?_⟩
   refine⟨(s23.trans s4).change nf,_,_,_,_,_,rfl,aC,?_⟩
   rw[← List.cons_append]
   exact Rts.upd ef4 ((RT3.same s4).app (.cons (k:=kd) (SqT.of e4) (s4.fq fz3) .nil))
  ·refine⟨_,rfl,rfl,_,rfl,L2.ifF (by show decide (V.str kd.wd=V.str "hold")=false;rw[vX];exact decide_eq_false hk) ?_⟩
   by_cases hp:kd=.pu
   ·rw[if_pos hp,List.append_nil]
    refine⟨_,rfl,rfl,_,rfl,L2.ifF (by show (!decide (V.str kd.wd=V.str "push"))=false;rw[Ll,hp];rfl) ?_⟩
    exact⟨s2,ts,_,_,_,_,rfl,ef,RT⟩
   have eq:(if kd=.pu then [] else [qz (kd,u,v,p)])=[(kd,u,v,p)]:=by
    rw[if_neg hp]
    unfold qz
    rw[if_neg hk]
   rw[eq]
   refine⟨_,rfl,rfl,_,rfl,L2.ifT (by show (!decide (V.str kd.wd=V.str "push"))=true;rw[Ll,decide_eq_false hp];rfl) ?_⟩
   have fz2:=s2.fq fz
   refine⟨_,rfl,.inl ⟨rfl,_,SqL.of ef⟩,_,rfl,_,rfl,_,rfl,_,rfl,by show 4≤sizeLine;decide,fun t4 ht4=>?_⟩
   have s4:=aH ht4 (.tup [.str kd.wd,.int u,.int v,.ref z])
   have e4:upd H2 t4 (.tup [.str kd.wd,.int u,.int v,.ref z]) t4=some (.tup [.str kd.wd,.int u,.int v,.ref z]):=aC
   generalize upd H2 t4 (.tup [.str kd.wd,.int u,.int v,.ref z])=H4 at s4 e4 ⊢
   have ef4:=s4 _ _ ef
   refine⟨f,_,_,rfl,rfl,ef4,bH (by omega),?_⟩
   refine⟨(s2.trans s4).change nf,_,_,_,_,_,rfl,aC,?_⟩
   rw[← List.cons_append]
   exact Rts.upd ef4 ((RT.same s4).app (.cons (k:=kd) (SqT.of e4) (s4.fq fz2) .nil))
 ·rintro σ H2 ⟨s2,ts,z4,z5,z6,z7,rfl,ef,RT⟩
  rw[show us.length=ds.length by omega,List.take_length] at RT
  exact⟨_,rfl,_,rfl,(m:Int),f,ts,qF ds x y,rfl,by omega,by omega,SqL.of ef,RT,Sf hx hy hK,h40,fun n l H3 s3 _ nt=>q n l H3 (s2.trans s3) nt⟩
theorem tI (a:Nat):∀n,jO (fun _=>a) n=(4*a+20)*n
 |0=>rfl
 |n+1=>by show jO _ n+(4*a+20)=_;rw[tI a n,Nat.mul_succ]
theorem Ss {p:Mq.Q2} (l:1≤p.2) (h:0≤Mq.val p):0≤p.1:=by
 rcases Int.lt_or_le p.1 0 with z | z
 ·exfalso
  have n:=Mq.qJ l
  have e:((p.1:Int):Rat)=Mq.val p*((p.2:Int):Rat):=by unfold Mq.val;grind
  have:(0:Rat)≤((p.1:Int):Rat):=by rw[e];exact Rat.mul_nonneg h (by exact_mod_cast (show (0:Int)≤p.2 by omega))
  have:(0:Int)≤p.1:=by exact_mod_cast this
  omega
 ·exact z
theorem Lx {H H':Hp} {x dx C:Addr} (hx:H x=none) (hd:H dx=none) (s:cL x (upd (upd H dx (.own x)) x (.ins C dx [])) H'):bC H H':=fun b o h=>by
 have n1:b≠x:=fun z=>by rw[z,hx] at h;cases h
 have n2:b≠dx:=fun z=>by rw[z,hd] at h;cases h
 exact s b o (by rw[aW n1,aW n2];exact h) n1
theorem Tl {p:Mq.Q2} (l:1≤p.2) (h:0 < Mq.val p):0 < p.1:=by
 have a:=Ss l (Rat.le_of_lt h)
 rcases Int.lt_or_le 0 p.1 with c | c
 ·exact c
 ·exfalso
  have e0:p.1=0:=by omega
  unfold Mq.val at h
  rw[e0,Rat.div_def,show ((0:Int):Rat)=0 by rfl,Rat.zero_mul] at h
  exact absurd h (by decide)
structure Dk (m:Nat) (L:Int) (ds:List RD):Prop where
 o:Nof m ds
 m5:m≤5
 w8:wd m ds≤8
 L1:1≤L
 LB:Mq.B 361 L
 dv:∀d∈ds,d.1=.pc→0 < d.2.2.2.1∧d.2.2.2.1 ∣ L∧1≤d.2.2.2.2∧d.2.2.2.2.natAbs≤16
 ok:∀d∈ds,uG (m:Int) d∧Mq.Bd 30 d.2.2.2
 len:ds.length≤40
 ql:(qR ds).length≤12
section
variable {CN:Addr} {H:Hp} {n l:Addr} {m x y:Nat} {L:Int} {ds:List RD}
theorem Dk.net (h:Dk m L ds) (nt:cX CN K H n l (m:Int) ds):Cw CN K H n l m 371 (fun _=>30) L ds∧bw 371 (wd m ds)≤3400:=by
 have m5:=h.m5
 have len:=h.len
 have w8:=h.w8
 refine⟨⟨nt,fun i d hd=>h.ok d (List.mem_of_getElem? hd),by omega,h.len,?_,Px h.o h.L1 h.LB h.dv h.len h.w8 (by omega)⟩,?_⟩
 ·rw[tI];omega
 ·show (371+5)*(wd m ds+1)+8≤3400
  omega
theorem Dk.quiet (h:Dk m L ds) (hx:x < m) (hy:y < m):Dk m L (qF ds x y):=by
 have ql:=h.ql
 refine⟨h.o.quiet hx hy,h.m5,by rw[Fy];exact h.w8,h.L1,h.LB,fun d hd hk=>?_,fun d hd=>⟨Sf hx hy (fun d hd=>(h.ok d hd).1) d hd,?_⟩,by show (qR ds).length+1≤40;omega,?_⟩
 ·rcases List.mem_cons.mp hd with z | z
  ·rw[z] at hk;cases hk
  ·obtain⟨e,he,_,rfl⟩:=tS z
   rw[Hb] at hk
   have:qz e=e:=by unfold qz;rw[if_neg (by rw[hk];exact fun z=>by cases z)]
   rw[this]
   exact h.dv e he hk
 ·rcases List.mem_cons.mp hd with z | z
  ·rw[z];exact Xv (n:=29)
  ·obtain⟨e,he,_,rfl⟩:=tS z
   unfold qz
   by_cases c:e.1=.ho
   ·rw[if_pos c];exact Lh (n:=29)
   ·rw[if_neg c];exact(h.ok e he).2
 ·have:qR (qF ds x y)=qR (qR ds):=by unfold qF;rw[rD];exact if_pos rfl
  rw[this]
  exact Nat.le_trans (Ca _) ql
theorem Xn (i:Nat):∃z:Int,z.natAbs≤1∧eqR m (qF ds x y) (i+1)=(z:Rat):=by
 rw[Ks]
 unfold un
 by_cases c:i+1=x<;>by_cases d:i+1=y
 ·exact⟨0,by decide,by rw[if_pos c,if_pos d];show (1:Rat) - 1=((0:Int):Rat);decide +kernel⟩
 ·exact⟨1,by decide,by rw[if_pos c,if_neg d];show (1:Rat) - 0=((1:Int):Rat);decide +kernel⟩
 ·exact⟨-1,by decide,by rw[if_neg c,if_pos d];show (0:Rat) - 1=((-1:Int):Rat);decide +kernel⟩
 ·exact⟨0,by decide,by rw[if_neg c,if_neg d];show (0:Rat) - 0=((0:Int):Rat);decide +kernel⟩
end
def Di (CN:Addr) (K:PySem.W.Frag):Sp:=fun vs H Q _=>∃(n l r:Addr) (us:List V) (m x y:Nat) (L:Int) (ds:List RD),vs=[.ref n,.ref r,.int (m:Int),.int (x:Int),.int (y:Int)]∧cX CN K H n l (m:Int) ds∧SqL K H r us∧Rts K H us ds∧Dk m L ds∧x < m∧y < m∧∀H',bC H H'→Q (.bl true) H'
abbrev pT:Stmt:=top 87
theorem yA:aS ["_law_net_here","_law_rows","_law_many","_law_a","_law_b","_law_due","_law_found"] ["_law_net_here","_law_rows","_law_many","_law_a","_law_b"] (aD pT):=⟨rfl,rfl,rfl,by decide +kernel,rfl,by decide +kernel,by decide +kernel⟩
theorem Jf {dV:Value} (F:cB K "_law_two" "_law_two" pT dV f fd)
  {CN CA:Addr} (ABx:AB K mg CA)
  {gAI:Addr} {gdAI:FuncData} (GAI:aP P w K mg base CX0 8 gAI gdAI ["self","net"] (Af CN CA K)) (bAI:aR K gdAI ["self","net"] []) (MA:Mk K CA gAI)
  {gFa:Addr} {gdFa:FuncData} (GFa:aP P w K mg base CX0 4 gFa gdFa ["self","a","b"] (Gd CA K)) (bFa:aR K gdFa ["self","a","b"] []) (mFa:gD K CA "fall" gFa)
  (G1:aP P w K mg base CX0 7 g1 gd1 ["_law_rows","_law_many","_law_a","_law_b"] (Dl CN K)) (b1:aR K gd1 ["_law_rows","_law_many","_law_a","_law_b"] []) (k1:PySem.W.keepIn K (.ref g1)=true) (m1:mg "_law_quiet"=some (.ref g1))
  (G2:aP P w K mg base CX0 9 g2 gd2 ["net","a","b"] (Nb CN K)) (b2:aR K gd2 ["net","a","b"] []) (k2:PySem.W.keepIn K (.ref g2)=true) (m2:mg "between"=some (.ref g2))
  (G3:aP P w K mg base CX0 1 g3 gd3 ["_law_found","_law_due"] (Dg K)) (b3:aR K gd3 ["_law_found","_law_due"] []) (k3:PySem.W.keepIn K (.ref g3)=true) (m3:mg "_law_told"=some (.ref g3))
  (G4:aP P w K mg base CX0 1 g4 gd4 ["_law_rows","_law_many","_law_a","_law_b"] (Km K)) (b4:aR K gd4 ["_law_rows","_law_many","_law_a","_law_b"] []) (k4:PySem.W.keepIn K (.ref g4)=true) (m4:mg "_law_held"=some (.ref g4)) :
  aP P w K mg base CX 10 f fd ["_law_net_here","_law_rows","_law_many","_law_a","_law_b"] (Di CN K):=by
 refine F.ok yA (fun vs H Q E h=>?_) (fun cdv A outer s H vs Q E hr h=>?_)
 ·obtain⟨n,l,r,us,m,x,y,L,ds,rfl,nt,hS,hR,DK,hx,hy,q⟩:=h
  rfl
 obtain⟨n,l,r,us,m,x,y,L,ds,rfl,nt,hS,hR,DK,hx,hy,q⟩:=h
 have hu:=hr.units
 have r9:=hr
 have r1:=hr.mono (show 1≤9 by omega)
 have r4:=hr.mono (show 4≤9 by omega)
 have r7:=hr.mono (show 7≤9 by omega)
 refine⟨_,(aB (aT (i:=5) yA.nd rfl (Or.inl rfl) (wU (lK MA GAI r9 rfl ABx.mA bAI .nil aL (aA (aI G1 r7 rfl m1 k1 b1 .nil aL (aA (pv 1) (aA (pv 2) (aA (pv 3) (aA (pv 4) aE))))) aE)) ABx.cl mFa GFa r4 bFa .nil aL (aA (pv 3) (aA (pv 4) aE))))
  (aB (aT (i:=6) yA.nd rfl (Or.inl rfl) (aI G2 r9 rfl m2 k2 b2 .nil aL (aA (pv 0) (aA (pv 3) (aA (pv 4) aE)))))
  (aB (cD (PW.pt (kL (fM (dD (aI G3 r1 rfl m3 k3 b3 .nil aL (aA (pv 6) (aA (pv 5) aE))))) (jS (fM (dD (aI G3 r1 rfl m3 k3 b3 .nil aL (aA (aI G2 r9 rfl m2 k2 b2 .nil aL (aA (pv 0) (aA (pv 4) (aA (pv 3) aE)))) (aA (pv 5) aE)))))))) (aG (aY jW)) bK)
  (aB (cD (dD (aI G4 r1 rfl m4 k4 b4 .nil aL (aA (pv 1) (aA (pv 2) (aA (pv 3) (aA (pv 4) aE)))))) (aG (aY (hV (Cd hu) (pv 6) (cW (aA aF (aA aF aE))) (bL _)))) bK)
  (aG (aY (hV Aj (aX bA (pv 6) aF (fun _ _=>rfl)) aF (bL _)))))))),?_⟩
 have o:=DK.o
 have m5:=DK.m5
 have ql:=DK.ql
 obtain⟨NB,hbw⟩:=DK.net nt
 have wm:m - 1≤wd m ds:=Nat.le_add_right ..
 refine⟨_,rfl,_,rfl,_,rfl,_,rfl,r,us,m,x,y,ds,rfl,hS,hR,(fun d hd=>(DK.ok d hd).1),by omega,hx,hy,Nat.le_trans DK.len (by decide),by show (qR ds).length+1≤40;omega,fun qn qnl H1 s1 qnt=>?_⟩
 refine fun xa dx hx0 hdx nxd=>?_
 have sm:=Eh (C:=CA) hx0 hdx
 have DQ:=DK.quiet hx hy
 obtain⟨NQ,hbq⟩:=DQ.net (qnt.same sm)
 refine⟨xa,dx,qn,qnl,m,371,_,L,qF ds x y,rfl,aC,NQ,Nat.le_trans hbq (by decide),Xn,oT Ff DQ.o.pt (by omega) DQ.o.fr _ (Nat.le_refl _),Dr DQ.o,fun ps H2 sx2 an lps lo OV SV=>⟨rfl,?_⟩⟩
 have s2:=Lx hx0 hdx sx2
 obtain⟨ts,el,_⟩:=qnt.ls
 have an:=an qnl _ (sm _ _ el) (fun z=>by rw[z,hx0] at el;cases el)
 obtain⟨dx4,li4,le4,fo4,_,_,ha4,_⟩:=an.e
 have SB:=SV.quiet
 rw[Fy] at lps OV hbq
 have lv:=Dm (ps:=ps) o.m1 (by omega)
 have llo:=Dt (m:=m) lo
 have b39:=Nj (Nx (m:=m) OV) llo (by omega)
 have lx:=llo _ (List.mem_of_getElem? (jD (ps:=lvS m ps) (j:=x) (by omega)))
 have ly:=llo _ (List.mem_of_getElem? (jD (ps:=lvS m ps) (j:=y) (by omega)))
 have vd:=Mq.lU lx.pos ly.pos
 have ld:=Mq.jE lx.pos ly.pos
 rw[xD (by omega) hx,xD (by omega) hy] at vd
 refine⟨xa,dx4,_,rfl,ha4,Ob _ _ _ (by decide +kernel) (by decide +kernel) (by decide +kernel),_,rfl,_,rfl,xa,lvS m ps,_,x,y,rfl,an.at,by omega,by omega,by omega,b39,fun f0 H3 s3 e3=>?_⟩
 have f3:Fq K H3 f0 _:=Fq.of e3
 generalize Mq.minus ((lvS m ps).getD x (0,1)) ((lvS m ps).getD y (0,1))=p0 at f3 vd ld
 have s03:=s1.trans (s2.trans s3)
 refine⟨_,rfl,_,rfl,_,rfl,n,l,m,371,_,L,ds,x,y,rfl,NB.same s03,hx,hy,fun f1 p1 v1 H4 s4 g1 l1 b1 SB1 ev1=>?_⟩
 have u1:=Sv.uni o SB SB1
 have e1:p1=p0:=Mq.lH l1 ld (by rw[ev1,vd,u1 x (by omega),u1 y (by omega)])
 subst e1
 have s04:=s03.trans s4
 refine⟨_,rfl,_,rfl,f1,f0,p1,rfl,g1,s4.fq f3,_,rfl,eV ?_⟩
 refine⟨_,rfl,_,rfl,_,rfl,n,l,m,371,_,L,ds,y,x,rfl,NB.same s04,hy,hx,fun f2 p2 v2 H5 s5 g2 l2 b2 SB2 ev2=>?_⟩
 have u2:=Sv.uni o SB SB2.turn
 have e2:p2=p1:=Mq.lH l2 l1 (by
  rw[ev2,vd,u2 x (by omega),u2 y (by omega)]
  show v2 y - v2 x=- v2 x - - v2 y
  grind)
 subst e2
 have s05:=s04.trans s5
 refine⟨_,rfl,f2,f0,p2,rfl,g2,(s4.trans s5).fq f3,_,rfl,eV ?_⟩
 refine⟨_,rfl,_,rfl,_,rfl,_,rfl,r,us,m,x,y,ds,rfl,s05.seq hS,hR.same s05,o.pt,by omega,hx,hy,fun H6 s6=>?_⟩
 have s06:=s05.trans s6
 have cn:=Fn (m:=m) (ds:=bY .ho ds) (fun d hd=>o.pt d (List.mem_filter.mp hd).1) hx hy
 have g6:=(s5.trans s6).fq g1
 by_cases c:Cn (bY .ho ds) x y
 ·refine⟨_,rfl,L2.ifT (decide_eq_true (cn.mpr c)) ?_⟩
  refine⟨_,rfl,by show 2≤sizeLine;decide,fun t7 ht7=>?_⟩
  have s7:=aH ht7 (.tup [.int 0,.int 1])
  refine My (q:=(0,1)) (s7.fq g6) (Fq.of aC) ?_
  have e0:p2=(0,1):=Mq.lH l1 Mb (by rw[ev1,SB1.held o hx hy c,Mq.mG];grind)
  show Q (.bl (decide (p2=(0,1)))) _
  rw[decide_eq_true e0]
  exact q _ (s06.trans s7)
 ·refine⟨_,rfl,L2.ifF (decide_eq_false (fun z=>c (cn.mp z))) ?_⟩
  refine fX rfl g6 ⟨_,_,rfl,rfl,?_⟩
  have p0:0 < p2.1:=Tl l1.pos (by rw[ev1];exact SB1.above o hx hy c)
  show Q (.bl (decide (0 < p2.1))) _
  rw[decide_eq_true p0]
  exact q _ s06
end
section
variable {P:Program} {w:World} {K:PySem.W.Frag} {mg:Str→Option Value} {base:Heap} {f g1 g2 g3 g4 g5 g6 g7 g8:Addr} {fd gd1 gd2 gd3 gd4 gd5 gd6 gd7 gd8:FuncData} {CX:CXT}
abbrev pu0:RD:=(.pu,0,0,(0,1))
theorem Ds (ds:List RD) (n:Nat):bY .ho (ds++List.replicate n pu0)=bY .ho ds:=by
 unfold bY
 rw[List.filter_append,List.filter_eq_nil_iff (l:=List.replicate n pu0) |>.mpr fun d hd=>?_,List.append_nil]
 rw[List.eq_of_mem_replicate hd]
 decide
theorem Vj (ds:List RD) (n:Nat):qR (ds++List.replicate n pu0)=qR ds:=by
 unfold qR
 rw[List.filter_append,List.filter_eq_nil_iff (l:=List.replicate n pu0) |>.mpr fun d hd=>?_,List.append_nil]
 rw[List.eq_of_mem_replicate hd]
 decide
variable {m t:Nat} {E:List Hn}
theorem Hnk.dk (h:Hnk m t m E) (m5:m≤5) (le:E.length≤m - 1+8) (n:Nat) (hn:E.length+n≤40):Dk m (LH E) (rwH E++List.replicate n pu0):=by
 have m1:=h.m1
 obtain⟨L1,LB,dv⟩:=h.L
 have hl:=h.hold_le
 have o:=h.nof
 have lE:(rwH E).length=E.length:=List.length_map ..
 have pu:∀d∈List.replicate n pu0,d=pu0:=fun d hd=>List.eq_of_mem_replicate hd
 have rd0:uG (m:Int) pu0:=⟨Int.le_refl _,by show (0:Int) < m;omega,Int.le_refl _,by show (0:Int) < m;omega,Mb,(fun z=>by cases z),Lh (n:=999)⟩
 refine⟨⟨m1,fun d hd=>?_,fun d hd hk=>?_,fun p hp=>?_,?_⟩,m5,?_,L1,LB.mono (by omega),fun d hd hk=>?_,fun d hd=>?_,?_,?_⟩
 ·rcases List.mem_append.mp hd with z | z
  ·exact o.pt d z
  ·rw[pu d z];exact⟨rd0.1,rd0.2.1,rd0.2.2.1,rd0.2.2.2.1⟩
 ·rcases List.mem_append.mp hd with z | z
  ·exact o.pos d z hk
  ·rw[pu d z] at hk;cases hk
 ·exact Cn.mono (fun x hx=>List.mem_append_left _ hx) (o.cn p hp)
 ·exact Frs.sel (by rw[Ds]) o.fr
 ·show m - 1+(bY .ho (rwH E++List.replicate n pu0)).length≤8
  rw[Ds]
  have hl:(bY .ho (rwH E)).length+1≤m:=hl
  omega
 ·rcases List.mem_append.mp hd with z | z
  ·exact dv d z hk
  ·rw[pu d z] at hk;cases hk
 ·rcases List.mem_append.mp hd with z | z
  ·obtain⟨e,he,rfl⟩:=List.mem_map.mp z
   have oe:=h.en e he
   obtain⟨p1,p2,p3,p4⟩:=oe.pt
   exact⟨⟨p1,p2,p3,p4,oe.sl,fun hk=>(oe.pc hk).1,oe.bd.mono (by omega)⟩,oe.bd⟩
  ·rw[pu d z];exact⟨rd0,Lh (n:=29)⟩
 ·rw[List.length_append,List.length_replicate,lE];omega
 ·rw[Vj]
  have:=Ca (rwH E)
  omega
structure Chg (ds es:List RD):Prop where
 sk:ds.map sk3=es.map sk3
 el:∀d∈es,d∈ds∨(d.1≠.pc∧Mq.Low d.2.2.2∧Mq.Bd 30 d.2.2.2)
theorem Chg.refl (ds:List RD):Chg ds ds:=⟨rfl,fun d h=>.inl h⟩
theorem Chg.set {ds es:List RD} (h:Chg ds es) {i:Nat} {d:RD} {p:Mq.Q2} (hd:es[i]?=some d) (nk:d.1≠.pc) (l:Mq.Low p) (b:Mq.Bd 30 p):Chg ds (es.set i (d.1,d.2.1,d.2.2.1,p)):=by
 refine⟨h.sk.trans (To hd rfl),fun x hx=>?_⟩
 rcases List.mem_or_eq_of_mem_set hx with z | z
 ·exact h.el x z
 ·rw[z];exact .inr ⟨nk,l,b⟩
theorem Tn {ds es:List RD} (h:ds.map sk3=es.map sk3):(qR ds).length=(qR es).length:=by
 have:∀l:List RD,(qR l).length=((l.map sk3).filter fun x=>decide (x.1≠.pu)).length:=fun l=>by
  unfold qR
  rw[List.length_map,List.filter_map,List.length_map];rfl
 rw[this,this,h]
theorem Dk.chg {m:Nat} {L:Int} {ds es:List RD} (h:Dk m L ds) (c:Chg ds es):Dk m L es:=by
 have hl:ds.length=es.length:=by have:=congrArg List.length c.sk;rwa [List.length_map,List.length_map] at this
 have len:=h.len
 have ql:=h.ql
 have w8:=h.w8
 have o':Nof m es:=Nof.sk c.sk h.o fun d hd hk=>by
  rcases c.el d hd with z | z
  ·exact h.o.pos d z hk
  ·exact absurd hk z.1
 refine⟨o',h.m5,?_,h.L1,h.LB,fun d hd hk=>?_,fun d hd=>?_,by omega,by rw[← Tn c.sk];exact ql⟩
 ·show m - 1+bU es≤8
  rw[← Ut c.sk]
  exact w8
 ·rcases c.el d hd with z | z
  ·exact h.dv d z hk
  ·exact absurd hk z.1
 ·rcases c.el d hd with z | z
  ·exact h.ok d z
  ·obtain⟨p1,p2,p3,p4⟩:=o'.pt d hd
   exact⟨⟨p1,p2,p3,p4,z.2.1,fun hk=>absurd hk z.1,z.2.2.mono (by omega)⟩,z.2.2⟩
end
section
variable {P:Program} {w:World} {K:PySem.W.Frag} {mg:Str→Option Value} {base:Heap} {f g1 g2 g3 g4 g5 g6 g7 g8:Addr} {fd gd1 gd2 gd3 gd4 gd5 gd6 gd7 gd8:FuncData} {CX:CXT}
variable {CR:Addr} {CK:Kd→Addr} {fW fJ fT fS:Kd→Addr} {fdW fdJ fdT fdS:Kd→FuncData}
theorem Ea {K:PySem.W.Frag} {H:Hp} {t z:Addr} (ht:SqT K H t [.str "push",.int 0,.int 0,.ref z]) (fz:Fq K H z (0,1)):∀n,Rts K H (List.replicate n [V.ref t]).flatten (List.replicate n pu0)
 |0=>.nil
 |n+1=>.cons (k:=.pu) ht fz (Ea ht fz n)
def Fl (K:PySem.W.Frag):Sp:=fun vs H Q _=>∃(a:Addr) (ns:List Int),vs=[.ref a]∧SqL K H a (ns.map V.int)∧ns.length≤63∧∀H',Q (.bl true) H'
abbrev wZ:Stmt:=top 88
theorem jA:aS ["_law_script","_law_many","_law_rows","_law_net_here","_law_a","_law_b","_law_cell","_law_k","_law_word","_law_start","_law_goal","_law_size_here"] ["_law_script"] (aD wZ):=⟨rfl,rfl,rfl,by decide +kernel,rfl,by decide +kernel,by decide +kernel⟩
theorem Us {dV:Value} (F:cB K "law" "law" wZ dV f fd)
  {CN:Addr} (NTx:NT K mg CN) (ml:mg "len"=none) (mr:mg "range"=none)
  {gTo:Addr} {gdTo:FuncData} (GTo:aP P w K mg base CX0 1 gTo gdTo ["self"] (Ee CN K)) (bTo:aR K gdTo ["self"] []) (mTo:gD K CN "told" gTo)
  {gCh:Addr} {gdCh:FuncData} (GCh:aP P w K mg base CX0 5 gCh gdCh ["self","k","size"] (zC CN K)) (bCh:aR K gdCh ["self","k","size"] []) (mCh:gD K CN "change" gCh)
  (G1:aP P w K mg base CX0 1 g1 gd1 ["_law_script","_law_k"] (Ce K)) (b1:aR K gd1 ["_law_script","_law_k"] []) (k1:PySem.W.keepIn K (.ref g1)=true) (m1:mg "_law_draw"=some (.ref g1))
  (G2:aP P w K mg base CX0 4 g2 gd2 ["_law_script","_law_many","_law_most","_law_words"] (Ml K)) (b2:aR K gd2 ["_law_script","_law_many","_law_most","_law_words"] []) (k2:PySem.W.keepIn K (.ref g2)=true) (m2:mg "_law_hanging"=some (.ref g2))
  (G3:aP P w K mg base CX0 6 g3 gd3 ["_law_many","_law_rows"] (yM CN K)) (b3:aR K gd3 ["_law_many","_law_rows"] []) (k3:PySem.W.keepIn K (.ref g3)=true) (m3:mg "_law_net"=some (.ref g3))
  (G4:aP P w K mg base CX0 10 g4 gd4 ["_law_net_here","_law_rows","_law_many","_law_a","_law_b"] (Di CN K)) (b4:aR K gd4 ["_law_net_here","_law_rows","_law_many","_law_a","_law_b"] []) (k4:PySem.W.keepIn K (.ref g4)=true) (m4:mg "_law_two"=some (.ref g4))
  (G5:aP P w K mg base CX0 1 g5 gd5 ["_law_cell","_law_turn","_law_many"] yX) (b5:aR K gd5 ["_law_cell","_law_turn","_law_many"] []) (k5:PySem.W.keepIn K (.ref g5)=true) (m5:mg "_law_mix"=some (.ref g5))
  (G6:aP P w K mg base CX0 9 g6 gd6 ["net","a","b"] (Nb CN K)) (b6:aR K gd6 ["net","a","b"] []) (k6:PySem.W.keepIn K (.ref g6)=true) (m6:mg "between"=some (.ref g6))
  (G7:aP P w K mg base CX0 1 g7 gd7 ["_law_found","_law_due"] (Dg K)) (b7:aR K gd7 ["_law_found","_law_due"] []) (k7:PySem.W.keepIn K (.ref g7)=true) (m7:mg "_law_told"=some (.ref g7))
  (G8:aP P w K mg base CX0 1 g8 gd8 ["_law_cell","_law_k"] Ms) (b8:aR K gd8 ["_law_cell","_law_k"] []) (k8:PySem.W.keepIn K (.ref g8)=true) (m8:mg "_law_part"=some (.ref g8))
  {g9:Addr} {gd9:FuncData} (G9:aP P w K mg base CX0 1 g9 gd9 ["_law_top","_law_bottom"] jM) (b9:aR K gd9 ["_law_top","_law_bottom"] []) (k9:PySem.W.keepIn K (.ref g9)=true) (m9:mg "_law_lowest"=some (.ref g9)) :
  aP P w K mg base CX 11 f fd ["_law_script"] (Fl K):=by
 refine F.ok jA (fun vs H Q E h=>?_) (fun cdv A outer s H vs Q E hr h=>?_)
 ·obtain⟨a,ns,rfl,hS,h63,q⟩:=h
  rfl
 obtain⟨a,ns,rfl,hS,h63,q⟩:=h
 have hu:=hr.units
 have r1:=hr.mono (show 1≤10 by omega)
 have r4:=hr.mono (show 4≤10 by omega)
 have r5:=hr.mono (show 5≤10 by omega)
 have r6:=hr.mono (show 6≤10 by omega)
 have r9:=hr.mono (show 9≤10 by omega)
 refine⟨_,(aB (aT (i:=1) jA.nd rfl (Or.inl rfl) (aV dC aF (aV iV (aI G1 r1 rfl m1 k1 b1 .nil aL (aA (pv 0) (aA aF aE))) aF)))
  (aB (aT (i:=2) jA.nd rfl (Or.inl rfl) (aI G2 r4 rfl m2 k2 b2 .nil aL (aA (pv 0) (aA (pv 1) (aA aF (aA (cS (aA cI (aA cI (aA cI (aA cI aE))))) aE))))))
  (aB (cD (bG eQ (aI G5 r1 rfl m5 k5 b5 .nil aL (aA (aI G1 r1 rfl m1 k1 b1 .nil aL (aA (pv 0) (aA aF aE))) (aA aF (aA aF aE)))) aF (bL _)) (aG (aT (i:=2) jA.nd rfl (Or.inl rfl) (aV pD (pv 2) (aV xO (cS (aA (cW (aA cI (aA aF (aA aF (aA (cW (aA aF (aA aF aE))) aE))))) aE)) (aV iI aF (cK bO rfl ml PySem.boot_len (aA (pv 2) aE))))))) bK)
  (aB (aT (i:=3) jA.nd rfl (Or.inl rfl) (aI G3 r6 rfl m3 k3 b3 .nil aL (aA (pv 1) (aA (pv 2) aE))))
  (aB (aT (i:=4) jA.nd rfl (Or.inl rfl) (aI G5 r1 rfl m5 k5 b5 .nil aL (aA (aI G1 r1 rfl m1 k1 b1 .nil aL (aA (pv 0) (aA aF aE))) (aA aF (aA (pv 1) aE)))))
  (aB (aT (i:=5) jA.nd rfl (Or.inl rfl) (aI G5 r1 rfl m5 k5 b5 .nil aL (aA (aI G1 r1 rfl m1 k1 b1 .nil aL (aA (pv 0) (aA aF aE))) (aA aF (aA (pv 1) aE)))))
  (aB (cD (PW.pt (kL (fM (dD (aI G4 hr rfl m4 k4 b4 .nil aL (aA (pv 3) (aA (pv 2) (aA (pv 1) (aA (pv 4) (aA (pv 5) aE)))))))) (jS (fM (dD (aI G7 r1 rfl m7 k7 b7 .nil aL (aA (aI G6 r9 rfl m6 k6 b6 .nil aL (aA (pv 3) (aA (pv 4) (aA (pv 4) aE)))) (aA (cW (aA aF (aA aF aE))) aE)))))))) (aG (aY jW)) bK)
  (aB (cD (bG (Ja hu) (fF (pv 3) NTx.cl mTo GTo r1 bTo .nil aL) (pv 2) (bL _)) (aG (aY jW)) bK)
  (aB (aT (i:=6) jA.nd rfl (Or.inl rfl) (aI G1 r1 rfl m1 k1 b1 .nil aL (aA (pv 0) (aA aF aE))))
  (aB (dW PassesOwn.never rfl (iC rfl mr (aA (cK bO rfl ml PySem.boot_len (aA (pv 2) aE)) aE)) (bF (i:=7) jA.nd rfl (Or.inl rfl))
   (aG (cD (bG mO (aX bA (aX bN (pv 2) (pv 7) (fun _ _=>rfl)) aF (fun _ _=>rfl)) cI (bL _)) (aB (pJ (aV Qi (fQ Uk (aX bN (pv 2) (pv 7) (fun _ _=>rfl)) iQ (fU aF)) (cW (aA (aI G9 r1 rfl m9 k9 b9 .nil aL (aA (aV iI (aI G5 r1 rfl m5 k5 b5 .nil aL (aA (aI G8 r1 rfl m8 k8 b8 .nil aL (aA (pv 6) (aA (pv 7) aE))) (aA aF (aA aF aE)))) aF) (aA aF aE))) aE))) (pA (pv 2) (pv 7) iY))
  (aG (bQ (wU (pv 3) NTx.cl mCh GCh r5 bCh .nil aL (aA (pv 7) (aA (aX bA (aX bN (pv 2) (pv 7) (fun _ _=>rfl)) aF (fun _ _=>rfl)) aE)))))) bK)))
  (aB (cD (PW.pt (kL (fM (dD (aI G4 hr rfl m4 k4 b4 .nil aL (aA (pv 3) (aA (pv 2) (aA (pv 1) (aA (pv 5) (aA (pv 4) aE)))))))) (jS (bG (Ja hu) (fF (pv 3) NTx.cl mTo GTo r1 bTo .nil aL) (pv 2) (bL _))))) (aG (aY jW)) bK)
  (aB (dW PassesOwn.never rfl (cY (pv 2)) (kX rfl (cJ (bF (i:=8) jA.nd rfl (Or.inl rfl)) (cJ (bF (i:=9) jA.nd rfl (Or.inl rfl)) (cJ (bF (i:=10) jA.nd rfl (Or.inl rfl)) (cJ (bF (i:=11) jA.nd rfl (Or.inl rfl)) iR)))))
   (aG (cD (bG eQ (pv 8) cI (bL _)) (aG (aY (aI G7 r1 rfl m7 k7 b7 .nil aL (aA (aI G6 r9 rfl m6 k6 b6 .nil aL (aA (pv 3) (aA (pv 9) (aA (pv 10) aE)))) (aA (cW (aA aF (aA aF aE))) aE))))) bK)))
  (aG (aY jW)))))))))))))),?_⟩
 refine⟨_,rfl,a,ns,0,0,rfl,rfl,hS,h63,fun v H1 s1=>⟨_,_,rfl,rfl,(show (0:Int) < 5 by decide),_,_,rfl,rfl,?_⟩⟩
 have f0:=Int.emod_nonneg v (show (5:Int)≠0 by decide)
 have f9:=Int.emod_lt_of_pos v (show (0:Int) < 5 by decide)
 obtain⟨M,hM⟩:∃M:Nat,1+v % 5=(M:Int):=⟨(1+v % 5).toNat,by omega⟩
 show iO _ _ _ [some (.ref a),some (.int (1+v % 5)),none,none,none,none,none,none,none,none,none,none] H1
 rw[hM]
 have M1:1≤M:=by omega
 have M5:M≤5:=by omega
 clear f0 f9 hM
 refine⟨_,rfl,_,rfl,by show 4≤sizeLine;decide,fun w hw=>?_⟩
 have s2:=aH hw (.lst [.str "piece",.str "hold",.str "piece",.str "piece"])
 have e2:upd H1 w (.lst [.str "piece",.str "hold",.str "piece",.str "piece"]) w=some (.lst [.str "piece",.str "hold",.str "piece",.str "piece"]):=aC
 generalize upd H1 w (.lst [.str "piece",.str "hold",.str "piece",.str "piece"])=H2 at s2 e2 ⊢
 refine⟨a,w,ns,M,8,[.pc,.ho,.pc,.pc],rfl,(s1.trans s2).seq hS,h63,M1,by omega,by omega,SqL.of e2,by decide,by decide,fun r0 us0 tt E H3 s3 nr er0 hR0 hg le=>?_⟩
 have s03:=s1.trans (s2.trans s3)
 have lE:(rwH E).length=E.length:=List.length_map ..
 have lu0:=hR0.length
 try dsimp only
 refine Kz (fun σ' H'=>bC H3 H'∧∃(r:Addr) (us:List V) (k:Nat),σ'=[some (.ref a),some (.int (M:Int)),some (.ref r),none,none,none,none,none,none,none,none,none]∧H' r=some (.lst us)∧Rts K H' us (rwH E++List.replicate k pu0)∧E.length+k≤40) (fun X hX=>?_) ?_
 ·refine⟨_,rfl,a,ns,1,1,rfl,rfl,s03.seq hS,h63,fun c H4 s4=>?_⟩
  refine⟨c,7,8,rfl,by decide,by decide,by decide,fun x H5 x0 x1 s5=>⟨rfl,_,rfl,oH (fun _=>?_) (fun _=>?_)⟩⟩
  ·refine⟨_,rfl,by show 2≤sizeLine;decide,fun z6 hz6=>?_⟩
   have s6:=aH hz6 (.tup [.int 0,.int 1])
   have e6:upd H5 z6 (.tup [.int 0,.int 1]) z6=some (.tup [.int 0,.int 1]):=aC
   generalize upd H5 z6 (.tup [.int 0,.int 1])=H6 at s6 e6 ⊢
   refine⟨by show 4≤sizeLine;decide,fun t7 ht7=>?_⟩
   have s7:=aH ht7 (.tup [.str "push",.int 0,.int 0,.ref z6])
   have e7:upd H6 t7 (.tup [.str "push",.int 0,.int 0,.ref z6]) t7=some (.tup [.str "push",.int 0,.int 0,.ref z6]):=aC
   generalize upd H6 t7 (.tup [.str "push",.int 0,.int 0,.ref z6])=H7 at s7 e7 ⊢
   refine⟨by show 1≤sizeLine;decide,fun l8 hl8=>?_⟩
   have s8:=aH hl8 (.lst [.ref t7])
   have e8:upd H7 l8 (.lst [.ref t7]) l8=some (.lst [.ref t7]):=aC
   generalize upd H7 l8 (.lst [.ref t7])=H8 at s8 e8 ⊢
   have s38:=s4.trans (s5.trans (s6.trans (s7.trans s8)))
   obtain⟨k,hk⟩:∃k:Nat,(40:Int) - (us0.length:Int)=(k:Int):=⟨40 - us0.length,by omega⟩
   have er8:=s38 _ _ er0
   refine⟨_,rfl,r0,us0,rfl,.inl (SqL.of er8),_,_,rfl,rfl,?_⟩
   refine⟨l8,(k:Int),_,rfl,congrArg V.int hk,e8,by omega,by omega,Nat.le_of_lt (bH (by rw[Int.toNat_natCast];simp only[List.length_cons,List.length_nil];omega)),fun p9 hp9=>?_⟩
   rw[Int.toNat_natCast]
   have s9:=aH hp9 (.lst (List.replicate k [V.ref t7]).flatten)
   have e9:upd H8 p9 (.lst (List.replicate k [V.ref t7]).flatten) p9=some (.lst (List.replicate k [V.ref t7]).flatten):=aC
   generalize upd H8 p9 (.lst (List.replicate k [V.ref t7]).flatten)=H9 at s9 e9 ⊢
   have RP:=Ea (K:=K) (SqT.of ((s8.trans s9) _ _ e7)) (Fq.of ((s7.trans (s8.trans s9)) _ _ e6)) k
   refine⟨r0,p9,us0,_,rfl,rfl,s9 _ _ er8,e9,Nat.le_of_lt (bH (by rw[Ft];simp only[List.length_cons,List.length_nil];omega)),fun r9 h9=>?_⟩
   have sA:=aH h9 (.lst (us0++(List.replicate k [V.ref t7]).flatten))
   exact hX _ _ ⟨s38.trans (s9.trans sA),r9,_,k,rfl,aC,((hR0.same (s38.trans s9)).app RP).same sA,by omega⟩
  ·exact hX _ _ ⟨s4.trans s5,r0,us0,0,rfl,(s4.trans s5) _ _ er0,by rw[List.replicate_zero,List.append_nil];exact hR0.same (s4.trans s5),by omega⟩
 rintro σ4 H4 ⟨s4,r,us,kk,rfl,er,hR,h40⟩
 have DK:=Hnk.dk hg M5 le kk h40
 clear hR0 er0 lu0 lE
 generalize rwH E++List.replicate kk pu0=ds at hR DK
 generalize LH E=L at DK
 clear hg le h40
 have lus:=hR.length
 have dlen:=DK.len
 refine⟨_,rfl,_,rfl,(M:Int),r,us,ds,rfl,by omega,by omega,SqL.of er,hR,(fun d hd=>(DK.ok d hd).1),DK.len,fun n l H5 s5 nl nt=>?_⟩
 have nlr:l≠r:=fun z=>by rw[z,er] at nl;cases nl
 have s05:=s03.trans (s4.trans s5)
 refine⟨_,rfl,a,ns,1,1,rfl,rfl,s05.seq hS,h63,fun c6 H6 s6=>⟨_,rfl,c6,3,(M:Int),rfl,by decide,by decide,by omega,fun x' H7 x0 x1 s7=>?_⟩⟩
 obtain⟨x,rfl⟩:∃x:Nat,x'=(x:Int):=⟨x'.toNat,by omega⟩
 have s57:=s6.trans s7
 refine⟨_,rfl,a,ns,1,1,rfl,rfl,(s05.trans s57).seq hS,h63,fun c8 H8 s8=>⟨_,rfl,c8,4,(M:Int),rfl,by decide,by decide,by omega,fun y' H9 y0 y1 s9=>?_⟩⟩
 obtain⟨y,rfl⟩:∃y:Nat,y'=(y:Int):=⟨y'.toNat,by omega⟩
 have s59:=s57.trans (s8.trans s9)
 have hx:x < M:=by omega
 have hy:y < M:=by omega
 refine⟨_,rfl,_,rfl,_,rfl,_,rfl,_,rfl,n,l,r,us,M,x,y,L,ds,rfl,nt.same s59,SqL.of ((s5.trans s59) _ _ er),hR.same (s5.trans s59),DK,hx,hy,fun HA sA=>⟨_,rfl,eV ?_⟩⟩
 have s5A:=s59.trans sA
 refine⟨_,rfl,_,rfl,_,rfl,n,l,M,371,_,L,ds,x,x,rfl,(DK.net (nt.same s5A)).1,hx,hx,fun f1 p1 v1 HB sB g1 l1 b1 SB1 ev1=>?_⟩
 have e0:p1=(0,1):=Mq.lH l1 Mb (by rw[ev1,Mq.mG];grind)
 subst e0
 refine⟨by show 2≤sizeLine;decide,fun tC htC=>?_⟩
 have sC:=aH htC (.tup [.int 0,.int 1])
 have eC:upd HB tC (.tup [.int 0,.int 1]) tC=some (.tup [.int 0,.int 1]):=aC
 generalize upd HB tC (.tup [.int 0,.int 1])=HC at sC eC ⊢
 refine⟨f1,tC,(0,1),rfl,sC.fq g1,Fq.of eC,_,rfl,eV ?_⟩
 have s5C:=s5A.trans (sB.trans sC)
 obtain⟨dn,hn⟩:=(nt.same s5C).ob
 refine⟨_,rfl,n,dn,_,rfl,hn,dX _ _ (by decide +kernel) (by decide +kernel),n,l,(M:Int),ds,rfl,nt.same s5C,fun t1 ts HD sD n1 e1 R1=>?_⟩
 have s5D:=s5C.trans sD
 have s4D:=s5.trans s5D
 refine⟨_,rfl,Kh (SqL.of e1) (SqL.of (s4D _ _ er)) R1 (hR.same s4D) ⟨_,rfl,eV ?_⟩⟩
 refine⟨_,rfl,a,ns,1,1,rfl,rfl,(s05.trans s5D).seq hS,h63,fun cell HE sE=>?_⟩
 have s4E:=s4D.trans sE
 have erE:=s4E _ _ er
 have hRE:=hR.same s4E
 have ntE:=nt.same (s5D.trans sE)
 try dsimp only
 refine Kz (fun σ' H'=>∃(us':List V) (es:List RD) (z7:Option V),σ'=[some (.ref a),some (.int (M:Int)),some (.ref r),some (.ref n),some (.int (x:Int)),some (.int (y:Int)),some (.int cell),z7,none,none,none,none]∧H' r=some (.lst us')∧Rts K H' us' es∧cX CN K H' n l (M:Int) es∧Chg ds es) (fun X hX=>?_) ?_
 ·refine⟨_,rfl,r,us,rfl,.inl (SqL.of erE),(us.length:Int),rfl,by omega,by omega,?_⟩
  refine gM (n:=(us.length:Int).toNat) (fun i σ H'=>∃(us':List V) (es:List RD) (z7:Option V),σ=[some (.ref a),some (.int (M:Int)),some (.ref r),some (.ref n),some (.int (x:Int)),some (.int (y:Int)),some (.int cell),z7,none,none,none,none]∧H' r=some (.lst us')∧Rts K H' us' es∧cX CN K H' n l (M:Int) es∧Chg ds es) ⟨us,ds,none,rfl,erE,hRE,ntE,Chg.refl ds⟩ ?_ ?_
  ·rintro i σ HF hi ⟨us',es,z7,rfl,er',hR',nt',ch⟩
   have les:ds.length=es.length:=by have:=congrArg List.length ch.sk;rwa [List.length_map,List.length_map] at this
   have lu':=hR'.length
   have hi:i < es.length:=by omega
   rw[Int.zero_add]
   obtain⟨⟨kd,u,v,sz⟩,hd⟩:∃d,es[i]?=some d:=⟨_,List.getElem?_eq_getElem hi⟩
   obtain⟨t,z,et,ht,fz⟩:=hR'.at hd
   have ea:atI us' (i:Int)=some (.ref t):=bZ et
   refine⟨_,rfl,_,rfl,r,us',_,_,rfl,rfl,SqL.of er',ea,t,_,_,_,rfl,rfl,ht,rfl,rfl,_,rfl,?_⟩
   by_cases hk:kd=.pc
   ·refine L2.ifF (by show (!decide (V.str kd.wd=V.str "piece"))=false;rw[Ey,decide_eq_true hk];rfl) ?_
    exact⟨us',es,_,rfl,er',hR',nt',ch⟩
   refine L2.ifT (by show (!decide (V.str kd.wd=V.str "piece"))=true;rw[Ey,decide_eq_false hk];rfl) ?_
   refine⟨_,rfl,_,rfl,r,us',_,_,rfl,rfl,SqL.of er',ea,3,rfl,t,_,rfl,ht,(by show ¬(_∧3=4);omega),fun A2 hA2=>?_⟩
   have sG:=aH hA2 (.tup [.str kd.wd,.int u,.int v])
   have eG:upd HF A2 (.tup [.str kd.wd,.int u,.int v]) A2=some (.tup [.str kd.wd,.int u,.int v]):=aC
   show Xg _ _ (upd HF A2 (.tup [.str kd.wd,.int u,.int v])) _
   generalize upd HF A2 (.tup [.str kd.wd,.int u,.int v])=HG at sG eG ⊢
   refine⟨_,rfl,_,rfl,cell,(i:Int),rfl,by omega,by omega,fun pc=>?_⟩
   refine⟨pc,5,41,rfl,by decide,by decide,by decide,fun y5 HH y50 y51 sH=>⟨_,_,rfl,rfl,?_⟩⟩
   have b0:(3:Int)≠0:=by decide
   have le:=Mq.kD (t:=y5 - 20) b0
   have bT:Mq.B 30 (y5 - 20):=mB (by omega) (by omega)
   have bB:Mq.B 30 3:=mB (by omega) (by omega)
   refine⟨y5 - 20,3,30,rfl,b0,bB,by omega,fun zN HI sI eI=>?_⟩
   have lp:=Mq.gU (t:=y5 - 20) b0
   have bp:Mq.Bd 30 (Mq.red (y5 - 20) 3):=⟨bT.le le.1,bB.le le.2⟩
   have fI:Fq K HI zN (Mq.red (y5 - 20) 3):=Fq.of eI
   generalize Mq.red (y5 - 20) 3=pN at lp bp fI
   refine⟨by show 1≤sizeLine;decide,fun oN hoN=>?_⟩
   have sJ:=aH hoN (.tup [.ref zN])
   have eJ:upd HI oN (.tup [.ref zN]) oN=some (.tup [.ref zN]):=aC
   generalize upd HI oN (.tup [.ref zN])=HJ at sJ eJ ⊢
   have sGJ:=sH.trans (sI.trans sJ)
   refine⟨A2,oN,_,_,rfl,rfl,SqT.of (sGJ _ _ eG),SqT.of eJ,(by simp),(by show 4≤sizeLine;decide),(fun z=>by cases z),fun _ A5 hA5=>?_⟩
   have sK:=aH hA5 (.tup ([.str kd.wd,.int u,.int v]++[.ref zN]))
   have eK:upd HJ A5 (.tup ([.str kd.wd,.int u,.int v]++[.ref zN])) A5=some (.tup ([.str kd.wd,.int u,.int v]++[.ref zN])):=aC
   generalize upd HJ A5 (.tup ([.str kd.wd,.int u,.int v]++[.ref zN]))=HK at sK eK ⊢
   have sFK:=sG.trans (sGJ.trans sK)
   have erK:=sFK _ _ er'
   have fK:=(sJ.trans sK).fq fI
   have ixk:ixN us'.length (i:Int)=some i:=lD (by omega)
   refine⟨_,rfl,_,rfl,r,us',_,i,rfl,rfl,erK,ixk,?_⟩
   have hR2:Rts K HK (us'.set i (.ref A5)) (es.set i (kd,u,v,pN)):=Rts.set (k:=kd) (SqT.of eK) fK i (hR'.same sFK)
   have hRL:=Rts.upd (o:=.lst (us'.set i (.ref A5))) erK hR2
   have fL:Fq K (upd HK r (.lst (us'.set i (.ref A5)))) zN pN:=SqT.upd fK erK
   have etL:SqT K (upd HK r (.lst (us'.set i (.ref A5)))) A5 [.str kd.wd,.int u,.int v,.ref zN]:=SqT.upd (SqT.of eK) erK
   have sx:cL r HK (upd HK r (.lst (us'.set i (.ref A5)))):=fun b o h nb=>by rw[aW nb];exact h
   have ntL:=(nt'.same sFK).x erK sx nlr
   have erL:upd HK r (.lst (us'.set i (.ref A5))) r=some (.lst (us'.set i (.ref A5))):=aC
   generalize upd HK r (.lst (us'.set i (.ref A5)))=HL at hRL fL etL sx ntL erL ⊢
   have eat:atI (us'.set i (.ref A5)) (i:Int)=some (.ref A5):=bZ (by rw[List.getElem?_set_self (by omega)])
   obtain⟨dn,hn⟩:=ntL.ob
   refine⟨_,rfl,n,dn,_,rfl,hn,dX _ _ (by decide +kernel) (by decide +kernel),_,rfl,_,rfl,_,rfl,r,_,_,_,rfl,rfl,SqL.of erL,eat,A5,_,_,_,rfl,rfl,etL,rfl,?_⟩
   obtain⟨ts,elL,_⟩:=ntL.ls
   refine⟨n,l,zN,(M:Int),(i:Int),es,kd,u,v,sz,pN,rfl,ntL,by omega,by rw[Int.toNat_natCast];exact hd,fL,lp,(fun z=>absurd z hk),bp.mono (by omega),fun HN sN ntN=>?_⟩
   rw[Int.toNat_natCast] at ntN
   exact⟨_,_,_,rfl,sN _ _ erL (Ne.symm nlr),cL.rts elL sN hRL,ntN,ch.set hd hk lp bp⟩
  ·rintro σ HF ⟨us',es,z7,rfl,er',hR',nt',ch⟩
   exact hX _ _ ⟨us',es,z7,rfl,er',hR',nt',ch⟩
 rintro σF HF ⟨us',es,z7,rfl,er',hR',nt',ch⟩
 have DK':=DK.chg ch
 have lu':=hR'.length
 refine⟨_,rfl,_,rfl,_,rfl,_,rfl,_,rfl,n,l,r,us',M,y,x,L,es,rfl,nt',SqL.of er',hR',DK',hy,hx,fun HG sG=>⟨_,rfl,eV ?_⟩⟩
 obtain⟨dn2,hn2⟩:=(nt'.same sG).ob
 refine⟨_,rfl,n,dn2,_,rfl,hn2,dX _ _ (by decide +kernel) (by decide +kernel),n,l,(M:Int),es,rfl,nt'.same sG,fun t2 ts2 HH sH n2 e2' R2=>?_⟩
 have sFH:=sG.trans sH
 refine⟨_,rfl,Kh (SqL.of e2') (SqL.of (sFH _ _ er')) R2 (hR'.same sFH) ⟨_,rfl,eV ?_⟩⟩
 refine⟨_,rfl,r,rfl,⟨_,SqL.of (sFH _ _ er')⟩,?_⟩
 refine fH (xs:=us') (fun i σ H'=>bC HF H'∧∃(z8 z9 z10 z11:Option V),σ=[some (.ref a),some (.int (M:Int)),some (.ref r),some (.ref n),some (.int (x:Int)),some (.int (y:Int)),some (.int cell),z7,z8,z9,z10,z11]) ⟨sFH,none,none,none,none,rfl⟩ (fun i σ H' _ h=>h.1.seq (SqL.of er')) ?_ ?_
 ·rintro i w2 σ HI hw ⟨sI,z8,z9,z10,z11,rfl⟩
  have hi:i < es.length:=by have:=(List.getElem?_eq_some_iff.mp hw).1;omega
  obtain⟨⟨kd,u,v,p⟩,hd⟩:∃d,es[i]?=some d:=⟨_,List.getElem?_eq_getElem hi⟩
  obtain⟨t,z,et,ht,fz⟩:=hR'.at hd
  have ew:w2=.ref t:=by rw[et] at hw;exact(Option.some.inj hw).symm
  subst ew
  have mem:=List.mem_of_getElem? hd
  obtain⟨i0,i1,j0,j1⟩:cQ (M:Int) u v:=DK'.o.pt _ mem
  obtain⟨uN,rfl⟩:∃uN:Nat,u=(uN:Int):=⟨u.toNat,by omega⟩
  obtain⟨vN,rfl⟩:∃vN:Nat,v=(vN:Int):=⟨v.toNat,by omega⟩
  refine⟨t,_,rfl,sI.seqT ht,rfl,_,_,rfl,_,_,rfl,_,_,rfl,_,_,rfl,rfl,?_⟩
  by_cases hk:kd=.ho
  rotate_left
  ·refine⟨_,rfl,rfl,_,rfl,L2.ifF (by show decide (V.str kd.wd=V.str "hold")=false;rw[vX];exact decide_eq_false hk) ?_⟩
   exact⟨sI,_,_,_,_,rfl⟩
  ·refine⟨_,rfl,rfl,_,rfl,L2.ifT (by show decide (V.str kd.wd=V.str "hold")=true;rw[vX];exact decide_eq_true hk) ?_⟩
   refine⟨_,rfl,_,rfl,_,rfl,n,l,M,371,_,L,es,uN,vN,rfl,(DK'.net (nt'.same sI)).1,by omega,by omega,fun f1 p1 v1 HJ sJ g1 l1 b1 SB1 ev1=>?_⟩
   have cn:Cn (bY .ho es) ((uN:Int)).toNat ((vN:Int)).toNat:=Cn.row (d:=(kd,(uN:Int),(vN:Int),p)) (List.mem_filter.mpr ⟨mem,decide_eq_true hk⟩) (by rw[hk];exact fun z=>by cases z)
   rw[Int.toNat_natCast,Int.toNat_natCast] at cn
   have e0:p1=(0,1):=Mq.lH l1 Mb (by rw[ev1,SB1.held DK'.o (by omega) (by omega) cn,Mq.mG];grind)
   subst e0
   refine⟨by show 2≤sizeLine;decide,fun tC htC=>?_⟩
   have sC:=aH htC (.tup [.int 0,.int 1])
   exact⟨f1,tC,(0,1),rfl,sC.fq g1,Fq.of aC,q _⟩
 ·rintro σ HI ⟨sI,z8,z9,z10,z11,rfl⟩
  exact q _
end
end K66
namespace L2
open PySem PySem.W
theorem Of {q:Program} {loose:List Str} {XP:(Str→Option Value)→Heap→Prop} {K:Params→PySem.W.Frag} {bs:List Addr} {n t:Nat} {r:RowW} {d:DefRec} {kwd:List (Str × Expr)} {run:Value→List Value→Sem Value}
  (e:∀P,bs=(K P).map (·.1)) (h:WalkO q loose XP (fun w h=>(K w.params).In h) r d kwd run):WalkX q loose XP (PySem.W.X.obsZ bs) (PySem.W.X.valZ K n t) r d kwd run:=
 fun w s₀ s₁ mg mb G y a o pm cd doc dV kV h1 h2 h3 h4 h5 h6 args vals as' L=>h w s₀ s₁ mg mb G (InK.keeps w _ _ (PySem.W.X.z_facts e y).2.1 L.keeps) a o pm cd doc dV kV h1 h2 h3 h4 h5 h6 args vals as'
end L2
namespace K66
open PySem L2
theorem cT {us:List Value} (h:us.length=1):∃a,us=[a]:=match us,h with | [a],_=>⟨a,rfl⟩
theorem cO {us:List Value} (h:us.length=2):∃a b,us=[a,b]:=match us,h with | [a,b],_=>⟨a,b,rfl⟩
theorem fP {us:List Value} (h:us.length=3):∃a b c,us=[a,b,c]:=match us,h with | [a,b,c],_=>⟨a,b,c,rfl⟩
theorem gS {us:List Value} (h:us.length=4):∃a b c d,us=[a,b,c,d]:=match us,h with | [a,b,c,d],_=>⟨a,b,c,d,rfl⟩
theorem Qz {us:List Value} (h:us.length=5):∃a b c d e,us=[a,b,c,d,e]:=match us,h with | [a,b,c,d,e],_=>⟨a,b,c,d,e,rfl⟩
theorem Ud {l:PySem.W.OpenLaw} {w:World} {K:PySem.W.Frag} {h:Heap} {mg:Str→Option Value} {fa:Addr} (X:K.In h) (G:h.Ns mainGlobals mg) (hfa:mg "law"=some (.ref fa))
  {c_Row:Addr}
  {c_Piece:Addr}
  {c_Push:Addr}
  {c_Hold:Addr}
  {c_Net:Addr}
  {c_Answer:Addr}
  {f1:Addr} {od1 an1:Option Addr} {sl1:Array (Option Value)} {oc1 kV1 dc1 pm1 cd1 ct1:Value}
  {f2:Addr} {od2 an2:Option Addr} {sl2:Array (Option Value)} {oc2 kV2 dc2 pm2 cd2 ct2:Value}
  {f3:Addr} {od3 an3:Option Addr} {sl3:Array (Option Value)} {oc3 kV3 dc3 pm3 cd3 ct3:Value}
  {f4:Addr} {od4 an4:Option Addr} {sl4:Array (Option Value)} {oc4 kV4 dc4 pm4 cd4 ct4:Value}
  {T4:Addr} {oT4:Value} {dT4:Option Addr} {nT4:Nat} {sT4:Array (Option Value)} {tk4:Tok}
  {f5:Addr} {od5 an5:Option Addr} {sl5:Array (Option Value)} {oc5 kV5 dc5 pm5 cd5 ct5:Value}
  {f6:Addr} {od6 an6:Option Addr} {sl6:Array (Option Value)} {oc6 kV6 dc6 pm6 cd6 ct6:Value}
  {f7:Addr} {od7 an7:Option Addr} {sl7:Array (Option Value)} {oc7 kV7 dc7 pm7 cd7 ct7:Value}
  {f8:Addr} {od8 an8:Option Addr} {sl8:Array (Option Value)} {oc8 kV8 dc8 pm8 cd8 ct8:Value}
  {f9:Addr} {od9 an9:Option Addr} {sl9:Array (Option Value)} {oc9 kV9 dc9 pm9 cd9 ct9:Value}
  {f10:Addr} {od10 an10:Option Addr} {sl10:Array (Option Value)} {oc10 kV10 dc10 pm10 cd10 ct10:Value}
  {f11:Addr} {od11 an11:Option Addr} {sl11:Array (Option Value)} {oc11 kV11 dc11 pm11 cd11 ct11:Value}
  {f12:Addr} {od12 an12:Option Addr} {sl12:Array (Option Value)} {oc12 kV12 dc12 pm12 cd12 ct12:Value}
  {f13:Addr} {od13 an13:Option Addr} {sl13:Array (Option Value)} {oc13 kV13 dc13 pm13 cd13 ct13:Value}
  {f14:Addr} {od14 an14:Option Addr} {sl14:Array (Option Value)} {oc14 kV14 dc14 pm14 cd14 ct14:Value}
  {f15:Addr} {od15 an15:Option Addr} {sl15:Array (Option Value)} {oc15 kV15 dc15 pm15 cd15 ct15:Value}
  {f16:Addr} {od16 an16:Option Addr} {sl16:Array (Option Value)} {oc16 kV16 dc16 pm16 cd16 ct16:Value}
  {f17:Addr} {od17 an17:Option Addr} {sl17:Array (Option Value)} {oc17 kV17 dc17 pm17 cd17 ct17:Value}
  {f18:Addr} {od18 an18:Option Addr} {sl18:Array (Option Value)} {oc18 kV18 dc18 pm18 cd18 ct18:Value}
  {f19:Addr} {od19 an19:Option Addr} {sl19:Array (Option Value)} {oc19 kV19 dc19 pm19 cd19 ct19:Value}
  {f20:Addr} {od20 an20:Option Addr} {sl20:Array (Option Value)} {oc20 kV20 dc20 pm20 cd20 ct20:Value}
  {f21:Addr} {od21 an21:Option Addr} {sl21:Array (Option Value)} {oc21 kV21 dc21 pm21 cd21 ct21:Value}
  {f22:Addr} {od22 an22:Option Addr} {sl22:Array (Option Value)} {oc22 kV22 dc22 pm22 cd22 ct22:Value}
  {f23:Addr} {od23 an23:Option Addr} {sl23:Array (Option Value)} {oc23 kV23 dc23 pm23 cd23 ct23:Value}
  {f24:Addr} {od24 an24:Option Addr} {sl24:Array (Option Value)} {oc24 kV24 dc24 pm24 cd24 ct24:Value}
  {f25:Addr} {od25 an25:Option Addr} {sl25:Array (Option Value)} {oc25 kV25 dc25 pm25 cd25 ct25:Value}
  {f26:Addr} {od26 an26:Option Addr} {sl26:Array (Option Value)} {oc26 kV26 dc26 pm26 cd26 ct26:Value}
  {f27:Addr} {od27 an27:Option Addr} {sl27:Array (Option Value)} {oc27 kV27 dc27 pm27 cd27 ct27:Value}
  {f28:Addr} {od28 an28:Option Addr} {sl28:Array (Option Value)} {oc28 kV28 dc28 pm28 cd28 ct28:Value}
  {f29:Addr} {od29 an29:Option Addr} {sl29:Array (Option Value)} {oc29 kV29 dc29 pm29 cd29 ct29:Value}
  {f30:Addr} {od30 an30:Option Addr} {sl30:Array (Option Value)} {oc30 kV30 dc30 pm30 cd30 ct30:Value}
  {f31:Addr} {od31 an31:Option Addr} {sl31:Array (Option Value)} {oc31 kV31 dc31 pm31 cd31 ct31:Value}
  {f32:Addr} {od32 an32:Option Addr} {sl32:Array (Option Value)} {oc32 kV32 dc32 pm32 cd32 ct32:Value}
  {f33:Addr} {od33 an33:Option Addr} {sl33:Array (Option Value)} {oc33 kV33 dc33 pm33 cd33 ct33:Value}
  {f34:Addr} {od34 an34:Option Addr} {sl34:Array (Option Value)} {oc34 kV34 dc34 pm34 cd34 ct34:Value}
  {f35:Addr} {od35 an35:Option Addr} {sl35:Array (Option Value)} {oc35 kV35 dc35 pm35 cd35 ct35:Value}
  {f36:Addr} {od36 an36:Option Addr} {sl36:Array (Option Value)} {oc36 kV36 dc36 pm36 cd36 ct36:Value}
  {f37:Addr} {od37 an37:Option Addr} {sl37:Array (Option Value)} {oc37 kV37 dc37 pm37 cd37 ct37:Value}
  {f38:Addr} {od38 an38:Option Addr} {sl38:Array (Option Value)} {oc38 kV38 dc38 pm38 cd38 ct38:Value}
  {T38:Addr} {oT38:Value} {dT38:Option Addr} {nT38:Nat} {sT38:Array (Option Value)}
  {f39:Addr} {od39 an39:Option Addr} {sl39:Array (Option Value)} {oc39 kV39 dc39 pm39 cd39 ct39:Value}
  {f40:Addr} {od40 an40:Option Addr} {sl40:Array (Option Value)} {oc40 kV40 dc40 pm40 cd40 ct40:Value}
  {f41:Addr} {od41 an41:Option Addr} {sl41:Array (Option Value)} {oc41 kV41 dc41 pm41 cd41 ct41:Value}
  {f42:Addr} {od42 an42:Option Addr} {sl42:Array (Option Value)} {oc42 kV42 dc42 pm42 cd42 ct42:Value}
  {f43:Addr} {od43 an43:Option Addr} {sl43:Array (Option Value)} {oc43 kV43 dc43 pm43 cd43 ct43:Value}
  {f44:Addr} {od44 an44:Option Addr} {sl44:Array (Option Value)} {oc44 kV44 dc44 pm44 cd44 ct44:Value}
  {f45:Addr} {od45 an45:Option Addr} {sl45:Array (Option Value)} {oc45 kV45 dc45 pm45 cd45 ct45:Value}
  {f46:Addr} {od46 an46:Option Addr} {sl46:Array (Option Value)} {oc46 kV46 dc46 pm46 cd46 ct46:Value}
  {f47:Addr} {od47 an47:Option Addr} {sl47:Array (Option Value)} {oc47 kV47 dc47 pm47 cd47 ct47:Value}
  {f48:Addr} {od48 an48:Option Addr} {sl48:Array (Option Value)} {oc48 kV48 dc48 pm48 cd48 ct48:Value}
  {f49:Addr} {od49 an49:Option Addr} {sl49:Array (Option Value)} {oc49 kV49 dc49 pm49 cd49 ct49:Value}
  {f50:Addr} {od50 an50:Option Addr} {sl50:Array (Option Value)} {oc50 kV50 dc50 pm50 cd50 ct50:Value}
  {f51:Addr} {od51 an51:Option Addr} {sl51:Array (Option Value)} {oc51 kV51 dc51 pm51 cd51 ct51:Value}
  {f52:Addr} {od52 an52:Option Addr} {sl52:Array (Option Value)} {oc52 kV52 dc52 pm52 cd52 ct52:Value}
  {f53:Addr} {od53 an53:Option Addr} {sl53:Array (Option Value)} {oc53 kV53 dc53 pm53 cd53 ct53:Value}
  {f54:Addr} {od54 an54:Option Addr} {sl54:Array (Option Value)} {oc54 kV54 dc54 pm54 cd54 ct54:Value}
  {f55:Addr} {od55 an55:Option Addr} {sl55:Array (Option Value)} {oc55 kV55 dc55 pm55 cd55 ct55:Value}
  {f56:Addr} {od56 an56:Option Addr} {sl56:Array (Option Value)} {oc56 kV56 dc56 pm56 cd56 ct56:Value}
  {f57:Addr} {od57 an57:Option Addr} {sl57:Array (Option Value)} {oc57 kV57 dc57 pm57 cd57 ct57:Value}
  {f58:Addr} {od58 an58:Option Addr} {sl58:Array (Option Value)} {oc58 kV58 dc58 pm58 cd58 ct58:Value}
  {f59:Addr} {od59 an59:Option Addr} {sl59:Array (Option Value)} {oc59 kV59 dc59 pm59 cd59 ct59:Value}
  {f60:Addr} {od60 an60:Option Addr} {sl60:Array (Option Value)} {oc60 kV60 dc60 pm60 cd60 ct60:Value}
  {f61:Addr} {od61 an61:Option Addr} {sl61:Array (Option Value)} {oc61 kV61 dc61 pm61 cd61 ct61:Value}
  {f62:Addr} {od62 an62:Option Addr} {sl62:Array (Option Value)} {oc62 kV62 dc62 pm62 cd62 ct62:Value}
  {f63:Addr} {od63 an63:Option Addr} {sl63:Array (Option Value)} {oc63 kV63 dc63 pm63 cd63 ct63:Value}
  {f64:Addr} {od64 an64:Option Addr} {sl64:Array (Option Value)} {oc64 kV64 dc64 pm64 cd64 ct64:Value}
  {f65:Addr} {od65 an65:Option Addr} {sl65:Array (Option Value)} {oc65 kV65 dc65 pm65 cd65 ct65:Value}
  {f66:Addr} {od66 an66:Option Addr} {sl66:Array (Option Value)} {oc66 kV66 dc66 pm66 cd66 ct66:Value}
  {f67:Addr} {od67 an67:Option Addr} {sl67:Array (Option Value)} {oc67 kV67 dc67 pm67 cd67 ct67:Value}
  {f68:Addr} {od68 an68:Option Addr} {sl68:Array (Option Value)} {oc68 kV68 dc68 pm68 cd68 ct68:Value}
  {f69:Addr} {od69 an69:Option Addr} {sl69:Array (Option Value)} {oc69 kV69 dc69 pm69 cd69 ct69:Value}
  {f70:Addr} {od70 an70:Option Addr} {sl70:Array (Option Value)} {oc70 kV70 dc70 pm70 cd70 ct70:Value}
  {f71:Addr} {od71 an71:Option Addr} {sl71:Array (Option Value)} {oc71 kV71 dc71 pm71 cd71 ct71:Value}
  {aO:Addr} {dO:Option Addr} {nO:Nat} {sO:Array (Option Value)} {t2 t3:Tok}
  {aN:Addr} {dN:Option Addr} {nN:Nat} {sN:Array (Option Value)} {t0 t1:Tok}
  {aJ:Addr} {dJ:Option Addr} {nJ:Nat} {sJ:Array (Option Value)} {tj0 tj1:Tok}
  {tM:Tok}
  {tR:Tok}
  (y_Row:PySem.W.nsIn K mainGlobals "Row"=some (some (.ref c_Row)))
  (y_Piece:PySem.W.nsIn K mainGlobals "Piece"=some (some (.ref c_Piece)))
  (y_Push:PySem.W.nsIn K mainGlobals "Push"=some (some (.ref c_Push)))
  (y_Hold:PySem.W.nsIn K mainGlobals "Hold"=some (some (.ref c_Hold)))
  (y_Net:PySem.W.nsIn K mainGlobals "Net"=some (some (.ref c_Net)))
  (y_Answer:PySem.W.nsIn K mainGlobals "Answer"=some (some (.ref c_Answer)))
  (a1:PySem.W.nsIn K mainGlobals "is_whole"=some (some (.ref f1)))
  (l1:K.lookup f1=some ⟨oc1,od1,.func (PySem.W.fnOf "is_whole" "is_whole" (aQ qA) (aM qA) (aD qA) .none kV1 dc1 pm1 an1 cd1 ct1),sl1⟩) (c1:PySem.W.codeIn K cd1 "is_whole"=true) (k1:PySem.W.keepIn K (.ref f1)=true)
  (a2:PySem.W.nsIn K mainGlobals "greatest_common"=some (some (.ref f2)))
  (l2:K.lookup f2=some ⟨oc2,od2,.func (PySem.W.fnOf "greatest_common" "greatest_common" (aQ sGc) (aM sGc) (aD sGc) .none kV2 dc2 pm2 an2 cd2 ct2),sl2⟩) (c2:PySem.W.codeIn K cd2 "greatest_common"=true) (k2:PySem.W.keepIn K (.ref f2)=true)
  (a3:PySem.W.nsIn K mainGlobals "under"=some (some (.ref f3)))
  (l3:K.lookup f3=some ⟨oc3,od3,.func (PySem.W.fnOf "under" "under" (aQ qC) (aM qC) (aD qC) .none kV3 dc3 pm3 an3 cd3 ct3),sl3⟩) (c3:PySem.W.codeIn K cd3 "under"=true) (k3:PySem.W.keepIn K (.ref f3)=true)
  (a4:PySem.W.nsIn K mainGlobals "fraction"=some (some (.ref f4)))
  (l4:K.lookup f4=some ⟨oc4,od4,.func (PySem.W.fnOf "fraction" "fraction" (aQ jX) (aM jX) (aD jX) (.ref T4) kV4 dc4 pm4 an4 cd4 ct4),sl4⟩) (c4:PySem.W.codeIn K cd4 "fraction"=true) (k4:PySem.W.keepIn K (.ref f4)=true)
  (lt4:K.lookup T4=some ⟨oT4,dT4,.seq #[.int 1 tk4] nT4,sT4⟩)
  (a5:PySem.W.nsIn K mainGlobals "minus"=some (some (.ref f5)))
  (l5:K.lookup f5=some ⟨oc5,od5,.func (PySem.W.fnOf "minus" "minus" (aQ pF) (aM pF) (aD pF) .none kV5 dc5 pm5 an5 cd5 ct5),sl5⟩) (c5:PySem.W.codeIn K cd5 "minus"=true) (k5:PySem.W.keepIn K (.ref f5)=true)
  (a6:PySem.W.nsIn K mainGlobals "plus"=some (some (.ref f6)))
  (l6:K.lookup f6=some ⟨oc6,od6,.func (PySem.W.fnOf "plus" "plus" (aQ wR) (aM wR) (aD wR) .none kV6 dc6 pm6 an6 cd6 ct6),sl6⟩) (c6:PySem.W.codeIn K cd6 "plus"=true) (k6:PySem.W.keepIn K (.ref f6)=true)
  (a7:PySem.W.nsIn K mainGlobals "over"=some (some (.ref f7)))
  (l7:K.lookup f7=some ⟨oc7,od7,.func (PySem.W.fnOf "over" "over" (aQ wP) (aM wP) (aD wP) .none kV7 dc7 pm7 an7 cd7 ct7),sl7⟩) (c7:PySem.W.codeIn K cd7 "over"=true) (k7:PySem.W.keepIn K (.ref f7)=true)
  (a8:PySem.W.nsIn K mainGlobals "is_fraction"=some (some (.ref f8)))
  (l8:K.lookup f8=some ⟨oc8,od8,.func (PySem.W.fnOf "is_fraction" "is_fraction" (aQ Gm) (aM Gm) (aD Gm) .none kV8 dc8 pm8 an8 cd8 ct8),sl8⟩) (c8:PySem.W.codeIn K cd8 "is_fraction"=true) (k8:PySem.W.keepIn K (.ref f8)=true)
  (a9_0:PySem.W.findIn K (.ref c_Piece) "__init__"=some (some (.ref f9)))
  (a9_1:PySem.W.findIn K (.ref c_Push) "__init__"=some (some (.ref f9)))
  (a9_2:PySem.W.findIn K (.ref c_Hold) "__init__"=some (some (.ref f9)))
  (i9:PySem.W.isFn K (.ref f9)=true)
  (l9:K.lookup f9=some ⟨oc9,od9,.func (PySem.W.fnOf "__init__" "Row.__init__" (aQ pB) (aM pB) (aD pB) .none kV9 dc9 pm9 an9 cd9 ct9),sl9⟩) (c9:PySem.W.codeIn K cd9 "Row.__init__"=true) (k9:PySem.W.keepIn K (.ref f9)=true)
  (a10_0:PySem.W.findIn K (.ref c_Piece) "word"=some (some (.ref f10)))
  (i10:PySem.W.isFn K (.ref f10)=true)
  (l10:K.lookup f10=some ⟨oc10,od10,.func (PySem.W.fnOf "word" "Piece.word" (aQ jF) (aM jF) (aD jF) .none kV10 dc10 pm10 an10 cd10 ct10),sl10⟩) (c10:PySem.W.codeIn K cd10 "Piece.word"=true) (k10:PySem.W.keepIn K (.ref f10)=true)
  (a11_0:PySem.W.findIn K (.ref c_Push) "word"=some (some (.ref f11)))
  (i11:PySem.W.isFn K (.ref f11)=true)
  (l11:K.lookup f11=some ⟨oc11,od11,.func (PySem.W.fnOf "word" "Push.word" (aQ jG) (aM jG) (aD jG) .none kV11 dc11 pm11 an11 cd11 ct11),sl11⟩) (c11:PySem.W.codeIn K cd11 "Push.word"=true) (k11:PySem.W.keepIn K (.ref f11)=true)
  (a12_0:PySem.W.findIn K (.ref c_Hold) "word"=some (some (.ref f12)))
  (i12:PySem.W.isFn K (.ref f12)=true)
  (l12:K.lookup f12=some ⟨oc12,od12,.func (PySem.W.fnOf "word" "Hold.word" (aQ iX) (aM iX) (aD iX) .none kV12 dc12 pm12 an12 cd12 ct12),sl12⟩) (c12:PySem.W.codeIn K cd12 "Hold.word"=true) (k12:PySem.W.keepIn K (.ref f12)=true)
  (a13_0:PySem.W.findIn K (.ref c_Piece) "joins"=some (some (.ref f13)))
  (i13:PySem.W.isFn K (.ref f13)=true)
  (l13:K.lookup f13=some ⟨oc13,od13,.func (PySem.W.fnOf "joins" "Piece.joins" (aQ iB) (aM iB) (aD iB) .none kV13 dc13 pm13 an13 cd13 ct13),sl13⟩) (c13:PySem.W.codeIn K cd13 "Piece.joins"=true) (k13:PySem.W.keepIn K (.ref f13)=true)
  (a14_0:PySem.W.findIn K (.ref c_Push) "joins"=some (some (.ref f14)))
  (i14:PySem.W.isFn K (.ref f14)=true)
  (l14:K.lookup f14=some ⟨oc14,od14,.func (PySem.W.fnOf "joins" "Push.joins" (aQ iE) (aM iE) (aD iE) .none kV14 dc14 pm14 an14 cd14 ct14),sl14⟩) (c14:PySem.W.codeIn K cd14 "Push.joins"=true) (k14:PySem.W.keepIn K (.ref f14)=true)
  (a15_0:PySem.W.findIn K (.ref c_Hold) "joins"=some (some (.ref f15)))
  (i15:PySem.W.isFn K (.ref f15)=true)
  (l15:K.lookup f15=some ⟨oc15,od15,.func (PySem.W.fnOf "joins" "Hold.joins" (aQ iD) (aM iD) (aD iD) .none kV15 dc15 pm15 an15 cd15 ct15),sl15⟩) (c15:PySem.W.codeIn K cd15 "Hold.joins"=true) (k15:PySem.W.keepIn K (.ref f15)=true)
  (a16_0:PySem.W.findIn K (.ref c_Piece) "told"=some (some (.ref f16)))
  (a16_1:PySem.W.findIn K (.ref c_Push) "told"=some (some (.ref f16)))
  (a16_2:PySem.W.findIn K (.ref c_Hold) "told"=some (some (.ref f16)))
  (i16:PySem.W.isFn K (.ref f16)=true)
  (l16:K.lookup f16=some ⟨oc16,od16,.func (PySem.W.fnOf "told" "Row.told" (aQ pX) (aM pX) (aD pX) .none kV16 dc16 pm16 an16 cd16 ct16),sl16⟩) (c16:PySem.W.codeIn K cd16 "Row.told"=true) (k16:PySem.W.keepIn K (.ref f16)=true)
  (a17:PySem.W.nsIn K mainGlobals "row_of"=some (some (.ref f17)))
  (l17:K.lookup f17=some ⟨oc17,od17,.func (PySem.W.fnOf "row_of" "row_of" (aQ pU) (aM pU) (aD pU) .none kV17 dc17 pm17 an17 cd17 ct17),sl17⟩) (c17:PySem.W.codeIn K cd17 "row_of"=true) (k17:PySem.W.keepIn K (.ref f17)=true)
  (a18_0:PySem.W.findIn K (.ref c_Piece) "stream"=some (some (.ref f18)))
  (i18:PySem.W.isFn K (.ref f18)=true)
  (l18:K.lookup f18=some ⟨oc18,od18,.func (PySem.W.fnOf "stream" "Piece.stream" (aQ gO) (aM gO) (aD gO) .none kV18 dc18 pm18 an18 cd18 ct18),sl18⟩) (c18:PySem.W.codeIn K cd18 "Piece.stream"=true) (k18:PySem.W.keepIn K (.ref f18)=true)
  (a19_0:PySem.W.findIn K (.ref c_Push) "stream"=some (some (.ref f19)))
  (i19:PySem.W.isFn K (.ref f19)=true)
  (l19:K.lookup f19=some ⟨oc19,od19,.func (PySem.W.fnOf "stream" "Push.stream" (aQ gK) (aM gK) (aD gK) .none kV19 dc19 pm19 an19 cd19 ct19),sl19⟩) (c19:PySem.W.codeIn K cd19 "Push.stream"=true) (k19:PySem.W.keepIn K (.ref f19)=true)
  (a20_0:PySem.W.findIn K (.ref c_Hold) "stream"=some (some (.ref f20)))
  (i20:PySem.W.isFn K (.ref f20)=true)
  (l20:K.lookup f20=some ⟨oc20,od20,.func (PySem.W.fnOf "stream" "Hold.stream" (aQ gP) (aM gP) (aD gP) .none kV20 dc20 pm20 an20 cd20 ct20),sl20⟩) (c20:PySem.W.codeIn K cd20 "Hold.stream"=true) (k20:PySem.W.keepIn K (.ref f20)=true)
  (a21:PySem.W.nsIn K mainGlobals "is_piece_size"=some (some (.ref f21)))
  (l21:K.lookup f21=some ⟨oc21,od21,.func (PySem.W.fnOf "is_piece_size" "is_piece_size" (aQ sPS) (aM sPS) (aD sPS) .none kV21 dc21 pm21 an21 cd21 ct21),sl21⟩) (c21:PySem.W.codeIn K cd21 "is_piece_size"=true) (k21:PySem.W.keepIn K (.ref f21)=true)
  (a22:PySem.W.nsIn K mainGlobals "is_number_below"=some (some (.ref f22)))
  (l22:K.lookup f22=some ⟨oc22,od22,.func (PySem.W.fnOf "is_number_below" "is_number_below" (aQ sNB) (aM sNB) (aD sNB) .none kV22 dc22 pm22 an22 cd22 ct22),sl22⟩) (c22:PySem.W.codeIn K cd22 "is_number_below"=true) (k22:PySem.W.keepIn K (.ref f22)=true)
  (a23:PySem.W.nsIn K mainGlobals "refuse_size"=some (some (.ref f23)))
  (l23:K.lookup f23=some ⟨oc23,od23,.func (PySem.W.fnOf "refuse_size" "refuse_size" (aQ sRS) (aM sRS) (aD sRS) .none kV23 dc23 pm23 an23 cd23 ct23),sl23⟩) (c23:PySem.W.codeIn K cd23 "refuse_size"=true) (k23:PySem.W.keepIn K (.ref f23)=true)
  (a24:PySem.W.nsIn K mainGlobals "refuse_points"=some (some (.ref f24)))
  (l24:K.lookup f24=some ⟨oc24,od24,.func (PySem.W.fnOf "refuse_points" "refuse_points" (aQ sRP) (aM sRP) (aD sRP) .none kV24 dc24 pm24 an24 cd24 ct24),sl24⟩) (c24:PySem.W.codeIn K cd24 "refuse_points"=true) (k24:PySem.W.keepIn K (.ref f24)=true)
  (a25:PySem.W.nsIn K mainGlobals "refuse_number"=some (some (.ref f25)))
  (l25:K.lookup f25=some ⟨oc25,od25,.func (PySem.W.fnOf "refuse_number" "refuse_number" (aQ sRN) (aM sRN) (aD sRN) .none kV25 dc25 pm25 an25 cd25 ct25),sl25⟩) (c25:PySem.W.codeIn K cd25 "refuse_number"=true) (k25:PySem.W.keepIn K (.ref f25)=true)
  (a26_0:PySem.W.findIn K (.ref c_Net) "__init__"=some (some (.ref f26)))
  (i26:PySem.W.isFn K (.ref f26)=true)
  (l26:K.lookup f26=some ⟨oc26,od26,.func (PySem.W.fnOf "__init__" "Net.__init__" (aQ oZ) (aM oZ) (aD oZ) .none kV26 dc26 pm26 an26 cd26 ct26),sl26⟩) (c26:PySem.W.codeIn K cd26 "Net.__init__"=true) (k26:PySem.W.keepIn K (.ref f26)=true)
  (a27_0:PySem.W.findIn K (.ref c_Net) "many"=some (some (.ref f27)))
  (i27:PySem.W.isFn K (.ref f27)=true)
  (l27:K.lookup f27=some ⟨oc27,od27,.func (PySem.W.fnOf "many" "Net.many" (aQ vB) (aM vB) (aD vB) .none kV27 dc27 pm27 an27 cd27 ct27),sl27⟩) (c27:PySem.W.codeIn K cd27 "Net.many"=true) (k27:PySem.W.keepIn K (.ref f27)=true)
  (a28_0:PySem.W.findIn K (.ref c_Net) "told"=some (some (.ref f28)))
  (i28:PySem.W.isFn K (.ref f28)=true)
  (l28:K.lookup f28=some ⟨oc28,od28,.func (PySem.W.fnOf "told" "Net.told" (aQ pK) (aM pK) (aD pK) .none kV28 dc28 pm28 an28 cd28 ct28),sl28⟩) (c28:PySem.W.codeIn K cd28 "Net.told"=true) (k28:PySem.W.keepIn K (.ref f28)=true)
  (a29_0:PySem.W.findIn K (.ref c_Net) "add"=some (some (.ref f29)))
  (i29:PySem.W.isFn K (.ref f29)=true)
  (l29:K.lookup f29=some ⟨oc29,od29,.func (PySem.W.fnOf "add" "Net.add" (aQ Gv) (aM Gv) (aD Gv) .none kV29 dc29 pm29 an29 cd29 ct29),sl29⟩) (c29:PySem.W.codeIn K cd29 "Net.add"=true) (k29:PySem.W.keepIn K (.ref f29)=true)
  (a30_0:PySem.W.findIn K (.ref c_Net) "change"=some (some (.ref f30)))
  (i30:PySem.W.isFn K (.ref f30)=true)
  (l30:K.lookup f30=some ⟨oc30,od30,.func (PySem.W.fnOf "change" "Net.change" (aQ lV) (aM lV) (aD lV) .none kV30 dc30 pm30 an30 cd30 ct30),sl30⟩) (c30:PySem.W.codeIn K cd30 "Net.change"=true) (k30:PySem.W.keepIn K (.ref f30)=true)
  (a31_0:PySem.W.findIn K (.ref c_Net) "rows"=some (some (.ref f31)))
  (i31:PySem.W.isFn K (.ref f31)=true)
  (l31:K.lookup f31=some ⟨oc31,od31,.func (PySem.W.fnOf "rows" "Net.rows" (aQ uU) (aM uU) (aD uU) .none kV31 dc31 pm31 an31 cd31 ct31),sl31⟩) (c31:PySem.W.codeIn K cd31 "Net.rows"=true) (k31:PySem.W.keepIn K (.ref f31)=true)
  (a32:PySem.W.nsIn K mainGlobals "fall_of"=some (some (.ref f32)))
  (l32:K.lookup f32=some ⟨oc32,od32,.func (PySem.W.fnOf "fall_of" "fall_of" (aQ vJ) (aM vJ) (aD vJ) .none kV32 dc32 pm32 an32 cd32 ct32),sl32⟩) (c32:PySem.W.codeIn K cd32 "fall_of"=true) (k32:PySem.W.keepIn K (.ref f32)=true)
  (a33:PySem.W.nsIn K mainGlobals "joined"=some (some (.ref f33)))
  (l33:K.lookup f33=some ⟨oc33,od33,.func (PySem.W.fnOf "joined" "joined" (aQ lW) (aM lW) (aD lW) .none kV33 dc33 pm33 an33 cd33 ct33),sl33⟩) (c33:PySem.W.codeIn K cd33 "joined"=true) (k33:PySem.W.keepIn K (.ref f33)=true)
  (a34:PySem.W.nsIn K mainGlobals "marks_of"=some (some (.ref f34)))
  (l34:K.lookup f34=some ⟨oc34,od34,.func (PySem.W.fnOf "marks_of" "marks_of" (aQ qD) (aM qD) (aD qD) .none kV34 dc34 pm34 an34 cd34 ct34),sl34⟩) (c34:PySem.W.codeIn K cd34 "marks_of"=true) (k34:PySem.W.keepIn K (.ref f34)=true)
  (a35:PySem.W.nsIn K mainGlobals "floating"=some (some (.ref f35)))
  (l35:K.lookup f35=some ⟨oc35,od35,.func (PySem.W.fnOf "floating" "floating" (aQ pI) (aM pI) (aD pI) .none kV35 dc35 pm35 an35 cd35 ct35),sl35⟩) (c35:PySem.W.codeIn K cd35 "floating"=true) (k35:PySem.W.keepIn K (.ref f35)=true)
  (a36:PySem.W.nsIn K mainGlobals "steps_from"=some (some (.ref f36)))
  (l36:K.lookup f36=some ⟨oc36,od36,.func (PySem.W.fnOf "steps_from" "steps_from" (aQ qH) (aM qH) (aD qH) .none kV36 dc36 pm36 an36 cd36 ct36),sl36⟩) (c36:PySem.W.codeIn K cd36 "steps_from"=true) (k36:PySem.W.keepIn K (.ref f36)=true)
  (a37:PySem.W.nsIn K mainGlobals "way_along"=some (some (.ref f37)))
  (l37:K.lookup f37=some ⟨oc37,od37,.func (PySem.W.fnOf "way_along" "way_along" (aQ Ir) (aM Ir) (aD Ir) .none kV37 dc37 pm37 an37 cd37 ct37),sl37⟩) (c37:PySem.W.codeIn K cd37 "way_along"=true) (k37:PySem.W.keepIn K (.ref f37)=true)
  (a38:PySem.W.nsIn K mainGlobals "rings"=some (some (.ref f38)))
  (l38:K.lookup f38=some ⟨oc38,od38,.func (PySem.W.fnOf "rings" "rings" (aQ gY) (aM gY) (aD gY) (.ref T38) kV38 dc38 pm38 an38 cd38 ct38),sl38⟩) (c38:PySem.W.codeIn K cd38 "rings"=true) (k38:PySem.W.keepIn K (.ref f38)=true)
  (lt38:K.lookup T38=some ⟨oT38,dT38,.seq #[.none] nT38,sT38⟩)
  (a39:PySem.W.nsIn K mainGlobals "raise_at"=some (some (.ref f39)))
  (l39:K.lookup f39=some ⟨oc39,od39,.func (PySem.W.fnOf "raise_at" "raise_at" (aQ pZ) (aM pZ) (aD pZ) .none kV39 dc39 pm39 an39 cd39 ct39),sl39⟩) (c39:PySem.W.codeIn K cd39 "raise_at"=true) (k39:PySem.W.keepIn K (.ref f39)=true)
  (a40:PySem.W.nsIn K mainGlobals "enter_stream"=some (some (.ref f40)))
  (l40:K.lookup f40=some ⟨oc40,od40,.func (PySem.W.fnOf "enter_stream" "enter_stream" (aQ pS) (aM pS) (aD pS) .none kV40 dc40 pm40 an40 cd40 ct40),sl40⟩) (c40:PySem.W.codeIn K cd40 "enter_stream"=true) (k40:PySem.W.keepIn K (.ref f40)=true)
  (a41:PySem.W.nsIn K mainGlobals "enter_piece"=some (some (.ref f41)))
  (l41:K.lookup f41=some ⟨oc41,od41,.func (PySem.W.fnOf "enter_piece" "enter_piece" (aQ lZ) (aM lZ) (aD lZ) .none kV41 dc41 pm41 an41 cd41 ct41),sl41⟩) (c41:PySem.W.codeIn K cd41 "enter_piece"=true) (k41:PySem.W.keepIn K (.ref f41)=true)
  (a42:PySem.W.nsIn K mainGlobals "enter_push"=some (some (.ref f42)))
  (l42:K.lookup f42=some ⟨oc42,od42,.func (PySem.W.fnOf "enter_push" "enter_push" (aQ lM) (aM lM) (aD lM) .none kV42 dc42 pm42 an42 cd42 ct42),sl42⟩) (c42:PySem.W.codeIn K cd42 "enter_push"=true) (k42:PySem.W.keepIn K (.ref f42)=true)
  (a43:PySem.W.nsIn K mainGlobals "enter_hold"=some (some (.ref f43)))
  (l43:K.lookup f43=some ⟨oc43,od43,.func (PySem.W.fnOf "enter_hold" "enter_hold" (aQ lT) (aM lT) (aD lT) .none kV43 dc43 pm43 an43 cd43 ct43),sl43⟩) (c43:PySem.W.codeIn K cd43 "enter_hold"=true) (k43:PySem.W.keepIn K (.ref f43)=true)
  (a44:PySem.W.nsIn K mainGlobals "equations"=some (some (.ref f44)))
  (l44:K.lookup f44=some ⟨oc44,od44,.func (PySem.W.fnOf "equations" "equations" (aQ Gw) (aM Gw) (aD Gw) .none kV44 dc44 pm44 an44 cd44 ct44),sl44⟩) (c44:PySem.W.codeIn K cd44 "equations"=true) (k44:PySem.W.keepIn K (.ref f44)=true)
  (a45:PySem.W.nsIn K mainGlobals "in_wholes"=some (some (.ref f45)))
  (l45:K.lookup f45=some ⟨oc45,od45,.func (PySem.W.fnOf "in_wholes" "in_wholes" (aQ sIW) (aM sIW) (aD sIW) .none kV45 dc45 pm45 an45 cd45 ct45),sl45⟩) (c45:PySem.W.codeIn K cd45 "in_wholes"=true) (k45:PySem.W.keepIn K (.ref f45)=true)
  (a46:PySem.W.nsIn K mainGlobals "pivot_place"=some (some (.ref f46)))
  (l46:K.lookup f46=some ⟨oc46,od46,.func (PySem.W.fnOf "pivot_place" "pivot_place" (aQ Io) (aM Io) (aD Io) .none kV46 dc46 pm46 an46 cd46 ct46),sl46⟩) (c46:PySem.W.codeIn K cd46 "pivot_place"=true) (k46:PySem.W.keepIn K (.ref f46)=true)
  (a47:PySem.W.nsIn K mainGlobals "cleared"=some (some (.ref f47)))
  (l47:K.lookup f47=some ⟨oc47,od47,.func (PySem.W.fnOf "cleared" "cleared" (aQ Hc) (aM Hc) (aD Hc) .none kV47 dc47 pm47 an47 cd47 ct47),sl47⟩) (c47:PySem.W.codeIn K cd47 "cleared"=true) (k47:PySem.W.keepIn K (.ref f47)=true)
  (a48:PySem.W.nsIn K mainGlobals "cleared_rows"=some (some (.ref f48)))
  (l48:K.lookup f48=some ⟨oc48,od48,.func (PySem.W.fnOf "cleared_rows" "cleared_rows" (aQ iW) (aM iW) (aD iW) .none kV48 dc48 pm48 an48 cd48 ct48),sl48⟩) (c48:PySem.W.codeIn K cd48 "cleared_rows"=true) (k48:PySem.W.keepIn K (.ref f48)=true)
  (a49:PySem.W.nsIn K mainGlobals "eliminated"=some (some (.ref f49)))
  (l49:K.lookup f49=some ⟨oc49,od49,.func (PySem.W.fnOf "eliminated" "eliminated" (aQ vO) (aM vO) (aD vO) .none kV49 dc49 pm49 an49 cd49 ct49),sl49⟩) (c49:PySem.W.codeIn K cd49 "eliminated"=true) (k49:PySem.W.keepIn K (.ref f49)=true)
  (a50:PySem.W.nsIn K mainGlobals "solved"=some (some (.ref f50)))
  (l50:K.lookup f50=some ⟨oc50,od50,.func (PySem.W.fnOf "solved" "solved" (aQ lL) (aM lL) (aD lL) .none kV50 dc50 pm50 an50 cd50 ct50),sl50⟩) (c50:PySem.W.codeIn K cd50 "solved"=true) (k50:PySem.W.keepIn K (.ref f50)=true)
  (a51:PySem.W.nsIn K mainGlobals "refuse_unanswered"=some (some (.ref f51)))
  (l51:K.lookup f51=some ⟨oc51,od51,.func (PySem.W.fnOf "refuse_unanswered" "refuse_unanswered" (aQ Gr) (aM Gr) (aD Gr) .none kV51 dc51 pm51 an51 cd51 ct51),sl51⟩) (c51:PySem.W.codeIn K cd51 "refuse_unanswered"=true) (k51:PySem.W.keepIn K (.ref f51)=true)
  (a52:PySem.W.nsIn K mainGlobals "flows_of"=some (some (.ref f52)))
  (l52:K.lookup f52=some ⟨oc52,od52,.func (PySem.W.fnOf "flows_of" "flows_of" (aQ pH) (aM pH) (aD pH) .none kV52 dc52 pm52 an52 cd52 ct52),sl52⟩) (c52:PySem.W.codeIn K cd52 "flows_of"=true) (k52:PySem.W.keepIn K (.ref f52)=true)
  (a53_0:PySem.W.findIn K (.ref c_Answer) "__init__"=some (some (.ref f53)))
  (i53:PySem.W.isFn K (.ref f53)=true)
  (l53:K.lookup f53=some ⟨oc53,od53,.func (PySem.W.fnOf "__init__" "Answer.__init__" (aQ oS) (aM oS) (aD oS) .none kV53 dc53 pm53 an53 cd53 ct53),sl53⟩) (c53:PySem.W.codeIn K cd53 "Answer.__init__"=true) (k53:PySem.W.keepIn K (.ref f53)=true)
  (a54_0:PySem.W.findIn K (.ref c_Answer) "fall"=some (some (.ref f54)))
  (i54:PySem.W.isFn K (.ref f54)=true)
  (l54:K.lookup f54=some ⟨oc54,od54,.func (PySem.W.fnOf "fall" "Answer.fall" (aQ pV) (aM pV) (aD pV) .none kV54 dc54 pm54 an54 cd54 ct54),sl54⟩) (c54:PySem.W.codeIn K cd54 "Answer.fall"=true) (k54:PySem.W.keepIn K (.ref f54)=true)
  (a55:PySem.W.nsIn K mainGlobals "heights_by"=some (some (.ref f55)))
  (l55:K.lookup f55=some ⟨oc55,od55,.func (PySem.W.fnOf "heights_by" "heights_by" (aQ Hq) (aM Hq) (aD Hq) .none kV55 dc55 pm55 an55 cd55 ct55),sl55⟩) (c55:PySem.W.codeIn K cd55 "heights_by"=true) (k55:PySem.W.keepIn K (.ref f55)=true)
  (a56:PySem.W.nsIn K mainGlobals "pushed_heights"=some (some (.ref f56)))
  (l56:K.lookup f56=some ⟨oc56,od56,.func (PySem.W.fnOf "pushed_heights" "pushed_heights" (aQ Ij) (aM Ij) (aD Ij) .none kV56 dc56 pm56 an56 cd56 ct56),sl56⟩) (c56:PySem.W.codeIn K cd56 "pushed_heights"=true) (k56:PySem.W.keepIn K (.ref f56)=true)
  (a57:PySem.W.nsIn K mainGlobals "between"=some (some (.ref f57)))
  (l57:K.lookup f57=some ⟨oc57,od57,.func (PySem.W.fnOf "between" "between" (aQ Gk) (aM Gk) (aD Gk) .none kV57 dc57 pm57 an57 cd57 ct57),sl57⟩) (c57:PySem.W.codeIn K cd57 "between"=true) (k57:PySem.W.keepIn K (.ref f57)=true)
  (a58:PySem.W.nsIn K mainGlobals "_law_draw"=some (some (.ref f58)))
  (l58:K.lookup f58=some ⟨oc58,od58,.func (PySem.W.fnOf "_law_draw" "_law_draw" (aQ uL) (aM uL) (aD uL) .none kV58 dc58 pm58 an58 cd58 ct58),sl58⟩) (c58:PySem.W.codeIn K cd58 "_law_draw"=true) (k58:PySem.W.keepIn K (.ref f58)=true)
  (a59:PySem.W.nsIn K mainGlobals "_law_mix"=some (some (.ref f59)))
  (l59:K.lookup f59=some ⟨oc59,od59,.func (PySem.W.fnOf "_law_mix" "_law_mix" (aQ qW) (aM qW) (aD qW) .none kV59 dc59 pm59 an59 cd59 ct59),sl59⟩) (c59:PySem.W.codeIn K cd59 "_law_mix"=true) (k59:PySem.W.keepIn K (.ref f59)=true)
  (a60:PySem.W.nsIn K mainGlobals "_law_part"=some (some (.ref f60)))
  (l60:K.lookup f60=some ⟨oc60,od60,.func (PySem.W.fnOf "_law_part" "_law_part" (aQ uW) (aM uW) (aD uW) .none kV60 dc60 pm60 an60 cd60 ct60),sl60⟩) (c60:PySem.W.codeIn K cd60 "_law_part"=true) (k60:PySem.W.keepIn K (.ref f60)=true)
  (a61:PySem.W.nsIn K mainGlobals "_law_far"=some (some (.ref f61)))
  (l61:K.lookup f61=some ⟨oc61,od61,.func (PySem.W.fnOf "_law_far" "_law_far" (aQ Im) (aM Im) (aD Im) .none kV61 dc61 pm61 an61 cd61 ct61),sl61⟩) (c61:PySem.W.codeIn K cd61 "_law_far"=true) (k61:PySem.W.keepIn K (.ref f61)=true)
  (a62:PySem.W.nsIn K mainGlobals "_law_lowest"=some (some (.ref f62)))
  (l62:K.lookup f62=some ⟨oc62,od62,.func (PySem.W.fnOf "_law_lowest" "_law_lowest" (aQ lG) (aM lG) (aD lG) .none kV62 dc62 pm62 an62 cd62 ct62),sl62⟩) (c62:PySem.W.codeIn K cd62 "_law_lowest"=true) (k62:PySem.W.keepIn K (.ref f62)=true)
  (a63:PySem.W.nsIn K mainGlobals "_law_told"=some (some (.ref f63)))
  (l63:K.lookup f63=some ⟨oc63,od63,.func (PySem.W.fnOf "_law_told" "_law_told" (aQ wD) (aM wD) (aD wD) .none kV63 dc63 pm63 an63 cd63 ct63),sl63⟩) (c63:PySem.W.codeIn K cd63 "_law_told"=true) (k63:PySem.W.keepIn K (.ref f63)=true)
  (a64:PySem.W.nsIn K mainGlobals "_law_size"=some (some (.ref f64)))
  (l64:K.lookup f64=some ⟨oc64,od64,.func (PySem.W.fnOf "_law_size" "_law_size" (aQ uJ) (aM uJ) (aD uJ) .none kV64 dc64 pm64 an64 cd64 ct64),sl64⟩) (c64:PySem.W.codeIn K cd64 "_law_size"=true) (k64:PySem.W.keepIn K (.ref f64)=true)
  (a65:PySem.W.nsIn K mainGlobals "_law_net"=some (some (.ref f65)))
  (l65:K.lookup f65=some ⟨oc65,od65,.func (PySem.W.fnOf "_law_net" "_law_net" (aQ pW) (aM pW) (aD pW) .none kV65 dc65 pm65 an65 cd65 ct65),sl65⟩) (c65:PySem.W.codeIn K cd65 "_law_net"=true) (k65:PySem.W.keepIn K (.ref f65)=true)
  (a66:PySem.W.nsIn K mainGlobals "_law_put"=some (some (.ref f66)))
  (l66:K.lookup f66=some ⟨oc66,od66,.func (PySem.W.fnOf "_law_put" "_law_put" (aQ Gj) (aM Gj) (aD Gj) .none kV66 dc66 pm66 an66 cd66 ct66),sl66⟩) (c66:PySem.W.codeIn K cd66 "_law_put"=true) (k66:PySem.W.keepIn K (.ref f66)=true)
  (a67:PySem.W.nsIn K mainGlobals "_law_hanging"=some (some (.ref f67)))
  (l67:K.lookup f67=some ⟨oc67,od67,.func (PySem.W.fnOf "_law_hanging" "_law_hanging" (aQ vE) (aM vE) (aD vE) .none kV67 dc67 pm67 an67 cd67 ct67),sl67⟩) (c67:PySem.W.codeIn K cd67 "_law_hanging"=true) (k67:PySem.W.keepIn K (.ref f67)=true)
  (a68:PySem.W.nsIn K mainGlobals "_law_held"=some (some (.ref f68)))
  (l68:K.lookup f68=some ⟨oc68,od68,.func (PySem.W.fnOf "_law_held" "_law_held" (aQ wM) (aM wM) (aD wM) .none kV68 dc68 pm68 an68 cd68 ct68),sl68⟩) (c68:PySem.W.codeIn K cd68 "_law_held"=true) (k68:PySem.W.keepIn K (.ref f68)=true)
  (a69:PySem.W.nsIn K mainGlobals "_law_quiet"=some (some (.ref f69)))
  (l69:K.lookup f69=some ⟨oc69,od69,.func (PySem.W.fnOf "_law_quiet" "_law_quiet" (aQ pO) (aM pO) (aD pO) .none kV69 dc69 pm69 an69 cd69 ct69),sl69⟩) (c69:PySem.W.codeIn K cd69 "_law_quiet"=true) (k69:PySem.W.keepIn K (.ref f69)=true)
  (a70:PySem.W.nsIn K mainGlobals "_law_two"=some (some (.ref f70)))
  (l70:K.lookup f70=some ⟨oc70,od70,.func (PySem.W.fnOf "_law_two" "_law_two" (aQ pT) (aM pT) (aD pT) .none kV70 dc70 pm70 an70 cd70 ct70),sl70⟩) (c70:PySem.W.codeIn K cd70 "_law_two"=true) (k70:PySem.W.keepIn K (.ref f70)=true)
  (a71:PySem.W.nsIn K mainGlobals "law"=some (some (.ref f71)))
  (l71:K.lookup f71=some ⟨oc71,od71,.func (PySem.W.fnOf "law" "law" (aQ wZ) (aM wZ) (aD wZ) .none kV71 dc71 pm71 an71 cd71 ct71),sl71⟩) (c71:PySem.W.codeIn K cd71 "law"=true) (k71:PySem.W.keepIn K (.ref f71)=true)
  (v_ONE:PySem.W.nsIn K mainGlobals "ONE"=some (some (.ref aO)))
  (v_NOUGHT:PySem.W.nsIn K mainGlobals "NOUGHT"=some (some (.ref aN)))
  (v_JOINING_WORDS:PySem.W.nsIn K mainGlobals "JOINING_WORDS"=some (some (.ref aJ)))
  (v_MOST_POINTS:PySem.W.nsIn K mainGlobals "MOST_POINTS"=some (some (.int 20 tM)))
  (v_MOST_ROWS:PySem.W.nsIn K mainGlobals "MOST_ROWS"=some (some (.int 40 tR)))
  (lO:K.lookup aO=some ⟨.type "tuple",dO,.seq #[.int 1 t2,.int 1 t3] nO,sO⟩)
  (lN:K.lookup aN=some ⟨.type "tuple",dN,.seq #[.int 0 t0,.int 1 t1] nN,sN⟩)
  (lJ:K.lookup aJ=some ⟨.type "tuple",dJ,.seq #[.str "piece" tj0,.str "hold" tj1] nJ,sJ⟩)
  (pg_Piece:PySem.W.plainGet K c_Piece Str.empty=true)
  (hd_Piece:PySem.W.hasDictIn K c_Piece=true)
  (po_Piece:PySem.W.plainOver K c_Piece=true)
  (sa_Piece:PySem.W.findIn K (.ref c_Piece) "__setattr__"=some (some (.builtin "object.__setattr__")))
  (mk_Piece:PySem.W.makesIn K c_Piece=true)
  (kc_Piece:PySem.W.keepIn K (.ref c_Piece)=true)
  (t1_Piece:PySem.W.findIn K (.ref c_Piece) "__class__"=some (some (.builtin "object.__class__")))
  (t4_Piece:PySem.W.mroIn K c_Piece (.type "object")=some true)
  (na_Piece_start:PySem.W.findIn K (.ref c_Piece) "start"=some none)
  (na_Piece_goal:PySem.W.findIn K (.ref c_Piece) "goal"=some none)
  (na_Piece_size:PySem.W.findIn K (.ref c_Piece) "size"=some none)
  (pg_Push:PySem.W.plainGet K c_Push Str.empty=true)
  (hd_Push:PySem.W.hasDictIn K c_Push=true)
  (po_Push:PySem.W.plainOver K c_Push=true)
  (sa_Push:PySem.W.findIn K (.ref c_Push) "__setattr__"=some (some (.builtin "object.__setattr__")))
  (mk_Push:PySem.W.makesIn K c_Push=true)
  (kc_Push:PySem.W.keepIn K (.ref c_Push)=true)
  (t1_Push:PySem.W.findIn K (.ref c_Push) "__class__"=some (some (.builtin "object.__class__")))
  (t4_Push:PySem.W.mroIn K c_Push (.type "object")=some true)
  (na_Push_start:PySem.W.findIn K (.ref c_Push) "start"=some none)
  (na_Push_goal:PySem.W.findIn K (.ref c_Push) "goal"=some none)
  (na_Push_size:PySem.W.findIn K (.ref c_Push) "size"=some none)
  (pg_Hold:PySem.W.plainGet K c_Hold Str.empty=true)
  (hd_Hold:PySem.W.hasDictIn K c_Hold=true)
  (po_Hold:PySem.W.plainOver K c_Hold=true)
  (sa_Hold:PySem.W.findIn K (.ref c_Hold) "__setattr__"=some (some (.builtin "object.__setattr__")))
  (mk_Hold:PySem.W.makesIn K c_Hold=true)
  (kc_Hold:PySem.W.keepIn K (.ref c_Hold)=true)
  (t1_Hold:PySem.W.findIn K (.ref c_Hold) "__class__"=some (some (.builtin "object.__class__")))
  (t4_Hold:PySem.W.mroIn K c_Hold (.type "object")=some true)
  (na_Hold_start:PySem.W.findIn K (.ref c_Hold) "start"=some none)
  (na_Hold_goal:PySem.W.findIn K (.ref c_Hold) "goal"=some none)
  (na_Hold_size:PySem.W.findIn K (.ref c_Hold) "size"=some none)
  (tt2:PySem.W.specialIn K (.builtin "object.__class__") "__get__"=some (some (.builtin "getset_descriptor.__get__")))
  (tt3:PySem.W.takesIn K (.builtin "object.__class__")=some true)
  (isR_Piece:PySem.W.kitOne K (.ref c_Piece) (.ref c_Row)=some true)
  (isR_Push:PySem.W.kitOne K (.ref c_Push) (.ref c_Row)=some true)
  (isR_Hold:PySem.W.kitOne K (.ref c_Hold) (.ref c_Row)=some true)
  (isK_Piece_Push:PySem.W.kitOne K (.ref c_Piece) (.ref c_Push)=some false)
  (isK_Piece_Hold:PySem.W.kitOne K (.ref c_Piece) (.ref c_Hold)=some false)
  (isK_Push_Piece:PySem.W.kitOne K (.ref c_Push) (.ref c_Piece)=some false)
  (isK_Push_Hold:PySem.W.kitOne K (.ref c_Push) (.ref c_Hold)=some false)
  (isK_Hold_Piece:PySem.W.kitOne K (.ref c_Hold) (.ref c_Piece)=some false)
  (isK_Hold_Push:PySem.W.kitOne K (.ref c_Hold) (.ref c_Push)=some false)
  (pg_Net:PySem.W.plainGet K c_Net Str.empty=true)
  (hd_Net:PySem.W.hasDictIn K c_Net=true)
  (po_Net:PySem.W.plainOver K c_Net=true)
  (sa_Net:PySem.W.findIn K (.ref c_Net) "__setattr__"=some (some (.builtin "object.__setattr__")))
  (mk_Net:PySem.W.makesIn K c_Net=true)
  (kc_Net:PySem.W.keepIn K (.ref c_Net)=true)
  (t1_Net:PySem.W.findIn K (.ref c_Net) "__class__"=some (some (.builtin "object.__class__")))
  (t4_Net:PySem.W.mroIn K c_Net (.type "object")=some true)
  (na_Net_point_count:PySem.W.findIn K (.ref c_Net) "point_count"=some none)
  (na_Net_kept:PySem.W.findIn K (.ref c_Net) "kept"=some none)
  (pg_Answer:PySem.W.plainGet K c_Answer Str.empty=true)
  (hd_Answer:PySem.W.hasDictIn K c_Answer=true)
  (po_Answer:PySem.W.plainOver K c_Answer=true)
  (sa_Answer:PySem.W.findIn K (.ref c_Answer) "__setattr__"=some (some (.builtin "object.__setattr__")))
  (mk_Answer:PySem.W.makesIn K c_Answer=true)
  (kc_Answer:PySem.W.keepIn K (.ref c_Answer)=true)
  (t1_Answer:PySem.W.findIn K (.ref c_Answer) "__class__"=some (some (.builtin "object.__class__")))
  (t4_Answer:PySem.W.mroIn K c_Answer (.type "object")=some true)
  (na_Answer_lines:PySem.W.findIn K (.ref c_Answer) "lines"=some none)
  (na_Answer_levels:PySem.W.findIn K (.ref c_Answer) "levels"=some none)
  (na_Answer_flows:PySem.W.findIn K (.ref c_Answer) "flows"=some none)
  (z1:PySem.W.nsIn K mainGlobals "isinstance"=some none)
  (z2:PySem.W.nsIn K mainGlobals "int"=some none)
  (z3:PySem.W.nsIn K mainGlobals "bool"=some none)
  (z4:PySem.W.nsIn K mainGlobals "abs"=some none)
  (z5:PySem.W.nsIn K mainGlobals "len"=some none)
  (z6:PySem.W.nsIn K mainGlobals "range"=some none)
  (z7:PySem.W.nsIn K mainGlobals "str"=some none)
  (z8:PySem.W.nsIn K mainGlobals "tuple"=some none)
  (z9:PySem.W.nsIn K mainGlobals "list"=some none)
  (z10:PySem.W.nsIn K mainGlobals "all"=some none)
  (z11:PySem.W.nsIn K mainGlobals "zip"=some none)
  (z12:PySem.W.nsIn K mainGlobals "enumerate"=some none) :
  ∃fd:FuncData,(∀(s:Shared) (v:Value),BindsTo s fd ⟨[v],[]⟩ [("_law_script",v)])∧∀base:Heap,K.In base→base.Ns mainGlobals mg→aP l.prog w K mg base CX0 11 fa fd ["_law_script"] (Fl K):=by
 have e:=hfa.symm.trans (PySem.W.mg_of X G a71)
 cases e
 have mc_Row:=PySem.W.mg_of X G y_Row
 have mc_Piece:=PySem.W.mg_of X G y_Piece
 have mc_Push:=PySem.W.mg_of X G y_Push
 have mc_Hold:=PySem.W.mg_of X G y_Hold
 have mc_Net:=PySem.W.mg_of X G y_Net
 have mc_Answer:=PySem.W.mg_of X G y_Answer
 have F1:=aU (st:=qA) l1 c1 k1
 have m1:=PySem.W.mg_of X G a1
 have b1:=F1.binds (ps:=["thing"]) fun _ _ _ _ _ _ us hl=>by obtain⟨_,rfl⟩:=cT hl;rfl
 have F2:=aU (st:=sGc) l2 c2 k2
 have m2:=PySem.W.mg_of X G a2
 have b2:=F2.binds (ps:=["one","other"]) fun _ _ _ _ _ _ us hl=>by obtain⟨_,_,rfl⟩:=cO hl;rfl
 have F3:=aU (st:=qC) l3 c3 k3
 have m3:=PySem.W.mg_of X G a3
 have b3:=F3.binds (ps:=["one","other"]) fun _ _ _ _ _ _ us hl=>by obtain⟨_,_,rfl⟩:=cO hl;rfl
 have F4:=aU (st:=jX) l4 c4 k4
 have m4:=PySem.W.mg_of X G a4
 have b4:aR K _ ["top","bottom"] []:=fun s us XX hl=>match us,hl with | [_,_],_=>PySem.W.binds_K (fd:=PySem.W.fnOf "fraction" "fraction" (aQ jX) (aM jX) (aD jX) (.ref T4) kV4 dc4 pm4 an4 cd4 ct4) XX rfl lt4 rfl rfl rfl
 have bd4:aR K _ ["top","bottom"] [.int 1 tk4]:=fun s us XX hl=>match us,(show us.length=1 by simp at hl;omega) with | [_],_=>PySem.W.binds_K (fd:=PySem.W.fnOf "fraction" "fraction" (aQ jX) (aM jX) (aD jX) (.ref T4) kV4 dc4 pm4 an4 cd4 ct4) XX rfl lt4 rfl rfl rfl
 have F5:=aU (st:=pF) l5 c5 k5
 have m5:=PySem.W.mg_of X G a5
 have b5:=F5.binds (ps:=["one","other"]) fun _ _ _ _ _ _ us hl=>by obtain⟨_,_,rfl⟩:=cO hl;rfl
 have F6:=aU (st:=wR) l6 c6 k6
 have m6:=PySem.W.mg_of X G a6
 have b6:=F6.binds (ps:=["one","other"]) fun _ _ _ _ _ _ us hl=>by obtain⟨_,_,rfl⟩:=cO hl;rfl
 have F7:=aU (st:=wP) l7 c7 k7
 have m7:=PySem.W.mg_of X G a7
 have b7:=F7.binds (ps:=["one","other"]) fun _ _ _ _ _ _ us hl=>by obtain⟨_,_,rfl⟩:=cO hl;rfl
 have F8:=aU (st:=Gm) l8 c8 k8
 have m8:=PySem.W.mg_of X G a8
 have b8:=F8.binds (ps:=["thing"]) fun _ _ _ _ _ _ us hl=>by obtain⟨_,rfl⟩:=cT hl;rfl
 have F9:=aU (st:=pB) l9 c9 k9
 have b9:=F9.binds (ps:=["self","start","goal","size"]) fun _ _ _ _ _ _ us hl=>by obtain⟨_,_,_,_,rfl⟩:=gS hl;rfl
 have F10:=aU (st:=jF) l10 c10 k10
 have b10:=F10.binds (ps:=["self"]) fun _ _ _ _ _ _ us hl=>by obtain⟨_,rfl⟩:=cT hl;rfl
 have F11:=aU (st:=jG) l11 c11 k11
 have b11:=F11.binds (ps:=["self"]) fun _ _ _ _ _ _ us hl=>by obtain⟨_,rfl⟩:=cT hl;rfl
 have F12:=aU (st:=iX) l12 c12 k12
 have b12:=F12.binds (ps:=["self"]) fun _ _ _ _ _ _ us hl=>by obtain⟨_,rfl⟩:=cT hl;rfl
 have F13:=aU (st:=iB) l13 c13 k13
 have b13:=F13.binds (ps:=["self"]) fun _ _ _ _ _ _ us hl=>by obtain⟨_,rfl⟩:=cT hl;rfl
 have F14:=aU (st:=iE) l14 c14 k14
 have b14:=F14.binds (ps:=["self"]) fun _ _ _ _ _ _ us hl=>by obtain⟨_,rfl⟩:=cT hl;rfl
 have F15:=aU (st:=iD) l15 c15 k15
 have b15:=F15.binds (ps:=["self"]) fun _ _ _ _ _ _ us hl=>by obtain⟨_,rfl⟩:=cT hl;rfl
 have F16:=aU (st:=pX) l16 c16 k16
 have b16:=F16.binds (ps:=["self"]) fun _ _ _ _ _ _ us hl=>by obtain⟨_,rfl⟩:=cT hl;rfl
 have F17:=aU (st:=pU) l17 c17 k17
 have m17:=PySem.W.mg_of X G a17
 have b17:=F17.binds (ps:=["told"]) fun _ _ _ _ _ _ us hl=>by obtain⟨_,rfl⟩:=cT hl;rfl
 have F18:=aU (st:=gO) l18 c18 k18
 have b18:=F18.binds (ps:=["self","fall","held"]) fun _ _ _ _ _ _ us hl=>by obtain⟨_,_,_,rfl⟩:=fP hl;rfl
 have F19:=aU (st:=gK) l19 c19 k19
 have b19:=F19.binds (ps:=["self","fall","held"]) fun _ _ _ _ _ _ us hl=>by obtain⟨_,_,_,rfl⟩:=fP hl;rfl
 have F20:=aU (st:=gP) l20 c20 k20
 have b20:=F20.binds (ps:=["self","fall","held"]) fun _ _ _ _ _ _ us hl=>by obtain⟨_,_,_,rfl⟩:=fP hl;rfl
 have F21:=aU (st:=sPS) l21 c21 k21
 have m21:=PySem.W.mg_of X G a21
 have b21:=F21.binds (ps:=["thing"]) fun _ _ _ _ _ _ us hl=>by obtain⟨_,rfl⟩:=cT hl;rfl
 have F22:=aU (st:=sNB) l22 c22 k22
 have m22:=PySem.W.mg_of X G a22
 have b22:=F22.binds (ps:=["thing","bound"]) fun _ _ _ _ _ _ us hl=>by obtain⟨_,_,rfl⟩:=cO hl;rfl
 have F23:=aU (st:=sRS) l23 c23 k23
 have m23:=PySem.W.mg_of X G a23
 have b23:=F23.binds (ps:=["word","size"]) fun _ _ _ _ _ _ us hl=>by obtain⟨_,_,rfl⟩:=cO hl;rfl
 have F24:=aU (st:=sRP) l24 c24 k24
 have m24:=PySem.W.mg_of X G a24
 have b24:=F24.binds (ps:=["some","many"]) fun _ _ _ _ _ _ us hl=>by obtain⟨_,_,rfl⟩:=cO hl;rfl
 have F25:=aU (st:=sRN) l25 c25 k25
 have m25:=PySem.W.mg_of X G a25
 have b25:=F25.binds (ps:=["k","count"]) fun _ _ _ _ _ _ us hl=>by obtain⟨_,_,rfl⟩:=cO hl;rfl
 have F26:=aU (st:=oZ) l26 c26 k26
 have b26:=F26.binds (ps:=["self","many"]) fun _ _ _ _ _ _ us hl=>by obtain⟨_,_,rfl⟩:=cO hl;rfl
 have F27:=aU (st:=vB) l27 c27 k27
 have b27:=F27.binds (ps:=["self"]) fun _ _ _ _ _ _ us hl=>by obtain⟨_,rfl⟩:=cT hl;rfl
 have F28:=aU (st:=pK) l28 c28 k28
 have b28:=F28.binds (ps:=["self"]) fun _ _ _ _ _ _ us hl=>by obtain⟨_,rfl⟩:=cT hl;rfl
 have F29:=aU (st:=Gv) l29 c29 k29
 have b29:=F29.binds (ps:=["self","row"]) fun _ _ _ _ _ _ us hl=>by obtain⟨_,_,rfl⟩:=cO hl;rfl
 have F30:=aU (st:=lV) l30 c30 k30
 have b30:=F30.binds (ps:=["self","k","size"]) fun _ _ _ _ _ _ us hl=>by obtain⟨_,_,_,rfl⟩:=fP hl;rfl
 have F31:=aU (st:=uU) l31 c31 k31
 have b31:=F31.binds (ps:=["self"]) fun _ _ _ _ _ _ us hl=>by obtain⟨_,rfl⟩:=cT hl;rfl
 have F32:=aU (st:=vJ) l32 c32 k32
 have m32:=PySem.W.mg_of X G a32
 have b32:=F32.binds (ps:=["row","heights"]) fun _ _ _ _ _ _ us hl=>by obtain⟨_,_,rfl⟩:=cO hl;rfl
 have F33:=aU (st:=lW) l33 c33 k33
 have m33:=PySem.W.mg_of X G a33
 have b33:=F33.binds (ps:=["marks","row"]) fun _ _ _ _ _ _ us hl=>by obtain⟨_,_,rfl⟩:=cO hl;rfl
 have F34:=aU (st:=qD) l34 c34 k34
 have m34:=PySem.W.mg_of X G a34
 have b34:=F34.binds (ps:=["net"]) fun _ _ _ _ _ _ us hl=>by obtain⟨_,rfl⟩:=cT hl;rfl
 have F35:=aU (st:=pI) l35 c35 k35
 have m35:=PySem.W.mg_of X G a35
 have b35:=F35.binds (ps:=["net"]) fun _ _ _ _ _ _ us hl=>by obtain⟨_,rfl⟩:=cT hl;rfl
 have F36:=aU (st:=qH) l36 c36 k36
 have m36:=PySem.W.mg_of X G a36
 have b36:=F36.binds (ps:=["rows","numbers","point"]) fun _ _ _ _ _ _ us hl=>by obtain⟨_,_,_,rfl⟩:=fP hl;rfl
 have F37:=aU (st:=Ir) l37 c37 k37
 have m37:=PySem.W.mg_of X G a37
 have b37:=F37.binds (ps:=["rows","numbers","begin","end"]) fun _ _ _ _ _ _ us hl=>by obtain⟨_,_,_,_,rfl⟩:=gS hl;rfl
 have F38:=aU (st:=gY) l38 c38 k38
 have m38:=PySem.W.mg_of X G a38
 have b38:aR K _ ["net","words"] []:=fun s us XX hl=>match us,hl with | [_,_],_=>PySem.W.binds_K (fd:=PySem.W.fnOf "rings" "rings" (aQ gY) (aM gY) (aD gY) (.ref T38) kV38 dc38 pm38 an38 cd38 ct38) XX rfl lt38 rfl rfl rfl
 have bd38:aR K _ ["net","words"] [.none]:=fun s us XX hl=>match us,(show us.length=1 by simp at hl;omega) with | [_],_=>PySem.W.binds_K (fd:=PySem.W.fnOf "rings" "rings" (aQ gY) (aM gY) (aD gY) (.ref T38) kV38 dc38 pm38 an38 cd38 ct38) XX rfl lt38 rfl rfl rfl
 have F39:=aU (st:=pZ) l39 c39 k39
 have m39:=PySem.W.mg_of X G a39
 have b39:=F39.binds (ps:=["line","column","amount"]) fun _ _ _ _ _ _ us hl=>by obtain⟨_,_,_,rfl⟩:=fP hl;rfl
 have F40:=aU (st:=pS) l40 c40 k40
 have m40:=PySem.W.mg_of X G a40
 have b40:=F40.binds (ps:=["matrix","row","column","amount"]) fun _ _ _ _ _ _ us hl=>by obtain⟨_,_,_,_,rfl⟩:=gS hl;rfl
 have F41:=aU (st:=lZ) l41 c41 k41
 have m41:=PySem.W.mg_of X G a41
 have b41:=F41.binds (ps:=["matrix","row"]) fun _ _ _ _ _ _ us hl=>by obtain⟨_,_,rfl⟩:=cO hl;rfl
 have F42:=aU (st:=lM) l42 c42 k42
 have m42:=PySem.W.mg_of X G a42
 have b42:=F42.binds (ps:=["right","row"]) fun _ _ _ _ _ _ us hl=>by obtain⟨_,_,rfl⟩:=cO hl;rfl
 have F43:=aU (st:=lT) l43 c43 k43
 have m43:=PySem.W.mg_of X G a43
 have b43:=F43.binds (ps:=["matrix","right","row","column"]) fun _ _ _ _ _ _ us hl=>by obtain⟨_,_,_,_,rfl⟩:=gS hl;rfl
 have F44:=aU (st:=Gw) l44 c44 k44
 have m44:=PySem.W.mg_of X G a44
 have b44:=F44.binds (ps:=["net"]) fun _ _ _ _ _ _ us hl=>by obtain⟨_,rfl⟩:=cT hl;rfl
 have F45:=aU (st:=sIW) l45 c45 k45
 have m45:=PySem.W.mg_of X G a45
 have b45:=F45.binds (ps:=["some"]) fun _ _ _ _ _ _ us hl=>by obtain⟨_,rfl⟩:=cT hl;rfl
 have F46:=aU (st:=Io) l46 c46 k46
 have m46:=PySem.W.mg_of X G a46
 have b46:=F46.binds (ps:=["rows","rank","column"]) fun _ _ _ _ _ _ us hl=>by obtain⟨_,_,_,rfl⟩:=fP hl;rfl
 have F47:=aU (st:=Hc) l47 c47 k47
 have m47:=PySem.W.mg_of X G a47
 have b47:=F47.binds (ps:=["row","upper","column","divisor"]) fun _ _ _ _ _ _ us hl=>by obtain⟨_,_,_,_,rfl⟩:=gS hl;rfl
 have F48:=aU (st:=iW) l48 c48 k48
 have m48:=PySem.W.mg_of X G a48
 have b48:=F48.binds (ps:=["rows","rank","column","divisor"]) fun _ _ _ _ _ _ us hl=>by obtain⟨_,_,_,_,rfl⟩:=gS hl;rfl
 have F49:=aU (st:=vO) l49 c49 k49
 have m49:=PySem.W.mg_of X G a49
 have b49:=F49.binds (ps:=["rows","width"]) fun _ _ _ _ _ _ us hl=>by obtain⟨_,_,rfl⟩:=cO hl;rfl
 have F50:=aU (st:=lL) l50 c50 k50
 have m50:=PySem.W.mg_of X G a50
 have b50:=F50.binds (ps:=["matrix","right"]) fun _ _ _ _ _ _ us hl=>by obtain⟨_,_,rfl⟩:=cO hl;rfl
 have F51:=aU (st:=Gr) l51 c51 k51
 have m51:=PySem.W.mg_of X G a51
 have b51:=F51.binds (ps:=["net"]) fun _ _ _ _ _ _ us hl=>by obtain⟨_,rfl⟩:=cT hl;rfl
 have F52:=aU (st:=pH) l52 c52 k52
 have m52:=PySem.W.mg_of X G a52
 have b52:=F52.binds (ps:=["rows","levels","held"]) fun _ _ _ _ _ _ us hl=>by obtain⟨_,_,_,rfl⟩:=fP hl;rfl
 have F53:=aU (st:=oS) l53 c53 k53
 have b53:=F53.binds (ps:=["self","net"]) fun _ _ _ _ _ _ us hl=>by obtain⟨_,_,rfl⟩:=cO hl;rfl
 have F54:=aU (st:=pV) l54 c54 k54
 have b54:=F54.binds (ps:=["self","a","b"]) fun _ _ _ _ _ _ us hl=>by obtain⟨_,_,_,rfl⟩:=fP hl;rfl
 have F55:=aU (st:=Hq) l55 c55 k55
 have m55:=PySem.W.mg_of X G a55
 have b55:=F55.binds (ps:=["net","matrix","right"]) fun _ _ _ _ _ _ us hl=>by obtain⟨_,_,_,rfl⟩:=fP hl;rfl
 have F56:=aU (st:=Ij) l56 c56 k56
 have m56:=PySem.W.mg_of X G a56
 have b56:=F56.binds (ps:=["net","start","goal"]) fun _ _ _ _ _ _ us hl=>by obtain⟨_,_,_,rfl⟩:=fP hl;rfl
 have F57:=aU (st:=Gk) l57 c57 k57
 have m57:=PySem.W.mg_of X G a57
 have b57:=F57.binds (ps:=["net","a","b"]) fun _ _ _ _ _ _ us hl=>by obtain⟨_,_,_,rfl⟩:=fP hl;rfl
 have F58:=aU (st:=uL) l58 c58 k58
 have m58:=PySem.W.mg_of X G a58
 have b58:=F58.binds (ps:=["_law_script","_law_k"]) fun _ _ _ _ _ _ us hl=>by obtain⟨_,_,rfl⟩:=cO hl;rfl
 have F59:=aU (st:=qW) l59 c59 k59
 have m59:=PySem.W.mg_of X G a59
 have b59:=F59.binds (ps:=["_law_cell","_law_turn","_law_many"]) fun _ _ _ _ _ _ us hl=>by obtain⟨_,_,_,rfl⟩:=fP hl;rfl
 have F60:=aU (st:=uW) l60 c60 k60
 have m60:=PySem.W.mg_of X G a60
 have b60:=F60.binds (ps:=["_law_cell","_law_k"]) fun _ _ _ _ _ _ us hl=>by obtain⟨_,_,rfl⟩:=cO hl;rfl
 have F61:=aU (st:=Im) l61 c61 k61
 have m61:=PySem.W.mg_of X G a61
 have b61:=F61.binds (ps:=["_law_cell","_law_turn"]) fun _ _ _ _ _ _ us hl=>by obtain⟨_,_,rfl⟩:=cO hl;rfl
 have F62:=aU (st:=lG) l62 c62 k62
 have m62:=PySem.W.mg_of X G a62
 have b62:=F62.binds (ps:=["_law_top","_law_bottom"]) fun _ _ _ _ _ _ us hl=>by obtain⟨_,_,rfl⟩:=cO hl;rfl
 have F63:=aU (st:=wD) l63 c63 k63
 have m63:=PySem.W.mg_of X G a63
 have b63:=F63.binds (ps:=["_law_found","_law_due"]) fun _ _ _ _ _ _ us hl=>by obtain⟨_,_,rfl⟩:=cO hl;rfl
 have F64:=aU (st:=uJ) l64 c64 k64
 have m64:=PySem.W.mg_of X G a64
 have b64:=F64.binds (ps:=["_law_cell"]) fun _ _ _ _ _ _ us hl=>by obtain⟨_,rfl⟩:=cT hl;rfl
 have F65:=aU (st:=pW) l65 c65 k65
 have m65:=PySem.W.mg_of X G a65
 have b65:=F65.binds (ps:=["_law_many","_law_rows"]) fun _ _ _ _ _ _ us hl=>by obtain⟨_,_,rfl⟩:=cO hl;rfl
 have F66:=aU (st:=Gj) l66 c66 k66
 have m66:=PySem.W.mg_of X G a66
 have b66:=F66.binds (ps:=["_law_rows","_law_cell","_law_word","_law_ends"]) fun _ _ _ _ _ _ us hl=>by obtain⟨_,_,_,_,rfl⟩:=gS hl;rfl
 have F67:=aU (st:=vE) l67 c67 k67
 have m67:=PySem.W.mg_of X G a67
 have b67:=F67.binds (ps:=["_law_script","_law_many","_law_most","_law_words"]) fun _ _ _ _ _ _ us hl=>by obtain⟨_,_,_,_,rfl⟩:=gS hl;rfl
 have F68:=aU (st:=wM) l68 c68 k68
 have m68:=PySem.W.mg_of X G a68
 have b68:=F68.binds (ps:=["_law_rows","_law_many","_law_a","_law_b"]) fun _ _ _ _ _ _ us hl=>by obtain⟨_,_,_,_,rfl⟩:=gS hl;rfl
 have F69:=aU (st:=pO) l69 c69 k69
 have m69:=PySem.W.mg_of X G a69
 have b69:=F69.binds (ps:=["_law_rows","_law_many","_law_a","_law_b"]) fun _ _ _ _ _ _ us hl=>by obtain⟨_,_,_,_,rfl⟩:=gS hl;rfl
 have F70:=aU (st:=pT) l70 c70 k70
 have m70:=PySem.W.mg_of X G a70
 have b70:=F70.binds (ps:=["_law_net_here","_law_rows","_law_many","_law_a","_law_b"]) fun _ _ _ _ _ _ us hl=>by obtain⟨_,_,_,_,_,rfl⟩:=Qz hl;rfl
 have F71:=aU (st:=wZ) l71 c71 k71
 have m71:=PySem.W.mg_of X G a71
 have b71:=F71.binds (ps:=["_law_script"]) fun _ _ _ _ _ _ us hl=>by obtain⟨_,rfl⟩:=cT hl;rfl
 have mv_ONE:=PySem.W.mg_of X G v_ONE
 have mv_NOUGHT:=PySem.W.mg_of X G v_NOUGHT
 have mv_JOINING_WORDS:=PySem.W.mg_of X G v_JOINING_WORDS
 have mv_MOST_POINTS:=PySem.W.mg_of X G v_MOST_POINTS
 have mv_MOST_ROWS:=PySem.W.mg_of X G v_MOST_ROWS
 have n_isinstance:=PySem.W.mg_none_of X G z1
 have n_int:=PySem.W.mg_none_of X G z2
 have n_bool:=PySem.W.mg_none_of X G z3
 have n_abs:=PySem.W.mg_none_of X G z4
 have n_len:=PySem.W.mg_none_of X G z5
 have n_range:=PySem.W.mg_none_of X G z6
 have n_str:=PySem.W.mg_none_of X G z7
 have n_tuple:=PySem.W.mg_none_of X G z8
 have n_list:=PySem.W.mg_none_of X G z9
 have n_all:=PySem.W.mg_none_of X G z10
 have n_zip:=PySem.W.mg_none_of X G z11
 have n_enumerate:=PySem.W.mg_none_of X G z12
 refine⟨PySem.W.fnOf "law" "law" (aQ wZ) (aM wZ) (aD wZ) .none kV71 dc71 pm71 an71 cd71 ct71,fun s v=>.of_eq rfl,fun base _ _=>?_⟩
 have bl:Bl mg:=⟨n_isinstance,n_int,n_bool,n_abs⟩
 have T:RT K mg c_Row (kd3 c_Piece c_Push c_Hold):=⟨iK ⟨pg_Piece,hd_Piece,po_Piece,sa_Piece⟩ ⟨pg_Push,hd_Push,po_Push,sa_Push⟩ ⟨pg_Hold,hd_Hold,po_Hold,sa_Hold⟩,iK na_Piece_start na_Push_start na_Hold_start,iK na_Piece_goal na_Push_goal na_Hold_goal,iK na_Piece_size na_Push_size na_Hold_size,iK t1_Piece t1_Push t1_Hold,tt2,tt3,iK t4_Piece t4_Push t4_Hold,iK isR_Piece isR_Push isR_Hold,iK (iK (sU _ _) isK_Piece_Push isK_Piece_Hold) (iK isK_Push_Piece (sU _ _) isK_Push_Hold) (iK isK_Hold_Piece isK_Hold_Push (sU _ _)),mc_Row,iK mc_Piece mc_Push mc_Hold⟩
 have fN:∀H,Fq K H aN (0,1):=Fq.mod lN
 have fO:∀H,Fq K H aO (1,1):=Fq.mod lO
 have fJ:∀H,SqT K H aJ [.str "piece",.str "hold"]:=fun H=>.inr ⟨_,_,_,lJ,rfl,rfl,(by show 2≤sizeLine;decide),.cons ⟨_,rfl⟩ (.cons ⟨_,rfl⟩ .nil)⟩
 have NTx:NT K mg c_Net:=⟨⟨pg_Net,hd_Net,po_Net,sa_Net⟩,na_Net_point_count,na_Net_kept,t1_Net,tt2,tt3,t4_Net,mc_Net⟩
 have ABx:AB K mg c_Answer:=⟨⟨pg_Answer,hd_Answer,po_Answer,sa_Answer⟩,na_Answer_lines,na_Answer_levels,na_Answer_flows,mc_Answer⟩
 have R1:=Jp (P:=l.prog) (w:=w) (K:=K) (mg:=mg) (base:=base) (CX:=CX0) F1 bl
 have R2:=Wu (P:=l.prog) (w:=w) (K:=K) (mg:=mg) (base:=base) (CX:=CX0) F2 bl
 have R3:=Jb (P:=l.prog) (w:=w) (K:=K) (mg:=mg) (base:=base) (CX:=CX0) F3
 have R4:=Ol (P:=l.prog) (w:=w) (K:=K) (mg:=mg) (base:=base) (CX:=CX0) F4  R1 b1 k1 m1 R2 b2 k2 m2
 have R5:=Jd (P:=l.prog) (w:=w) (K:=K) (mg:=mg) (base:=base) (CX:=CX0) F5  R4 b4 k4 m4
 have R6:=Qh (P:=l.prog) (w:=w) (K:=K) (mg:=mg) (base:=base) (CX:=CX0) F6  R4 b4 k4 m4
 have R7:=Ot (P:=l.prog) (w:=w) (K:=K) (mg:=mg) (base:=base) (CX:=CX0) F7  R4 b4 k4 m4
 have R8:=Ui (P:=l.prog) (w:=w) (K:=K) (mg:=mg) (base:=base) (CX:=CX0) F8 bl n_len n_tuple R1 b1 k1 m1 R2 b2 k2 m2
 have R9:=Jg (P:=l.prog) (w:=w) (K:=K) (mg:=mg) (base:=base) (CX:=CX0) F9 T
 have R10:=Cl (P:=l.prog) (w:=w) (K:=K) (mg:=mg) (base:=base) (CX:=CX0) F10
 have R11:=Bs (P:=l.prog) (w:=w) (K:=K) (mg:=mg) (base:=base) (CX:=CX0) F11
 have R12:=Dc (P:=l.prog) (w:=w) (K:=K) (mg:=mg) (base:=base) (CX:=CX0) F12
 have GW:∀k,aP l.prog w K mg base CX0 1 (kd3 f10 f11 f12 k) (kd3 _ _ _ k) ["self"] (kY k):=iK (R10) (R11) (R12)
 have bW:∀k,aR K (kd3 _ _ _ k) ["self"] []:=iK (b10) (b11) (b12)
 have mW:∀k,gD K (kd3 c_Piece c_Push c_Hold k) "word" (kd3 f10 f11 f12 k):=iK (⟨a10_0,i10,k10⟩) (⟨a11_0,i11,k11⟩) (⟨a12_0,i12,k12⟩)
 have R13:=Ag (P:=l.prog) (w:=w) (K:=K) (mg:=mg) (base:=base) (CX:=CX0) F13
 have R14:=Az (P:=l.prog) (w:=w) (K:=K) (mg:=mg) (base:=base) (CX:=CX0) F14
 have R15:=Ay (P:=l.prog) (w:=w) (K:=K) (mg:=mg) (base:=base) (CX:=CX0) F15
 have GJ:∀k,aP l.prog w K mg base CX0 1 (kd3 f13 f14 f15 k) (kd3 _ _ _ k) ["self"] (nH k):=iK (R13) (R14) (R15)
 have bJ:∀k,aR K (kd3 _ _ _ k) ["self"] []:=iK (b13) (b14) (b15)
 have mJ:∀k,gD K (kd3 c_Piece c_Push c_Hold k) "joins" (kd3 f13 f14 f15 k):=iK (⟨a13_0,i13,k13⟩) (⟨a14_0,i14,k14⟩) (⟨a15_0,i15,k15⟩)
 have R16:=Lf (P:=l.prog) (w:=w) (K:=K) (mg:=mg) (base:=base) (CX:=CX0) F16 T GW bW mW
 have mT:∀k,gD K (kd3 c_Piece c_Push c_Hold k) "told" f16:=iK (⟨a16_0,i16,k16⟩) (⟨a16_1,i16,k16⟩) (⟨a16_2,i16,k16⟩)
 have MK:∀k,Mk K (kd3 c_Piece c_Push c_Hold k) f9:=iK (⟨mk_Piece,a9_0,i9,kc_Piece⟩) (⟨mk_Push,a9_1,i9,kc_Push⟩) (⟨mk_Hold,a9_2,i9,kc_Hold⟩)
 have R17:=Mh (P:=l.prog) (w:=w) (K:=K) (mg:=mg) (base:=base) (CX:=CX0) F17 T bl n_str R9 b9 MK
 have R18:=yG (P:=l.prog) (w:=w) (K:=K) (mg:=mg) (base:=base) (CX:=CX0) F18 T R7 b7 k7 m7
 have R19:=xZ (P:=l.prog) (w:=w) (K:=K) (mg:=mg) (base:=base) (CX:=CX0) F19 T
 have R20:=xW (P:=l.prog) (w:=w) (K:=K) (mg:=mg) (base:=base) (CX:=CX0) F20 T
 have GS:∀k,aP l.prog w K mg base CX0 4 (kd3 f18 f19 f20 k) (kd3 _ _ _ k) ["self","fall","held"] (tQ K (kd3 c_Piece c_Push c_Hold) k):=iK (R18) (R19) (R20)
 have bS:∀k,aR K (kd3 _ _ _ k) ["self","fall","held"] []:=iK (b18) (b19) (b20)
 have mS:∀k,gD K (kd3 c_Piece c_Push c_Hold k) "stream" (kd3 f18 f19 f20 k):=iK (⟨a18_0,i18,k18⟩) (⟨a19_0,i19,k19⟩) (⟨a20_0,i20,k20⟩)
 have R21:=Xz (P:=l.prog) (w:=w) (K:=K) (mg:=mg) (base:=base) (CX:=CX0) F21 fN mv_NOUGHT (Au R8) b8 k8 m8 R3 b3 k3 m3
 have R22:=Wi (P:=l.prog) (w:=w) (K:=K) (mg:=mg) (base:=base) (CX:=CX0) F22  R1 b1 k1 m1
 have R23:=Xb (P:=l.prog) (w:=w) (K:=K) (mg:=mg) (base:=base) (CX:=CX0) F23 (Au R8) b8 k8 m8 R21 b21 k21 m21
 have R24:=Ya (P:=l.prog) (w:=w) (K:=K) (mg:=mg) (base:=base) (CX:=CX0) F24 n_all R22 b22 k22 m22
 have R25:=Xe (P:=l.prog) (w:=w) (K:=K) (mg:=mg) (base:=base) (CX:=CX0) F25  R22 b22 k22 m22
 have R26:=Nu (P:=l.prog) (w:=w) (K:=K) (mg:=mg) (base:=base) (CX:=CX0) F26 NTx mv_MOST_POINTS R1 b1 k1 m1
 have R27:=Qu (P:=l.prog) (w:=w) (K:=K) (mg:=mg) (base:=base) (CX:=CX0) F27 NTx
 have R28:=Mc (P:=l.prog) (w:=w) (K:=K) (mg:=mg) (base:=base) (CX:=CX0) F28 NTx n_list
 have R29:=Tw (P:=l.prog) (w:=w) (K:=K) (mg:=mg) (base:=base) (CX:=CX0) F29 NTx mv_MOST_ROWS n_len T R16 b16 mT R24 b24 k24 m24 R23 b23 k23 m23
 have R30:=Ik (P:=l.prog) (w:=w) (K:=K) (mg:=mg) (base:=base) (CX:=CX0) F30 NTx n_len R25 b25 k25 m25 R23 b23 k23 m23
 have R31:=Og (P:=l.prog) (w:=w) (K:=K) (mg:=mg) (base:=base) (CX:=CX0) F31 NTx R17 b17 k17 m17
 have MN:Mk K c_Net f26:=⟨mk_Net,a26_0,i26,kc_Net⟩
 have R32:=Rj (P:=l.prog) (w:=w) (K:=K) (mg:=mg) (base:=base) (CX:=CX0) F32 T R5 b5 k5 m5
 have R33:=Hm (P:=l.prog) (w:=w) (K:=K) (mg:=mg) (base:=base) (CX:=CX0) F33 T
 have R34:=Lg (P:=l.prog) (w:=w) (K:=K) (mg:=mg) (base:=base) (CX:=CX0) F34 n_list n_range NTx T GJ bJ mJ R27 b27 ⟨a27_0,i27,k27⟩ R31 b31 ⟨a31_0,i31,k31⟩ R33 b33 k33 m33
 have R35:=Jk (P:=l.prog) (w:=w) (K:=K) (mg:=mg) (base:=base) (CX:=CX0) F35 n_enumerate R34 b34 k34 m34
 have R36:=Mp (P:=l.prog) (w:=w) (K:=K) (mg:=mg) (base:=base) (CX:=CX0) F36 T
 have R37:=Uj (P:=l.prog) (w:=w) (K:=K) (mg:=mg) (base:=base) (CX:=CX0) F37 n_len R36 b36 k36 m36
 have R38:=Nw (P:=l.prog) (w:=w) (K:=K) (mg:=mg) (base:=base) (CX:=CX0) F38 NTx T n_enumerate fJ mv_JOINING_WORDS GW bW mW R31 b31 ⟨a31_0,i31,k31⟩ R37 b37 k37 m37
 have R39:=Nd (P:=l.prog) (w:=w) (K:=K) (mg:=mg) (base:=base) (CX:=CX0) F39  R6 b6 k6 m6
 have R40:=Kc (P:=l.prog) (w:=w) (K:=K) (mg:=mg) (base:=base) (CX:=CX0) F40 T fN mv_NOUGHT R39 b39 k39 m39 R5 b5 k5 m5
 have R41:=Iu (P:=l.prog) (w:=w) (K:=K) (mg:=mg) (base:=base) (CX:=CX0) F41 T fN mv_NOUGHT fO mv_ONE R7 b7 k7 m7 R40 b40 k40 m40 R5 b5 k5 m5
 have R42:=Ip (P:=l.prog) (w:=w) (K:=K) (mg:=mg) (base:=base) (CX:=CX0) F42 T fN mv_NOUGHT R39 b39 k39 m39 R5 b5 k5 m5
 have R43:=Iy (P:=l.prog) (w:=w) (K:=K) (mg:=mg) (base:=base) (CX:=CX0) F43 T fN mv_NOUGHT fO mv_ONE R40 b40 k40 m40 R39 b39 k39 m39 R5 b5 k5 m5
 have R44:=Vn (P:=l.prog) (w:=w) (K:=K) (mg:=mg) (base:=base) (CX:=CX0) F44 NTx T n_len n_range fN mv_NOUGHT GW bW mW R31 b31 ⟨a31_0,i31,k31⟩ R27 b27 ⟨a27_0,i27,k27⟩ R41 b41 k41 m41 R42 b42 k42 m42 R43 b43 k43 m43
 have R45:=Vz (P:=l.prog) (w:=w) (K:=K) (mg:=mg) (base:=base) (CX:=CX0) F45  R2 b2 k2 m2
 have R46:=Vg (P:=l.prog) (w:=w) (K:=K) (mg:=mg) (base:=base) (CX:=CX0) F46 n_len n_range
 have R47:=Uh (P:=l.prog) (w:=w) (K:=K) (mg:=mg) (base:=base) (CX:=CX0) F47 n_zip
 have R48:=Cu (P:=l.prog) (w:=w) (K:=K) (mg:=mg) (base:=base) (CX:=CX0) F48 n_enumerate R47 b47 k47 m47
 have R49:=Qm (P:=l.prog) (w:=w) (K:=K) (mg:=mg) (base:=base) (CX:=CX0) F49 n_range n_list R46 b46 k46 m46 R48 b48 k48 m48
 have R50:=Gs (P:=l.prog) (w:=w) (K:=K) (mg:=mg) (base:=base) (CX:=CX0) F50 n_len n_zip R45 b45 k45 m45 R49 b49 k49 m49 R4 b4 k4 m4
 have R51:=Su (P:=l.prog) (w:=w) (K:=K) (mg:=mg) (base:=base) (CX:=CX0) F51 n_len R38 b38 k38 m38 R35 b35 k35 m35
 have R52:=Mo (P:=l.prog) (w:=w) (K:=K) (mg:=mg) (base:=base) (CX:=CX0) F52 T fN mv_NOUGHT GW bW mW GS bS mS R32 b32 k32 m32
 have R53:=Js (P:=l.prog) (w:=w) (K:=K) (mg:=mg) (base:=base) (CX:=CX0) F53 ABx NTx fN mv_NOUGHT R31 b31 ⟨a31_0,i31,k31⟩ R27 b27 ⟨a27_0,i27,k27⟩ R51 b51 k51 m51 R44 b44 k44 m44 R50 b50 k50 m50 R52 b52 k52 m52
 have MA:Mk K c_Answer f53:=⟨mk_Answer,a53_0,i53,kc_Answer⟩
 have R54:=Lp (P:=l.prog) (w:=w) (K:=K) (mg:=mg) (base:=base) (CX:=CX0) F54 ABx n_len R24 b24 k24 m24 R5 b5 k5 m5
 have R55:=Td (P:=l.prog) (w:=w) (K:=K) (mg:=mg) (base:=base) (CX:=CX0) F55 NTx fN mv_NOUGHT R27 b27 ⟨a27_0,i27,k27⟩ R50 b50 k50 m50
 have R56:=Th (P:=l.prog) (w:=w) (K:=K) (mg:=mg) (base:=base) (CX:=CX0) F56 T n_len fN mv_NOUGHT fO mv_ONE R9 b9 MK R44 b44 k44 m44 R42 b42 k42 m42 R55 b55 k55 m55
 have R57:=Vc (P:=l.prog) (w:=w) (K:=K) (mg:=mg) (base:=base) (CX:=CX0) F57 NTx R27 b27 ⟨a27_0,i27,k27⟩ R24 b24 k24 m24 R51 b51 k51 m51 R56 b56 k56 m56 R5 b5 k5 m5
 have R58:=Oq (P:=l.prog) (w:=w) (K:=K) (mg:=mg) (base:=base) (CX:=CX0) F58
 have R59:=Ub (P:=l.prog) (w:=w) (K:=K) (mg:=mg) (base:=base) (CX:=CX0) F59 n_range
 have R60:=Rc (P:=l.prog) (w:=w) (K:=K) (mg:=mg) (base:=base) (CX:=CX0) F60 n_range
 have R61:=Tb (P:=l.prog) (w:=w) (K:=K) (mg:=mg) (base:=base) (CX:=CX0) F61 n_range
 have R62:=Gq (P:=l.prog) (w:=w) (K:=K) (mg:=mg) (base:=base) (CX:=CX0) F62 bl
 have R63:=Pu (P:=l.prog) (w:=w) (K:=K) (mg:=mg) (base:=base) (CX:=CX0) F63 bl n_len n_tuple
 have R64:=Ra (P:=l.prog) (w:=w) (K:=K) (mg:=mg) (base:=base) (CX:=CX0) F64  R59 b59 k59 m59 R61 b61 k61 m61 R62 b62 k62 m62
 have R65:=Mi (P:=l.prog) (w:=w) (K:=K) (mg:=mg) (base:=base) (CX:=CX0) F65 NTx R29 b29 ⟨a29_0,i29,k29⟩ R26 b26 MN R17 b17 k17 m17
 have R66:=Vr (P:=l.prog) (w:=w) (K:=K) (mg:=mg) (base:=base) (CX:=CX0) F66 n_len R59 b59 k59 m59 R62 b62 k62 m62 R64 b64 k64 m64
 have R67:=Qp (P:=l.prog) (w:=w) (K:=K) (mg:=mg) (base:=base) (CX:=CX0) F67 n_range n_len R58 b58 k58 m58 R59 b59 k59 m59 R66 b66 k66 m66
 have R68:=Om (P:=l.prog) (w:=w) (K:=K) (mg:=mg) (base:=base) (CX:=CX0) F68 n_list n_range
 have R69:=Ld (P:=l.prog) (w:=w) (K:=K) (mg:=mg) (base:=base) (CX:=CX0) F69  R65 b65 k65 m65
 have R70:=Jf (P:=l.prog) (w:=w) (K:=K) (mg:=mg) (base:=base) (CX:=CX0) F70 ABx R53 b53 MA R54 b54 ⟨a54_0,i54,k54⟩ R69 b69 k69 m69 R57 b57 k57 m57 R63 b63 k63 m63 R68 b68 k68 m68
 exact Us (P:=l.prog) (w:=w) (K:=K) (mg:=mg) (base:=base) (CX:=CX0) F71 NTx n_len n_range R28 b28 ⟨a28_0,i28,k28⟩ R30 b30 ⟨a30_0,i30,k30⟩ R58 b58 k58 m58 R67 b67 k67 m67 R65 b65 k65 m65 R70 b70 k70 m70 R59 b59 k59 m59 R57 b57 k57 m57 R63 b63 k63 m63 R60 b60 k60 m60 R62 b62 k62 m62
theorem Yi {l:PySem.W.OpenLaw} {q:Program} {loose:List Str} {XP:(Str→Option Value)→Heap→Prop} {YP:World→Heap→Prop} {d:DefRec} {K:Params→PySem.W.Frag} (hn:l.most=some 63) (hdf:d.params.defaults=[])
  (hY:∀(w:World) (h:Heap),YP w h→(K w.params).In h)
  (F:∀(w:World) (mg:Str→Option Value) (fa:Addr) (h:Heap),(K w.params).In h→h.Ns mainGlobals mg→mg d.name=some (.ref fa)→
   ∃fd:FuncData,(∀(s:Shared) (u:Value),BindsTo s fd ⟨[u],[]⟩ [("_law_script",u)])∧∀base:Heap,(K w.params).In base→base.Ns mainGlobals mg→aP l.prog w (K w.params) mg base CX0 11 fa fd ["_law_script"] (Fl (K w.params))) :
  PySem.W.WalkO q loose XP YP l.row.toRowW d [] (fun f vs=>PySem.call f vs):=
 L2.Re (n:=63) (k:=11) (x:="_law_script") (CX:=fun _=>CX0) (sp:=fun w=>Fl (K w.params)) hn (by decide) hdf ⟨rfl,by decide,by decide⟩ hY F (fun _ _ a ns hl _ hS=>⟨a,ns,rfl,hS,hl,fun _=>rfl⟩) fun _ _ _ _ _ z=>z
end K66
namespace PySem.W.Fast
def tw16982673704238116683:=0
def tw16316169165757368743:=0
def tw4116348531519349907:=0
def tw17731751533489068038:=0
def tw17012262993216725223:=0
def tw9071200400483265095:=0
def tw13516855701205328489:=0
def tw18199199393756593427:=0
def tw4361244888908759210:=0
def tw17460555405726199229:=0
def tw12557076774060992096:=0
def tw16338841642818677308:=0
def tw5694900310678933466:=0
def tw13892777372226556458:=0
def tw4857822327329034308:=0
def tw12222385864072719524:=0
def tw12100808320828016891:=0
def tw15695691460041254740:=0
def tw18408565711704514428:=0
def tw6593218067697091903:=0
def tw6383613767537409351:=0
def tw6653614847479332299:=0
def tw4840352658730759703:=0
def tw13083605952374864858:=0
def tw14639918377998836946:=0
def tw2357699103917281532:=0
def tw11929104809166678307:=0
def tw15818891157507532502:=0
def tw10021409231081099004:=0
def tw7881702426143534446:=0
def tw1257869928802004007:=0
def tw8279048052304997140:=0
def tw12987479929704430505:=0
def tw1253723356269307619:=0
def tw12011977931958644389:=0
def tw14709050903858052897:=0
def tw6369701391078176269:=0
def tw13583850554981102329:=0
def tw5761238894108590699:=0
def tw16559367164766571159:=0
def tw14805960604799723372:=0
def tw9492790025295263827:=0
def tw9441101011431540229:=0
def tw17919798234925485805:=0
def tw6230305082013317437:=0
def tw17019782213231184732:=0
def tw16164119586277174412:=0
def tw11397559911027543414:=0
def tw14005476435694234435:=0
def tw2352675290709153516:=0
def tw8323976683111812978:=0
def tw3460413502287899926:=0
def tw615732821497950654:=0
def tw4959011824708922615:=0
def tw10272022908641621459:=0
def tw2765606037955753392:=0
def tw12037548835826057033:=0
def tw2424420923663415031:=0
def tw6852820048866116119:=0
def tw9800840027529434462:=0
def tw6032552482484127719:=0
def tw15022513754806745186:=0
def tw2465370195468656534:=0
def tw1274247783819701353:=0
def tw17920821231799742193:=0
def tw9145328502619847615:=0
def tw17685566505691489718:=0
def tw13087597057769918150:=0
def tw13851385984935960571:=0
def tw12891502535855669182:=0
def tw1891221565553081036:=0
def tw2039018183769620923:=0
def tw2889167038761103145:=0
def tw7882414471463188731:=0
def tw5702298865616259628:=0
def tw18090005536252256882:=0
def tw10200379071478674790:=0
def tw15315761986091568812:=0
def tw3389254841520215239:=0
def tw5175691646395556313:=0
def tw15329057455388222680:=0
def tw12475033387306763580:=0
def tw17213870738403904937:=0
def tw1702868389363088649:=0
def tw14348522480396757682:=0
def tw5701676528134418314:=0
def tw320503266027565921:=0
def tw8800498953117952640:=0
def tw13298518810664790706:=0
def tw5453853246002239527:=0
def tw5001287044630852488:=0
def tw2828071390312580629:=0
def tw10202457400150309729:=0
def tw3233822838277999489:=0
def tw16251998684881259494:=0
def tw2683768904378263508:=0
def tw1937236677679481464:=0
def tw12937035518209461036:=0
def tw7323691430598796494:=0
def tw2039275771584140911:=0
def tw8670536718186825781:=0
def tw5359950043413780885:=0
def tw12611969834234816563:=0
def tw7595084650008258311:=0
def tw4087847493606512345:=0
def tw7936917153718579411:=0
def tw2184828024590427911:=0
def tw11216899485572684579:=0
def tw12755860551822855486:=0
def tw8812395406117635707:=0
def tw17714479968215532885:=0
def tw11717686422304161526:=0
def tw4044190824289759154:=0
def tw3026941086421687417:=0
def tw2565625913997002670:=0
def tw10798265139904310093:=0
def tw4704212786891712561:=0
def tw7147777403615570600:=0
def tw15232291507398843480:=0
def tw4860861925978668054:=0
def tw981813560652457152:=0
def tw6085977349083333774:=0
def tw14963437708167145811:=0
def tw14022434615910036833:=0
def tw14524178145601023883:=0
def tw13807457316795338379:=0
def tw7455325347734359236:=0
def tw4475871987287943897:=0
def tw9037913829596772231:=0
def tw6223413014219681310:=0
def tw11758418479619859700:=0
def tw9685333377386376823:=0
def tw15747734973326278511:=0
def tw1985273512872954086:=0
def tw2164907205714335332:=0
def tw11337216770026276712:=0
def tw10328982373990246582:=0
def tw14671533646957371028:=0
def tw3446753282971781451:=0
def tw18298395777270067666:=0
def tw4072429238847052933:=0
def tw1570897050373050769:=0
def tw9421352172450952761:=0
def tw3452039987329636191:=0
def tw3451864458020887103:=0
def tw4727519638350089959:=0
def tw6841962038482876858:=0
def tw6321684826420422263:=0
def tw14225856445228697030:=0
def tw8544731007617143488:=0
def tw7613905410615982730:=0
def tw2263220160438295441:=0
def tw12142509105560775033:=0
def tw12413970078281839696:=0
def tw15867105446764226650:=0
def tw8182505844414712718:=0
def tw4553807889238141885:=0
def tw7849025055321166845:=0
def tw3493435794712053173:=0
def tw2393810414300663475:=0
def tw3627682637604457458:=0
def tw11003204106976624001:=0
def tw8844163814915841589:=0
def tw17280401883822025776:=0
def tw16097010473354449778:=0
def tw2073550728452267427:=0
def tw17730452802350514808:=0
def tw4745392495941732251:=0
def tw6556501853832363285:=0
def tw8771646495378440181:=0
def tw3456677865162085797:=0
def tw7563888417842000117:=0
def tw9708452293338405370:=0
def tw14852633499546796010:=0
def tw7155493219295943241:=0
def tw5053198720507531264:=0
def tw13169663703279844013:=0
def tw7915467291507882645:=0
def tw18262936343707658606:=0
def tw220531202474537142:=0
def tw8271846822061355310:=0
def tw12860159373469546891:=0
def tw9321173576815342708:=0
def tw6629027818429695572:=0
def tw15434051341442822447:=0
def tw2911866542417309916:=0
def tw15510759570823793459:=0
def tw5711792154532312799:=0
def tw2291474941565353181:=0
def tw11237155319318555069:=0
def tw7448133991090361677:=0
def tw12496907381099038936:=0
def tw7311247777145789055:=0
def tw17584001787894097649:=0
def tw6894994511012601456:=0
def tw113891382323384548:=0
def tw16961822631296238299:=0
def tw16743990021540561710:=0
def tw6863135137288181825:=0
def tw12355283281683498766:=0
def tw7153439067559200336:=0
def tw5232693056344534535:=0
def tw5354525576066596562:=0
def tw8977345905770759483:=0
def tw955641116944684874:=0
def tw14534191802910675164:=0
def tw12961846643446453778:=0
def tw14908651220743825554:=0
def tw17446813021504142082:=0
def tw15659198411772214081:=0
def tw8540511903722471237:=0
def tw12050143304844258195:=0
def tw12444301694204781630:=0
def tw1801168335232744947:=0
def tw1231946309759523654:=0
def tw4899743364630018111:=0
def tw5514577013285649549:=0
def tw9334941969443950752:=0
def tw8539499166914186733:=0
def tw9957537513806977128:=0
def tw4258887501819574822:=0
def tw8348646145576719010:=0
def tw17547557076313266224:=0
def tw15408097503350687117:=0
def tw5109041779137473863:=0
def tw11795582662839475052:=0
def tw10852280299594329512:=0
def tw2966847048423075834:=0
def tw1491565477680797202:=0
def tw10223522281162262619:=0
def tw9370476150041152671:=0
def tw16214542220930905539:=0
def tw4428371735153888631:=0
def tw8709853794542762850:=0
def tw8467149116257245453:=0
def tw8502485005109239349:=0
def tw7637445461390545701:=0
def tw1793273724229029861:=0
def tw10401273213552631028:=0
def tw966038685623141326:=0
def tw13748100520525811166:=0
def tw15194180119101408634:=0
def tw7097580714212099270:=0
def tw7197659198795858802:=0
def tw2372138378953337997:=0
def tw13045487718235830638:=0
def tw15516848688726679202:=0
def tw10104658129648110176:=0
def tw10101808084690446031:=0
def tw7149458354117897819:=0
def tw4024714443565558931:=0
def tw4260246378196390144:=0
def tw11596561889567450706:=0
def tw16157687520454872827:=0
def tw190789909188064346:=0
def tw3180749231203897664:=0
def tw15345221419540212494:=0
def tw5031081022308755307:=0
def tw5907693815319991130:=0
def tw1062539593127372063:=0
def tw4717973043453570053:=0
def tw6556235110374859710:=0
def tw17858877976339398347:=0
def tw4729040885322724581:=0
def tw11118652262023445711:=0
def tw17306459353408462030:=0
def tw829304607361154160:=0
def tw636326011989625993:=0
def tw12631479710250516435:=0
def tw8058141093083415541:=0
def tw11006945668311581518:=0
def tw787772025235826781:=0
def tw2841701780666384895:=0
def tw639212428936642634:=0
def tw1774471169057464680:=0
def tw7710232301387895767:=0
def tw10557962355965380334:=0
def tw16364315835945491804:=0
def tw13941968985180199721:=0
def tw5444845282024203441:=0
def tw5370134099725880844:=0
def tw5509615594079840461:=0
def tw3554853790198664554:=0
def tw5321080355609482026:=0
def tw741599221586212688:=0
def tw13261823163025325401:=0
def tw13609172788528356123:=0
def tw2709557270442945955:=0
def tw989278651158239486:=0
def tw15284585524780430638:=0
def tw5320064455521754070:=0
def tw11726032897520456459:=0
def tw5062106119924472703:=0
def tw13611021653704395021:=0
def tw12455371502861643671:=0
def tw1058220399262423258:=0
def tw381596901816054077:=0
def tw1270849551786957061:=0
def tw9660709964548999011:=0
def tw6612352739913306439:=0
def tw14305724371425239655:=0
def tw10631550371677213037:=0
def tw8121811041804462929:=0
def tw6841733022310239685:=0
def tw8282022538659665099:=0
def tw2740309260709897449:=0
def tw15607620786999762970:=0
def tw5217507928848706386:=0
def tw10290042101689346119:=0
def tw11160391034140745289:=0
def tw5354231194889397438:=0
def tw17008767006312240537:=0
def tw2380554781227336771:=0
def tw1916872169539393127:=0
def tw4429651651268796283:=0
def tw4923789869238879799:=0
def tw6393075353460051790:=0
def tw2268292816132286413:=0
def tw10319487852043819761:=0
def tw9570318287698769773:=0
def tw7343720172076580733:=0
def tw12417056074472898978:=0
def tw3288560110948312389:=0
def tw9276742195739207361:=0
def tw6882604911433658240:=0
def tw15386183318811343764:=0
def tw8588986393684582331:=0
def tw5631275555647414725:=0
def tw4489870765804170408:=0
def tw10193238799198376235:=0
def tw15759656593008880497:=0
def tw10991788683651381403:=0
def tw2597018641834177488:=0
def tw8733530275201232756:=0
def tw16234180222345943583:=0
def tw16813970296066534368:=0
def tw18218418563571098934:=0
def tw12019395865948606870:=0
def tw16477521942016712010:=0
def tw3296537873361964974:=0
def tw2457186304823675093:=0
def tw18400089144294010524:=0
def tw7697166225773787670:=0
def tw4632752074433687921:=0
def tw12749096746219792960:=0
def tw4583956180302740930:=0
def tw12767156227379627970:=0
def tw18257084491363929036:=0
def tw10273392348143163505:=0
def tw8705030268263691301:=0
def tw885168429900208011:=0
def tw10155733747384200949:=0
def tw2656507497708924155:=0
def tw7544726777992192000:=0
def tw7588630467409601102:=0
def tw11973549200479561101:=0
def tw10956834518220922561:=0
def tw9988619221845989885:=0
def tw3768580586073211283:=0
def tw4116742414622127846:=0
def tw18277321682337976796:=0
def tw7963761785373768588:=0
def tw16117637702189964681:=0
def tw5840138158940437795:=0
def tw12997175554187005779:=0
def tw16313912812184793014:=0
def tw12170667366105588008:=0
def tw15853279060678295475:=0
def tw5632815165063972688:=0
def tw3405617499952688376:=0
def tw12600190164297853807:=0
def tw15596050585853847769:=0
def tw3012902504772067896:=0
def tw13530251219669702064:=0
def tw16799698949009842256:=0
def tw14609465554567909959:=0
def tw3212476155951063981:=0
def tw3026909957983692911:=0
def tw6850285447044268732:=0
def tw18090656780889518047:=0
def tw14611753147826937365:=0
def tw12186857693197013660:=0
def tw11946803219657950091:=0
def tw10400565433716775573:=0
def tw3255908313345669667:=0
def tw12401496422001999869:=0
def tw9751271269241277069:=0
def tw13646540101137935074:=0
def tw13679979358065118477:=0
def tw4817080699843076760:=0
def tw18192207419787609390:=0
def tw8808287405612983470:=0
def tw4099181730379001813:=0
def tw18383621194329045076:=0
def tw15758970119481622057:=0
def tw1424977642149899509:=0
def tw774238715599492328:=0
def tw1023449446932038735:=0
def tw18326903846212467156:=0
def tw11519272335191210927:=0
def tw14087931476590700376:=0
def tw2715615360262908024:=0
def tw14289820467317098816:=0
def tw1970629963014510852:=0
def tw11261248827304783598:=0
def tw16890613018448315173:=0
def tw10759531445918242355:=0
def tw16745699449795280230:=0
def tw14003348588027620867:=0
def tw11806850045174039645:=0
def tw234032959461799032:=0
def tw5794242458722459015:=0
def tw4700932569300538858:=0
def tw15357327885968200048:=0
def tw7057310792150739573:=0
def tw11923254693929746760:=0
def tw4957619147315601590:=0
def tw10143829768935385415:=0
def tw2550201097400990566:=0
def tw13728127085200481275:=0
def tw57287772254094:=0
def tw8539275745000021833:=0
def tw5630603457518364602:=0
def tw9354213086455525577:=0
def tw13716148903838142986:=0
def tw14381519480459816109:=0
def tw6925023025476258116:=0
def tw5994060827782361978:=0
def tw1867007708244686370:=0
def tw12318456250275029983:=0
def tw1215520683899805095:=0
def tw13049260324648866326:=0
def tw4335583073150332065:=0
def tw13791454016841142184:=0
def tw17292119401285682146:=0
def tw10095750260294464245:=0
def tw4018971877314213322:=0
def tw9981458034365218490:=0
def tw13477573760047870590:=0
def tw11705165373657584928:=0
def tw7188398913749954838:=0
def tw11580589947629577381:=0
def tw2448616033996320832:=0
def tw12770425557752260000:=0
def tw17029495793464463591:=0
def tw10960475164953696089:=0
def tw1571116416591718177:=0
def tw16339166136839611078:=0
def tw2060083089304591225:=0
def tw12670546143979850442:=0
def tw1609717908570812676:=0
def tw8889743477559204257:=0
def tw9021529478967138022:=0
def tw10299730469035645340:=0
def tw4155689660505239061:=0
def tw15529953676075656948:=0
def tw14573674601395124215:=0
def tw14338577492743000088:=0
def tw10877787247660440321:=0
def tw8499220234875371530:=0
def tw6791429302449853168:=0
def tw11172419211468520848:=0
def tw8560557387504553226:=0
def tw10655960815883988804:=0
def tw3221855861089809329:=0
def tw12418968852746125591:=0
def tw16527757223311854682:=0
def tw7449262038751295731:=0
def tw4671928592972450166:=0
def tw9588247911048663503:=0
def tw5841565939936162588:=0
def tw12214222931968184619:=0
def tw4598330871022841252:=0
def tw5712169867665597455:=0
def tw14347704686108488764:=0
def tw4868137917379090786:=0
def tw2866854795702299110:=0
def tw16696961209064484573:=0
def tw15110834736499883420:=0
def tw3063508131709557612:=0
def tw18367502627866022468:=0
def tw5643181627647710567:=0
def tw16567470152424650380:=0
def tw2052098665768425520:=0
def tw3091859947482805522:=0
def tw787054448859465477:=0
def tw7851616189370005615:=0
def tw12135611321772697156:=0
def tw13045606948678348939:=0
def tw14562383918807390827:=0
def tw7003172109689101265:=0
def tw8360386710035443673:=0
def tw15673339006412186131:=0
def tw17810942446738581110:=0
def tw8333038536754555140:=0
def tw12305193951509209132:=0
def tw2585965586979933011:=0
def tw8408766922917893777:=0
def tw15358494530880925095:=0
def tw13485211573107747693:=0
def tw293842194214740725:=0
def tw410024488279667165:=0
def tw12986466714724755845:=0
end PySem.W.Fast
open PySem PySem.W PyProof.Rows
set_option maxRecDepth 100000 in
set_option maxHeartbeats 0 in
theorem PySem.Challenge.cw_ohmyard_k66_between_holds : PySem.Challenge.rw_ohmyard_k66_between.Holds := by
  w_on; o_law; z_head; (case hw => w_witness2)
  k_fill
  refine L2.Of (fun _ => by kernel_rfl) (K66.Yi (l := PySem.Challenge.rw_ohmyard_k66_between) rfl rfl (fun w h Y => Y) ?F)
  case F =>
    intro w mg fa h KX G hmg
    refine' K66.Ud KX G hmg ?y_Row ?y_Piece ?y_Push ?y_Hold ?y_Net ?y_Answer ?a1 ?l1 ?c1 ?k1 ?a2 ?l2 ?c2 ?k2 ?a3 ?l3 ?c3 ?k3 ?a4 ?l4 ?c4 ?k4 ?lt4 ?a5 ?l5 ?c5 ?k5 ?a6 ?l6 ?c6 ?k6 ?a7 ?l7 ?c7 ?k7 ?a8 ?l8 ?c8 ?k8 ?a9_0 ?a9_1 ?a9_2 ?i9 ?l9 ?c9 ?k9 ?a10_0 ?i10 ?l10 ?c10 ?k10 ?a11_0 ?i11 ?l11 ?c11 ?k11 ?a12_0 ?i12 ?l12 ?c12 ?k12 ?a13_0 ?i13 ?l13 ?c13 ?k13 ?a14_0 ?i14 ?l14 ?c14 ?k14 ?a15_0 ?i15 ?l15 ?c15 ?k15 ?a16_0 ?a16_1 ?a16_2 ?i16 ?l16 ?c16 ?k16 ?a17 ?l17 ?c17 ?k17 ?a18_0 ?i18 ?l18 ?c18 ?k18 ?a19_0 ?i19 ?l19 ?c19 ?k19 ?a20_0 ?i20 ?l20 ?c20 ?k20 ?a21 ?l21 ?c21 ?k21 ?a22 ?l22 ?c22 ?k22 ?a23 ?l23 ?c23 ?k23 ?a24 ?l24 ?c24 ?k24 ?a25 ?l25 ?c25 ?k25 ?a26_0 ?i26 ?l26 ?c26 ?k26 ?a27_0 ?i27 ?l27 ?c27 ?k27 ?a28_0 ?i28 ?l28 ?c28 ?k28 ?a29_0 ?i29 ?l29 ?c29 ?k29 ?a30_0 ?i30 ?l30 ?c30 ?k30 ?a31_0 ?i31 ?l31 ?c31 ?k31 ?a32 ?l32 ?c32 ?k32 ?a33 ?l33 ?c33 ?k33 ?a34 ?l34 ?c34 ?k34 ?a35 ?l35 ?c35 ?k35 ?a36 ?l36 ?c36 ?k36 ?a37 ?l37 ?c37 ?k37 ?a38 ?l38 ?c38 ?k38 ?lt38 ?a39 ?l39 ?c39 ?k39 ?a40 ?l40 ?c40 ?k40 ?a41 ?l41 ?c41 ?k41 ?a42 ?l42 ?c42 ?k42 ?a43 ?l43 ?c43 ?k43 ?a44 ?l44 ?c44 ?k44 ?a45 ?l45 ?c45 ?k45 ?a46 ?l46 ?c46 ?k46 ?a47 ?l47 ?c47 ?k47 ?a48 ?l48 ?c48 ?k48 ?a49 ?l49 ?c49 ?k49 ?a50 ?l50 ?c50 ?k50 ?a51 ?l51 ?c51 ?k51 ?a52 ?l52 ?c52 ?k52 ?a53_0 ?i53 ?l53 ?c53 ?k53 ?a54_0 ?i54 ?l54 ?c54 ?k54 ?a55 ?l55 ?c55 ?k55 ?a56 ?l56 ?c56 ?k56 ?a57 ?l57 ?c57 ?k57 ?a58 ?l58 ?c58 ?k58 ?a59 ?l59 ?c59 ?k59 ?a60 ?l60 ?c60 ?k60 ?a61 ?l61 ?c61 ?k61 ?a62 ?l62 ?c62 ?k62 ?a63 ?l63 ?c63 ?k63 ?a64 ?l64 ?c64 ?k64 ?a65 ?l65 ?c65 ?k65 ?a66 ?l66 ?c66 ?k66 ?a67 ?l67 ?c67 ?k67 ?a68 ?l68 ?c68 ?k68 ?a69 ?l69 ?c69 ?k69 ?a70 ?l70 ?c70 ?k70 ?a71 ?l71 ?c71 ?k71 ?v_ONE ?v_NOUGHT ?v_JOINING_WORDS ?v_MOST_POINTS ?v_MOST_ROWS ?lO ?lN ?lJ ?pg_Piece ?hd_Piece ?po_Piece ?sa_Piece ?mk_Piece ?kc_Piece ?t1_Piece ?t4_Piece ?na_Piece_start ?na_Piece_goal ?na_Piece_size ?pg_Push ?hd_Push ?po_Push ?sa_Push ?mk_Push ?kc_Push ?t1_Push ?t4_Push ?na_Push_start ?na_Push_goal ?na_Push_size ?pg_Hold ?hd_Hold ?po_Hold ?sa_Hold ?mk_Hold ?kc_Hold ?t1_Hold ?t4_Hold ?na_Hold_start ?na_Hold_goal ?na_Hold_size ?tt2 ?tt3 ?isR_Piece ?isR_Push ?isR_Hold ?isK_Piece_Push ?isK_Piece_Hold ?isK_Push_Piece ?isK_Push_Hold ?isK_Hold_Piece ?isK_Hold_Push ?pg_Net ?hd_Net ?po_Net ?sa_Net ?mk_Net ?kc_Net ?t1_Net ?t4_Net ?na_Net_point_count ?na_Net_kept ?pg_Answer ?hd_Answer ?po_Answer ?sa_Answer ?mk_Answer ?kc_Answer ?t1_Answer ?t4_Answer ?na_Answer_lines ?na_Answer_levels ?na_Answer_flows ?z1 ?z2 ?z3 ?z4 ?z5 ?z6 ?z7 ?z8 ?z9 ?z10 ?z11 ?z12
    (case y_Row=>k_is)
    (case y_Piece=>k_is)
    (case y_Push=>k_is)
    (case y_Hold=>k_is)
    (case y_Net=>k_is)
    (case y_Answer=>k_is)
    (case a1=>k_is);(case l1=>k_is);(case c1=>k_is);(case k1=>k_is)
    (case a2=>k_is);(case l2=>k_is);(case c2=>k_is);(case k2=>k_is)
    (case a3=>k_is);(case l3=>k_is);(case c3=>k_is);(case k3=>k_is)
    (case a4=>k_is);(case l4=>k_is);(case c4=>k_is);(case k4=>k_is);(case lt4=>k_is)
    (case a5=>k_is);(case l5=>k_is);(case c5=>k_is);(case k5=>k_is)
    (case a6=>k_is);(case l6=>k_is);(case c6=>k_is);(case k6=>k_is)
    (case a7=>k_is);(case l7=>k_is);(case c7=>k_is);(case k7=>k_is)
    (case a8=>k_is);(case l8=>k_is);(case c8=>k_is);(case k8=>k_is)
    (case a9_0=>k_is);(case a9_1=>k_is);(case a9_2=>k_is);(case i9=>k_is);(case l9=>k_is);(case c9=>k_is);(case k9=>k_is)
    (case a10_0=>k_is);(case i10=>k_is);(case l10=>k_is);(case c10=>k_is);(case k10=>k_is)
    (case a11_0=>k_is);(case i11=>k_is);(case l11=>k_is);(case c11=>k_is);(case k11=>k_is)
    (case a12_0=>k_is);(case i12=>k_is);(case l12=>k_is);(case c12=>k_is);(case k12=>k_is)
    (case a13_0=>k_is);(case i13=>k_is);(case l13=>k_is);(case c13=>k_is);(case k13=>k_is)
    (case a14_0=>k_is);(case i14=>k_is);(case l14=>k_is);(case c14=>k_is);(case k14=>k_is)
    (case a15_0=>k_is);(case i15=>k_is);(case l15=>k_is);(case c15=>k_is);(case k15=>k_is)
    (case a16_0=>k_is);(case a16_1=>k_is);(case a16_2=>k_is);(case i16=>k_is);(case l16=>k_is);(case c16=>k_is);(case k16=>k_is)
    (case a17=>k_is);(case l17=>k_is);(case c17=>k_is);(case k17=>k_is)
    (case a18_0=>k_is);(case i18=>k_is);(case l18=>k_is);(case c18=>k_is);(case k18=>k_is)
    (case a19_0=>k_is);(case i19=>k_is);(case l19=>k_is);(case c19=>k_is);(case k19=>k_is)
    (case a20_0=>k_is);(case i20=>k_is);(case l20=>k_is);(case c20=>k_is);(case k20=>k_is)
    (case a21=>k_is);(case l21=>k_is);(case c21=>k_is);(case k21=>k_is)
    (case a22=>k_is);(case l22=>k_is);(case c22=>k_is);(case k22=>k_is)
    (case a23=>k_is);(case l23=>k_is);(case c23=>k_is);(case k23=>k_is)
    (case a24=>k_is);(case l24=>k_is);(case c24=>k_is);(case k24=>k_is)
    (case a25=>k_is);(case l25=>k_is);(case c25=>k_is);(case k25=>k_is)
    (case a26_0=>k_is);(case i26=>k_is);(case l26=>k_is);(case c26=>k_is);(case k26=>k_is)
    (case a27_0=>k_is);(case i27=>k_is);(case l27=>k_is);(case c27=>k_is);(case k27=>k_is)
    (case a28_0=>k_is);(case i28=>k_is);(case l28=>k_is);(case c28=>k_is);(case k28=>k_is)
    (case a29_0=>k_is);(case i29=>k_is);(case l29=>k_is);(case c29=>k_is);(case k29=>k_is)
    (case a30_0=>k_is);(case i30=>k_is);(case l30=>k_is);(case c30=>k_is);(case k30=>k_is)
    (case a31_0=>k_is);(case i31=>k_is);(case l31=>k_is);(case c31=>k_is);(case k31=>k_is)
    (case a32=>k_is);(case l32=>k_is);(case c32=>k_is);(case k32=>k_is)
    (case a33=>k_is);(case l33=>k_is);(case c33=>k_is);(case k33=>k_is)
    (case a34=>k_is);(case l34=>k_is);(case c34=>k_is);(case k34=>k_is)
    (case a35=>k_is);(case l35=>k_is);(case c35=>k_is);(case k35=>k_is)
    (case a36=>k_is);(case l36=>k_is);(case c36=>k_is);(case k36=>k_is)
    (case a37=>k_is);(case l37=>k_is);(case c37=>k_is);(case k37=>k_is)
    (case a38=>k_is);(case l38=>k_is);(case c38=>k_is);(case k38=>k_is);(case lt38=>k_is)
    (case a39=>k_is);(case l39=>k_is);(case c39=>k_is);(case k39=>k_is)
    (case a40=>k_is);(case l40=>k_is);(case c40=>k_is);(case k40=>k_is)
    (case a41=>k_is);(case l41=>k_is);(case c41=>k_is);(case k41=>k_is)
    (case a42=>k_is);(case l42=>k_is);(case c42=>k_is);(case k42=>k_is)
    (case a43=>k_is);(case l43=>k_is);(case c43=>k_is);(case k43=>k_is)
    (case a44=>k_is);(case l44=>k_is);(case c44=>k_is);(case k44=>k_is)
    (case a45=>k_is);(case l45=>k_is);(case c45=>k_is);(case k45=>k_is)
    (case a46=>k_is);(case l46=>k_is);(case c46=>k_is);(case k46=>k_is)
    (case a47=>k_is);(case l47=>k_is);(case c47=>k_is);(case k47=>k_is)
    (case a48=>k_is);(case l48=>k_is);(case c48=>k_is);(case k48=>k_is)
    (case a49=>k_is);(case l49=>k_is);(case c49=>k_is);(case k49=>k_is)
    (case a50=>k_is);(case l50=>k_is);(case c50=>k_is);(case k50=>k_is)
    (case a51=>k_is);(case l51=>k_is);(case c51=>k_is);(case k51=>k_is)
    (case a52=>k_is);(case l52=>k_is);(case c52=>k_is);(case k52=>k_is)
    (case a53_0=>k_is);(case i53=>k_is);(case l53=>k_is);(case c53=>k_is);(case k53=>k_is)
    (case a54_0=>k_is);(case i54=>k_is);(case l54=>k_is);(case c54=>k_is);(case k54=>k_is)
    (case a55=>k_is);(case l55=>k_is);(case c55=>k_is);(case k55=>k_is)
    (case a56=>k_is);(case l56=>k_is);(case c56=>k_is);(case k56=>k_is)
    (case a57=>k_is);(case l57=>k_is);(case c57=>k_is);(case k57=>k_is)
    (case a58=>k_is);(case l58=>k_is);(case c58=>k_is);(case k58=>k_is)
    (case a59=>k_is);(case l59=>k_is);(case c59=>k_is);(case k59=>k_is)
    (case a60=>k_is);(case l60=>k_is);(case c60=>k_is);(case k60=>k_is)
    (case a61=>k_is);(case l61=>k_is);(case c61=>k_is);(case k61=>k_is)
    (case a62=>k_is);(case l62=>k_is);(case c62=>k_is);(case k62=>k_is)
    (case a63=>k_is);(case l63=>k_is);(case c63=>k_is);(case k63=>k_is)
    (case a64=>k_is);(case l64=>k_is);(case c64=>k_is);(case k64=>k_is)
    (case a65=>k_is);(case l65=>k_is);(case c65=>k_is);(case k65=>k_is)
    (case a66=>k_is);(case l66=>k_is);(case c66=>k_is);(case k66=>k_is)
    (case a67=>k_is);(case l67=>k_is);(case c67=>k_is);(case k67=>k_is)
    (case a68=>k_is);(case l68=>k_is);(case c68=>k_is);(case k68=>k_is)
    (case a69=>k_is);(case l69=>k_is);(case c69=>k_is);(case k69=>k_is)
    (case a70=>k_is);(case l70=>k_is);(case c70=>k_is);(case k70=>k_is)
    (case a71=>k_is);(case l71=>k_is);(case c71=>k_is);(case k71=>k_is)
    (case v_ONE=>k_is)
    (case v_NOUGHT=>k_is)
    (case v_JOINING_WORDS=>k_is)
    (case v_MOST_POINTS=>k_is)
    (case v_MOST_ROWS=>k_is)
    (case lO=>k_is)
    (case lN=>k_is)
    (case lJ=>k_is)
    (case pg_Piece=>k_is)
    (case hd_Piece=>k_is)
    (case po_Piece=>k_is)
    (case sa_Piece=>k_is)
    (case mk_Piece=>k_is)
    (case kc_Piece=>k_is)
    (case t1_Piece=>k_is)
    (case t4_Piece=>k_is)
    (case na_Piece_start=>k_is)
    (case na_Piece_goal=>k_is)
    (case na_Piece_size=>k_is)
    (case pg_Push=>k_is)
    (case hd_Push=>k_is)
    (case po_Push=>k_is)
    (case sa_Push=>k_is)
    (case mk_Push=>k_is)
    (case kc_Push=>k_is)
    (case t1_Push=>k_is)
    (case t4_Push=>k_is)
    (case na_Push_start=>k_is)
    (case na_Push_goal=>k_is)
    (case na_Push_size=>k_is)
    (case pg_Hold=>k_is)
    (case hd_Hold=>k_is)
    (case po_Hold=>k_is)
    (case sa_Hold=>k_is)
    (case mk_Hold=>k_is)
    (case kc_Hold=>k_is)
    (case t1_Hold=>k_is)
    (case t4_Hold=>k_is)
    (case na_Hold_start=>k_is)
    (case na_Hold_goal=>k_is)
    (case na_Hold_size=>k_is)
    (case tt2=>k_is)
    (case tt3=>k_is)
    (case isR_Piece=>kit_is)
    (case isR_Push=>kit_is)
    (case isR_Hold=>kit_is)
    (case isK_Piece_Push=>kit_is)
    (case isK_Piece_Hold=>kit_is)
    (case isK_Push_Piece=>kit_is)
    (case isK_Push_Hold=>kit_is)
    (case isK_Hold_Piece=>kit_is)
    (case isK_Hold_Push=>kit_is)
    (case pg_Net=>k_is)
    (case hd_Net=>k_is)
    (case po_Net=>k_is)
    (case sa_Net=>k_is)
    (case mk_Net=>k_is)
    (case kc_Net=>k_is)
    (case t1_Net=>k_is)
    (case t4_Net=>k_is)
    (case na_Net_point_count=>k_is)
    (case na_Net_kept=>k_is)
    (case pg_Answer=>k_is)
    (case hd_Answer=>k_is)
    (case po_Answer=>k_is)
    (case sa_Answer=>k_is)
    (case mk_Answer=>k_is)
    (case kc_Answer=>k_is)
    (case t1_Answer=>k_is)
    (case t4_Answer=>k_is)
    (case na_Answer_lines=>k_is)
    (case na_Answer_levels=>k_is)
    (case na_Answer_flows=>k_is)
    (case z1=>k_is)
    (case z2=>k_is)
    (case z3=>k_is)
    (case z4=>k_is)
    (case z5=>k_is)
    (case z6=>k_is)
    (case z7=>k_is)
    (case z8=>k_is)
    (case z9=>k_is)
    (case z10=>k_is)
    (case z11=>k_is)
    (case z12=>k_is)
